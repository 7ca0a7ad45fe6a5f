/- Integers' texts: strings.CutPrefix of a minus; the reading of an integer. -/
import Derived.Test.YtbcaigpdckencaaDoorQRpb
import Derived.Test.YtbcaigpdckencaaDoorQRfo
import Derived.Test.YtbcaigpdckencaaDoorQq

namespace Go.Proofs.YtbcaigpdckencaaDoor
open Go.RowKit Num

theorem cut1_eq (b : Nat) (ts : List Nat) : ((bstr (b :: ts)).extract 0 1) = bstr [b] := by
  apply ByteArray.ext
  simp [bstr, ByteArray.size]
theorem minus_eq : (ByteArray.mk #[45]) = bstr [45] := rfl
theorem minus_list (b : Nat) (hb : b < 256) : ((bstr [b]).toList == [45]) = decide (b = 45) := by
  rw [bstr_toList]
  by_cases h : b = 45
  · subst h; rfl
  · rw [decide_eq_false h, beq_eq_false_iff_ne]
    intro h2
    simp at h2
    have h3 := congrArg UInt8.toNat h2
    simp at h3
    omega

def RetCut (neg : Bool) (ts : List Nat) (w : World) (e : Ending) (w' : World) : Prop := e = .returned (.tuple #[.string (bstr ts), .bool neg]) ∧ w' = w
def Cuts (bs : List Nat) (neg : Bool) (ts : List Nat) : Prop := (neg = true ∧ bs = 45 :: ts) ∨ (neg = false ∧ bs = ts ∧ bs.head? ≠ some 45)
theorem cuts_some (bs : List Nat) : ∃ neg ts, Cuts bs neg ts := by
  by_cases h : bs.head? = some 45
  · cases bs with
    | nil => simp at h
    | cons b ts => simp at h; subst h; exact ⟨true, ts, Or.inl ⟨rfl, rfl⟩⟩
  · exact ⟨false, bs, Or.inr ⟨rfl, rfl, h⟩⟩

set_option maxRecDepth 100000 in
theorem hasMinus_any (bs : List Nat) (w : World) (neg : Bool) (ts : List Nat) (hb : ∀ b ∈ bs, b < 256) (hm : bs.length ≤ 9223372036854775807) (h : Cuts bs neg ts) :
    Calls Tryd.prog 114 #[.string (bstr bs), .string ⟨#[45]⟩] w (fun e w' => e = .returned (.bool neg) ∧ w' = w) := by
  have hsz : (bstr bs).size = bs.length := bstr_size bs
  cases bs with
  | nil =>
    obtain rfl : neg = false := by
      rcases h with ⟨_, h2⟩ | ⟨h1, _⟩
      · simp at h2
      · exact h1
    clear hb h
    go_enter Tryd.func114, Tryd.ntmps114
    go_wp2
    go_ret
    exact ⟨rfl, rfl⟩
  | cons b l =>
    obtain rfl : neg = decide (b = 45) := by
      rcases h with ⟨h1, h2⟩ | ⟨h1, _, h2⟩
      · have := (List.cons.inj h2).1; rw [h1, this]; rfl
      · rw [h1]; symm; exact decide_eq_false (fun h => h2 (by rw [h]; rfl))
    have hm1 := minus_list b (hb b (by simp))
    have hc := cut1_eq b l
    have hl : (b :: l).length = l.length + 1 := rfl
    rw [hl] at hsz hm
    have hg : (l.length : Int) + 1 ≥ 1 := by omega
    clear hb h hl
    go_enter Tryd.func114, Tryd.ntmps114
    go_wp2
    go_ret
    exact ⟨rfl, rfl⟩

set_option maxRecDepth 100000 in
theorem cutMinus0_any (bs : List Nat) (w : World) (neg : Bool) (ts : List Nat) (hb : ∀ b ∈ bs, b < 256) (hm : bs.length ≤ 9223372036854775807) (h : Cuts bs neg ts) :
    Calls Tryd.prog 103 #[.string (bstr bs), .string ⟨#[45]⟩] w (RetCut neg ts w) := by
  have hp := hasMinus_any bs w neg ts hb hm h
  have hsz : (bstr bs).size = bs.length := bstr_size bs
  rcases h with ⟨rfl, rfl⟩ | ⟨rfl, rfl, h2⟩
  · have ht := bstr_tail 45 ts
    have hl : (45 :: ts).length = ts.length + 1 := rfl
    rw [hl] at hsz hm
    rw [hsz] at ht
    have hg : (1 : Int) ≤ (ts.length : Int) + 1 := by omega
    clear hb hl
    go_enter Tryd.func103, Tryd.ntmps103
    go_wp2_with fail
    refine hp.mono ?_
    rintro e w' ⟨rfl, rfl⟩
    clear hp
    go_wp2
    go_ret2
    exact ⟨rfl, rfl⟩
  · clear hb h2
    go_enter Tryd.func103, Tryd.ntmps103
    go_wp2_with fail
    refine hp.mono ?_
    rintro e w' ⟨rfl, rfl⟩
    clear hp
    go_wp2
    go_ret2
    exact ⟨rfl, rfl⟩
set_option maxRecDepth 100000 in
theorem cutMinus_any (bs : List Nat) (w : World) (neg : Bool) (ts : List Nat) (hb : ∀ b ∈ bs, b < 256) (hm : bs.length ≤ 9223372036854775807) (h : Cuts bs neg ts) :
    Calls Tryd.prog 82 #[.string (bstr bs), .string ⟨#[45]⟩] w (RetCut neg ts w) := by
  have hp := cutMinus0_any bs w neg ts hb hm h
  clear hb h
  go_enter Tryd.func82, Tryd.ntmps82
  go_wp2_with fail
  refine hp.mono ?_
  rintro e w' ⟨rfl, rfl⟩
  clear hp
  go_wp2
  go_ret2
  exact ⟨rfl, rfl⟩

/-! the outcome of a reading -/
theorem parsed_short {bs : List Nat} {V : Nat} {er : Int} (h : Parsed bs V er) (hl : bs.length ≤ 4096) : er = 0 ∨ (er = 6 ∧ V = 0) := by
  rcases h with ⟨h1, _, _⟩ | ⟨_, h2, h3⟩ | ⟨_, _, h2, h3⟩ | ⟨_, _, _, h2, h3⟩ | ⟨_, _, _, h4⟩
  · omega
  · exact Or.inl h3
  · exact Or.inr ⟨h3, h2⟩
  · exact Or.inr ⟨h3, h2⟩
  · rcases h4 with ⟨_, _, h⟩ | ⟨_, h1, h2⟩
    · exact Or.inl h
    · exact Or.inr ⟨h2, h1⟩
def IParsed (bs : List Nat) (z er : Int) : Prop :=
  (4096 < bs.length ∧ z = 0 ∧ er = 4) ∨
  (bs.length ≤ 4096 ∧ ∃ neg ts V e, Cuts bs neg ts ∧ Parsed ts V e ∧
    ((e = 6 ∧ z = 0 ∧ er = 6) ∨ (e = 0 ∧ neg = true ∧ V = 0 ∧ z = 0 ∧ er = 6) ∨ (e = 0 ∧ ¬ (neg = true ∧ V = 0) ∧ z = iv neg V ∧ er = 0)))
theorem cuts_len {bs ts : List Nat} {neg : Bool} (h : Cuts bs neg ts) : ts.length ≤ bs.length ∧ ∀ x ∈ ts, x ∈ bs := by
  rcases h with ⟨_, rfl⟩ | ⟨_, rfl, _⟩
  · exact ⟨by simp, fun x hx => List.mem_cons_of_mem _ hx⟩
  · exact ⟨Nat.le_refl _, fun _ h => h⟩
theorem iparsed_some (bs : List Nat) : ∃ z er, IParsed bs z er := by
  by_cases h1 : 4096 < bs.length
  · exact ⟨0, 4, Or.inl ⟨h1, rfl, rfl⟩⟩
  · obtain ⟨neg, ts, hc⟩ := cuts_some bs
    obtain ⟨V, e, hp⟩ := parsed_some ts
    have hl := (cuts_len hc).1
    rcases parsed_short hp (by omega) with he | ⟨he, _⟩
    · by_cases h0 : neg = true ∧ V = 0
      · exact ⟨0, 6, Or.inr ⟨by omega, neg, ts, V, e, hc, hp, Or.inr (Or.inl ⟨he, h0.1, h0.2, rfl, rfl⟩)⟩⟩
      · exact ⟨iv neg V, 0, Or.inr ⟨by omega, neg, ts, V, e, hc, hp, Or.inr (Or.inr ⟨he, h0, rfl, rfl⟩)⟩⟩
    · exact ⟨0, 6, Or.inr ⟨by omega, neg, ts, V, e, hc, hp, Or.inl ⟨he, rfl, rfl⟩⟩⟩
/-- an integer and an error code -/
def RetIParse (z er : Int) (w : World) (e : Ending) (w' : World) : Prop :=
  ∃ ao c, e = .returned (.tuple #[.agg #[.bool (decide (z < 0)), .slice ao (nd z.natAbs).length c], .int .i64 er]) ∧ Own w.heap.size w' ao c (nd z.natAbs) ∧ Below w.heap.size w w'
/-- the result stands in its box -/
theorem RetIParse.fin {B g c4 : Nat} {z er : Int} {w w4 : World} {a4 : Option Addr} (ho : Own B w4 a4 c4 (nd z.natAbs)) (hg : g < B) (hb : Below w.heap.size w w4) (hgw : w.heap.size ≤ g) (v0 v1 : Value) :
    RetIParse z er w (.returned (.tuple #[.agg #[.bool (decide (z < 0)), .slice a4 (nd z.natAbs).length c4], .int .i64 er])) ((w4.setCell ⟨g, 0, none⟩ v0).setCell ⟨g, 1, none⟩ v1) := by
  refine ⟨a4, c4, rfl, (ho.keep fun a ha => ?_).mono (by omega), (hb.setCell (p := ⟨g, 0, none⟩) hgw _).setCell (p := ⟨g, 1, none⟩) hgw _⟩
  subst ha
  have h1 : B ≤ a.block := ho.block.1
  have h2 : a.block ≠ g := by omega
  rw [Below.heap_setCell _ ⟨g, 1, none⟩ _ _ h2, Below.heap_setCell _ ⟨g, 0, none⟩ _ _ h2]
theorem RetIParse.fin0 {g : Nat} {er : Int} {w w4 : World} (hg : g < w4.heap.size) (hb : Below w.heap.size w w4) (hgw : w.heap.size ≤ g) (v0 v1 : Value) :
    RetIParse 0 er w (.returned (.tuple #[.agg #[.bool false, .slice none 0 0], .int .i64 er])) ((w4.setCell ⟨g, 0, none⟩ v0).setCell ⟨g, 1, none⟩ v1) := by
  have h := RetIParse.fin (B := w4.heap.size) (g := g) (c4 := 0) (z := 0) (er := er) (w := w) (w4 := w4) (a4 := none) (by rw [show nd (0 : Int).natAbs = [] from nd_zero]; exact Own.nil _ _) hg hb hgw v0 v1
  rw [show nd (0 : Int).natAbs = [] from nd_zero] at h
  exact h
end Go.Proofs.YtbcaigpdckencaaDoor
