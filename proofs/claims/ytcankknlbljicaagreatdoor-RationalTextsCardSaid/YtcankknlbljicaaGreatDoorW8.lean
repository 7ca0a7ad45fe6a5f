/-  -/
import Derived.Test.YtcankknlbljicaaGreatDoorWbb
import Derived.Test.YtcankknlbljicaaGreatDoorWba
import Derived.Lib.Bytealg
import Derived.Laws.Externs

set_option linter.unusedVariables false
set_option linter.unusedSimpArgs false
set_option linter.unusedSectionVars false
set_option maxRecDepth 100000
set_option maxHeartbeats 3200000

namespace Go.Proofs.YtcankknlbljicaaGreatDoor
open Go.RowKit Num

theorem cut1_eq (b : Nat) (ts : List Nat) : ((bstr (b :: ts)).extract 0 1) = bstr [b] := by
 apply ByteArray.ext
 simp [bstr, ByteArray.size]
theorem minus_eq : (ByteArray.mk #[45]) = bstr [45] := rfl
theorem minus_list (b : Nat) (hb : b < 256) : ((bstr [b]).toList == [45]) = decide (b = 45) := by
 rw [bstr_toList]
 by_cases h : b = 45
 ·subst h; rfl
 ·rw [decide_eq_false h, beq_eq_false_iff_ne]
  intro h2
  simp at h2
  have h3 := congrArg UInt8.toNat h2
  simp at h3
  omega

def RetCut (neg : Bool) (ts : List Nat) (w : World) (e : Ending) (w' : World) : Prop := e = .returned (.tuple #[.string (bstr ts), .bool neg]) ∧ w' = w
def Cuts (bs : List Nat) (neg : Bool) (ts : List Nat) : Prop := (neg = true ∧ bs = 45 :: ts) ∨ (neg = false ∧ bs = ts ∧ bs.head? ≠ some 45)
theorem cuts_some (bs : List Nat) : ∃ neg ts, Cuts bs neg ts := by
 by_cases h : bs.head? = some 45
 ·cases bs with
  | nil => simp at h
  | cons b ts => simp at h; subst h; exact ⟨true, ts, Or.inl ⟨rfl, rfl⟩⟩
 ·exact ⟨false, bs, Or.inr ⟨rfl, rfl, h⟩⟩

theorem hasMinus_any (bs : List Nat) (w : World) (neg : Bool) (ts : List Nat) (hb : ∀ b ∈ bs, b < 256) (hm : bs.length ≤ 9223372036854775807) (h : Cuts bs neg ts) :
  Calls Tryz.prog 224 #[.string (bstr bs), .string ⟨#[45]⟩] w (fun e w' => e = .returned (.bool neg) ∧ w' = w) := by
 have hsz : (bstr bs).size = bs.length := bstr_size bs
 cases bs with
 | nil =>
  obtain rfl : neg = false := by
   rcases h with ⟨_, h2⟩ | ⟨h1, _⟩
   ·simp at h2
   ·exact h1
  clear hb h
  go_enter Tryz.func224, Tryz.ntmps224
  go_wp2
  go_ret
  exact ⟨rfl, rfl⟩
 | cons b l =>
  obtain rfl : neg = decide (b = 45) := by
   rcases h with ⟨h1, h2⟩ | ⟨h1, _, h2⟩
   ·have := (List.cons.inj h2).1; rw [h1, this]; rfl
   ·rw [h1]; symm; exact decide_eq_false (fun h => h2 (by rw [h]; rfl))
  have hm1 := minus_list b (hb b (by simp))
  have hc := cut1_eq b l
  have hl : (b :: l).length = l.length + 1 := rfl
  rw [hl] at hsz hm
  have hg : (l.length : Int) + 1 ≥ 1 := by omega
  clear hb h hl
  go_enter Tryz.func224, Tryz.ntmps224
  go_wp2
  go_ret
  exact ⟨rfl, rfl⟩

theorem cutMinus0_any (bs : List Nat) (w : World) (neg : Bool) (ts : List Nat) (hb : ∀ b ∈ bs, b < 256) (hm : bs.length ≤ 9223372036854775807) (h : Cuts bs neg ts) :
  Calls Tryz.prog 195 #[.string (bstr bs), .string ⟨#[45]⟩] w (RetCut neg ts w) := by
 have hp := hasMinus_any bs w neg ts hb hm h
 have hsz : (bstr bs).size = bs.length := bstr_size bs
 rcases h with ⟨rfl, rfl⟩ | ⟨rfl, rfl, h2⟩
 ·have ht := bstr_tail 45 ts
  have hl : (45 :: ts).length = ts.length + 1 := rfl
  rw [hl] at hsz hm
  rw [hsz] at ht
  have hg : (1 : Int) ≤ (ts.length : Int) + 1 := by omega
  clear hb hl
  go_enter Tryz.func195, Tryz.ntmps195
  go_wp2_with fail
  refine hp.mono ?_
  rintro e w' ⟨rfl, rfl⟩
  clear hp
  go_wp2
  go_ret2
  exact ⟨rfl, rfl⟩
 ·clear hb h2
  go_enter Tryz.func195, Tryz.ntmps195
  go_wp2_with fail
  refine hp.mono ?_
  rintro e w' ⟨rfl, rfl⟩
  clear hp
  go_wp2
  go_ret2
  exact ⟨rfl, rfl⟩
theorem cutMinus_any (bs : List Nat) (w : World) (neg : Bool) (ts : List Nat) (hb : ∀ b ∈ bs, b < 256) (hm : bs.length ≤ 9223372036854775807) (h : Cuts bs neg ts) :
  Calls Tryz.prog 144 #[.string (bstr bs), .string ⟨#[45]⟩] w (RetCut neg ts w) := by
 have hp := cutMinus0_any bs w neg ts hb hm h
 clear hb h
 go_enter Tryz.func144, Tryz.ntmps144
 go_wp2_with fail
 refine hp.mono ?_
 rintro e w' ⟨rfl, rfl⟩
 clear hp
 go_wp2
 go_ret2
 exact ⟨rfl, rfl⟩


theorem parsed_short {bs : List Nat} {V : Nat} {er : Int} (h : Parsed bs V er) (hl : bs.length ≤ 4096) : er = 0 ∨ (er = 6 ∧ V = 0) := by
 rcases h with ⟨h1, _, _⟩ | ⟨_, h2, h3⟩ | ⟨_, _, h2, h3⟩ | ⟨_, _, _, h2, h3⟩ | ⟨_, _, _, h4⟩
 ·omega
 ·exact Or.inl h3
 ·exact Or.inr ⟨h3, h2⟩
 ·exact Or.inr ⟨h3, h2⟩
 ·rcases h4 with ⟨_, _, h⟩ | ⟨_, h1, h2⟩
  ·exact Or.inl h
  ·exact Or.inr ⟨h2, h1⟩
def IParsed (bs : List Nat) (z er : Int) : Prop :=
 (4096 < bs.length ∧ z = 0 ∧ er = 4) ∨
 (bs.length ≤ 4096 ∧ ∃ neg ts V e, Cuts bs neg ts ∧ Parsed ts V e ∧
  ((e = 6 ∧ z = 0 ∧ er = 6) ∨ (e = 0 ∧ neg = true ∧ V = 0 ∧ z = 0 ∧ er = 6) ∨ (e = 0 ∧ ¬ (neg = true ∧ V = 0) ∧ z = iv neg V ∧ er = 0)))
theorem cuts_len {bs ts : List Nat} {neg : Bool} (h : Cuts bs neg ts) : ts.length ≤ bs.length ∧ ∀ x ∈ ts, x ∈ bs := by
 rcases h with ⟨_, rfl⟩ | ⟨_, rfl, _⟩
 ·exact ⟨by simp, fun x hx => List.mem_cons_of_mem _ hx⟩
 ·exact ⟨Nat.le_refl _, fun _ h => h⟩
theorem iparsed_some (bs : List Nat) : ∃ z er, IParsed bs z er := by
 by_cases h1 : 4096 < bs.length
 ·exact ⟨0, 4, Or.inl ⟨h1, rfl, rfl⟩⟩
 ·obtain ⟨neg, ts, hc⟩ := cuts_some bs
  obtain ⟨V, e, hp⟩ := parsed_some ts
  have hl := (cuts_len hc).1
  rcases parsed_short hp (by omega) with he | ⟨he, _⟩
  ·by_cases h0 : neg = true ∧ V = 0
   ·exact ⟨0, 6, Or.inr ⟨by omega, neg, ts, V, e, hc, hp, Or.inr (Or.inl ⟨he, h0.1, h0.2, rfl, rfl⟩)⟩⟩
   ·exact ⟨iv neg V, 0, Or.inr ⟨by omega, neg, ts, V, e, hc, hp, Or.inr (Or.inr ⟨he, h0, rfl, rfl⟩)⟩⟩
  ·exact ⟨0, 6, Or.inr ⟨by omega, neg, ts, V, e, hc, hp, Or.inl ⟨he, rfl, rfl⟩⟩⟩
def RetIParse (z er : Int) (w : World) (e : Ending) (w' : World) : Prop :=
 ∃ ao c, e = .returned (.tuple #[.agg #[.bool (decide (z < 0)), .slice ao (nd z.natAbs).length c], .int .i64 er]) ∧ Own w.heap.size w' ao c (nd z.natAbs) ∧ Below w.heap.size w w'
theorem RetIParse.fin {B g c4 : Nat} {z er : Int} {w w4 : World} {a4 : Option Addr} (ho : Own B w4 a4 c4 (nd z.natAbs)) (hg : g < B) (hb : Below w.heap.size w w4) (hgw : w.heap.size ≤ g) (v0 v1 : Value) :
  RetIParse z er w (.returned (.tuple #[.agg #[.bool (decide (z < 0)), .slice a4 (nd z.natAbs).length c4], .int .i64 er])) ((w4.setCell ⟨g, 0, none⟩ v0).setCell ⟨g, 1, none⟩ v1) := by
 refine ⟨a4, c4, rfl, (ho.keep fun a ha => ?_).mono (by omega), (hb.setCell (p := ⟨g, 0, none⟩) hgw _).setCell (p := ⟨g, 1, none⟩) hgw _⟩
 subst ha
 have h1 : B ≤ a.block := ho.block.1
 have h2 : a.block ≠ g := by omega
 rw [Below.heap_setCell _ ⟨g, 1, none⟩ _ _ h2, Below.heap_setCell _ ⟨g, 0, none⟩ _ _ h2]
theorem RetIParse.fin0 {g : Nat} {er : Int} {w w4 : World} (hg : g < w4.heap.size) (hb : Below w.heap.size w w4) (hgw : w.heap.size ≤ g) (v0 v1 : Value) :
  RetIParse 0 er w (.returned (.tuple #[.agg #[.bool false, .slice none 0 0], .int .i64 er])) ((w4.setCell ⟨g, 0, none⟩ v0).setCell ⟨g, 1, none⟩ v1) := by
 have h := RetIParse.fin (B := w4.heap.size) (g := g) (c4 := 0) (z := 0) (er := er) (w := w) (w4 := w4) (a4 := none) (by rw [show nd (0 : Int).natAbs = [] from nd_zero]; exact Own.nil _ _) hg hb hgw v0 v1
 rw [show nd (0 : Int).natAbs = [] from nd_zero] at h
 exact h
end Go.Proofs.YtcankknlbljicaaGreatDoor

namespace Go.Proofs.YtcankknlbljicaaGreatDoor
open Go.RowKit Num

theorem bstr_ex0 (a r : List Nat) : (bstr (a ++ r)).extract 0 a.length = bstr a := by
 apply ByteArray.ext
 simp [bstr]
theorem bstr_ex1 (a r : List Nat) (x : Nat) : (bstr (a ++ x :: r)).extract (a.length + 1) (a.length + 1 + r.length) = bstr r := by
 apply ByteArray.ext
 have e : a ++ x :: r = (a ++ [x]) ++ r := by simp
 rw [e]
 have e2 : a.length + 1 = (a ++ [x]).length := by simp
 rw [e2]
 generalize a ++ [x] = b
 simp [bstr]
 exact List.take_of_length_le (by simp)
def CutS (bs a r : List Nat) (f : Bool) : Prop := (f = true ∧ bs = a ++ 47 :: r ∧ 47 ∉ a) ∨ (f = false ∧ a = bs ∧ r = [] ∧ 47 ∉ bs)
theorem cutS_some (bs : List Nat) : ∃ a r f, CutS bs a r f := by
 by_cases h : 47 ∈ bs
 ·obtain ⟨a, r, h1, h2⟩ := List.eq_append_cons_of_mem h
  exact ⟨a, r, true, Or.inl ⟨rfl, h1, h2⟩⟩
 ·exact ⟨bs, [], false, Or.inr ⟨rfl, rfl, rfl, h⟩⟩
def idxL (bs a : List Nat) (f : Bool) : Int := if f = true then (a.length : Int) else -1
theorem ofNat_slash {b : Nat} (h : b < 256) (hn : b ≠ 47) : (UInt8.ofNat b == (47 : UInt8)) = false := by
 rw [beq_eq_false_iff_ne]
 intro he
 have := congrArg UInt8.toNat he
 rw [UInt8.toNat_ofNat_of_lt' (by simpa [UInt8.size] using h)] at this
 exact hn (by simpa using this)
theorem index_hit (a r : List Nat) (ha : ∀ b ∈ a, b < 256) (h : 47 ∉ a) : Lib.indexByte ((a ++ 47 :: r).map UInt8.ofNat) 47 = (a.length : Int) := by
 induction a with
 | nil => rfl
 | cons x a ih =>
  have hx : x ≠ 47 := fun e => h (by rw [e]; simp)
  have h2 := ih (fun b hb => ha b (by simp [hb])) (fun hm => h (by simp [hm]))
  rw [List.cons_append, List.map_cons, Lib.indexByte, ofNat_slash (ha x (by simp)) hx, h2]
  have e : (((a.length : Nat) : Int) == -1) = false := by rw [beq_eq_false_iff_ne]; omega
  simp only [e, Bool.false_eq_true, if_false, List.length_cons]
  omega
theorem index_miss (a : List Nat) (ha : ∀ b ∈ a, b < 256) (h : 47 ∉ a) : Lib.indexByte (a.map UInt8.ofNat) 47 = -1 := by
 induction a with
 | nil => rfl
 | cons x a ih =>
  have hx : x ≠ 47 := fun e => h (by rw [e]; simp)
  have h2 := ih (fun b hb => ha b (by simp [hb])) (fun hm => h (by simp [hm]))
  rw [List.map_cons, Lib.indexByte, ofNat_slash (ha x (by simp)) hx, h2]
  rfl
theorem index_slash {bs a r : List Nat} {f : Bool} (h : CutS bs a r f) (hb : ∀ b ∈ bs, b < 256) : Lib.indexByte (bstr bs).data.toList (47 : Int).toNat.toUInt8 = idxL bs a f := by
 have e : (bstr bs).data.toList = bs.map UInt8.ofNat := by simp [bstr]
 have ec : (47 : Int).toNat.toUInt8 = 47 := rfl
 rw [e, ec]
 rcases h with ⟨rfl, rfl, h2⟩ | ⟨rfl, rfl, rfl, h2⟩
 ·rw [index_hit a r (fun b hx => hb b (by simp [hx])) h2]; rfl
 ·rw [index_miss a hb h2]; rfl
theorem idxb_any (bs a r : List Nat) (f : Bool) (w : World) (h : CutS bs a r f) (hb : ∀ b ∈ bs, b < 256) :
  Calls Tryz.prog 220 #[.string (bstr bs), .int .u8 47] w (Ret (.int .i64 (idxL bs a f)) w) := by
 have hi := index_slash h hb
 have he := run_callFunc_extern (P := Tryz.prog) (f := 242) (fn := Tryz.f242) (by kernel_rfl) (by kernel_rfl) (by kernel_rfl) (by kernel_rfl) (e := Extern.BytealgIndexByte.indexByte) (by kernel_rfl) #[.string (bstr bs), .int .u8 47] w
 rw [Lib.run_indexByteString, hi] at he
 simp only [Result.andThen] at he
 clear hi h hb
 go_enter Tryz.func220, Tryz.ntmps220
 go_wp2
 go_ret
 exact ⟨rfl, rfl⟩

theorem idx_any (bs a r : List Nat) (f : Bool) (w : World) (h : CutS bs a r f) (hb : ∀ b ∈ bs, b < 256) (hm : bs.length ≤ 9223372036854775807) :
  Calls Tryz.prog 194 #[.string (bstr bs), .string ⟨#[47]⟩] w (Ret (.int .i64 (idxL bs a f)) w) := by
 have hsz : (bstr bs).size = bs.length := bstr_size bs
 have hc := idxb_any bs a r f w h hb
 by_cases h1 : bs = [47]
 ·have h0 : idxL bs a f = 0 := by
   rcases h with ⟨rfl, h2, h3⟩ | ⟨rfl, rfl, rfl, h2⟩
   ·cases a with
    | nil => rfl
    | cons x a => rw [h1] at h2; simp at h2
   ·rw [h1] at h2; simp at h2
  have he : ([47] == (bstr bs).toList) = true := by rw [h1, bstr_toList]; rfl
  have he2 : ((bstr bs).toList == [47]) = true := by rw [h1, bstr_toList]; rfl
  rw [h0]
  clear h hb hc h1 h0
  go_enter Tryz.func194, Tryz.ntmps194
  go_wp2_with fail
  go_ret
  exact ⟨rfl, rfl⟩
 ·have hne : (bstr bs).toList ≠ [47] := by
   rw [bstr_toList]
   intro he
   cases bs with
   | nil => simp at he
   | cons x xs =>
    cases xs with
    | nil =>
     have hx := hb x (by simp)
     have h3 : x ≠ 47 := fun e => h1 (by rw [e])
     have h4 := ofNat_slash hx h3
     rw [beq_eq_false_iff_ne] at h4
     simp at he
     exact h4 he
    | cons y ys => simp at he
  have he2 : ((bstr bs).toList == [47]) = false := by rw [beq_eq_false_iff_ne]; exact hne
  have he : ([47] == (bstr bs).toList) = false := by rw [beq_eq_false_iff_ne]; exact fun h => hne h.symm
  clear hne
  clear h hb h1
  go_enter Tryz.func194, Tryz.ntmps194
  go_wp2_with fail
  refine hc.mono ?_
  rintro e w' ⟨rfl, rfl⟩
  clear hc
  go_wp2
  go_ret
  exact ⟨rfl, rfl⟩
theorem cut0_any (bs a r : List Nat) (f : Bool) (w : World) (h : CutS bs a r f) (hb : ∀ b ∈ bs, b < 256) (hm : bs.length ≤ 9223372036854775800) :
  Calls Tryz.prog 143 #[.string (bstr bs), .string ⟨#[47]⟩] w (RetQ (.tuple #[.string (bstr a), .string (bstr r), .bool f]) w) := by
 have hc := idx_any bs a r f w h hb (by omega)
 have hsz : (bstr bs).size = bs.length := bstr_size bs
 rcases h with ⟨rfl, rfl, h2⟩ | ⟨rfl, rfl, rfl, h2⟩
 ·have hi : idxL (a ++ 47 :: r) a true = (a.length : Int) := rfl
  rw [hi] at hc
  have c0 : (0 : Int) ≤ (a.length : Int) := by omega
  have hl : (a ++ 47 :: r).length = a.length + 1 + r.length := by simp; omega
  rw [hl] at hsz hm
  have c1 : (a.length : Int) ≤ ((bstr (a ++ 47 :: r)).size : Int) := by omega
  have c2 : (a.length : Int) + 1 ≤ ((bstr (a ++ 47 :: r)).size : Int) := by omega
  have c3 : (0 : Int) ≤ (a.length : Int) + 1 := by omega
  have x1 := bstr_ex0 a (47 :: r)
  have x2 := bstr_ex1 a r 47
  clear h2 hb hi
  go_enter Tryz.func143, Tryz.ntmps143
  go_wp2_with fail
  refine hc.mono ?_
  rintro e w' ⟨rfl, rfl⟩
  clear hc
  go_wp2
  go_region
  all_goals
   go_wp2
   go_ret3
   exact ⟨rfl, 1, rfl⟩
 ·have hi : idxL a a false = -1 := rfl
  rw [hi] at hc
  clear h2 hb hi
  go_enter Tryz.func143, Tryz.ntmps143
  go_wp2_with fail
  refine hc.mono ?_
  rintro e w' ⟨rfl, rfl⟩
  clear hc
  go_wp2
  go_ret3
  exact ⟨rfl, 0, rfl⟩
theorem cut_slash (bs a r : List Nat) (f : Bool) (w : World) (h : CutS bs a r f) (hb : ∀ b ∈ bs, b < 256) (hm : bs.length ≤ 9223372036854775800) :
  Calls Tryz.prog 79 #[.string (bstr bs), .string ⟨#[47]⟩] w (RetQ (.tuple #[.string (bstr a), .string (bstr r), .bool f]) w) := by
 have hc := cut0_any bs a r f w h hb hm
 clear h hb hm
 go_enter Tryz.func79, Tryz.ntmps79
 go_wp2_with fail
 refine hc.mono ?_
 rintro e w' ⟨rfl, q, rfl⟩
 clear hc
 go_wp2
 go_ret3
 exact ⟨rfl, q, rfl⟩
end Go.Proofs.YtcankknlbljicaaGreatDoor

namespace Go.Proofs.YtcankknlbljicaaGreatDoor
open Go.RowKit Num

theorem head_byte (bs : List Nat) (neg : Bool) (ts : List Nat) (h : Cuts bs neg ts) (h0 : 0 < (bstr bs).size) (hb : ∀ b ∈ bs, b < 256) : ((((bstr bs)[0]'h0).toNat : Int) == 45) = neg := by
 rw [bstr_get _ hb]
 rcases h with ⟨rfl, rfl⟩ | ⟨rfl, rfl, h2⟩
 ·rfl
 ·rw [beq_eq_false_iff_ne]
  intro h3
  cases bs with
  | nil => simp [bstr_size] at h0
  | cons b l => simp at h3; exact h2 (by simp; omega)
theorem iv_keep {neg : Bool} {V : Nat} (h : ¬ (neg = true ∧ V = 0)) : decide (iv neg V < 0) = neg := by
 rw [iv_neg]
 cases neg with
 | false => rfl
 | true => simp; exact Nat.pos_of_ne_zero fun h2 => h ⟨rfl, h2⟩

set_option maxRecDepth 1000000 in
theorem iparse_any (bs : List Nat) (w : World) (z er : Int) (hb : ∀ b ∈ bs, b < 256) (hm : bs.length ≤ 9223372036854775807) (h : IParsed bs z er) :
  Calls Tryz.prog 81 #[.string (bstr bs)] w (RetIParse z er w) := by
 have hsz : (bstr bs).size = bs.length := bstr_size bs
 have hb1 := below_alloc w (.cells #[.bool false, .slice none 0 0] 24)
 have hz1 : (w.alloc (.cells #[.bool false, .slice none 0 0] 24)).heap.size = w.heap.size + 1 := by simp
 have hP := heap_alloc_at w (.cells #[.bool false, .slice none 0 0] 24)
 rcases h with ⟨h1, rfl, rfl⟩ | ⟨h1, neg, ts, V, e, hc, hp, h2⟩
 ·have hi : (bs.length : Int) > 4096 := by omega
  have H := hid (below_alloc w (.cells #[.bool false, .slice none 0 0] 24))
  clear hb hb1 hz1 hP
  go_enter Tryz.func81, Tryz.ntmps81
  go_wp2
  refine bodyPost_ret (v := .tuple #[.agg #[.bool false, .slice none 0 0], .int .i64 4]) (by simp [results, Tryz.results81, go_sem]) rfl ?_
  exact ⟨none, 0, by rw [show nd (0 : Int).natAbs = [] from nd_zero]; rfl, by rw [show nd (0 : Int).natAbs = [] from nd_zero]; exact Own.nil _ _, H.out⟩
 have hi : ¬ ((bs.length : Int) > 4096) := by omega
 have htl := cuts_len hc
 have HPZ := hid (And.intro hb1 (And.intro hz1 hP))
 have hcp := parse_any ts (w.alloc (.cells #[.bool false, .slice none 0 0] 24)) V e (fun x hx => hb x (htl.2 x hx)) (by omega) hp
 have hcut := cutMinus_any bs (w.alloc (.cells #[.bool false, .slice none 0 0] 24)) neg ts hb hm hc
 rcases h2 with ⟨rfl, rfl, rfl⟩ | ⟨rfl, rfl, rfl, rfl, rfl⟩ | ⟨rfl, h2, rfl, rfl⟩
 ·cases neg
  ·skip
   clear hb hc hp htl hb1 hz1 hP
   go_enter Tryz.func81, Tryz.ntmps81
   go_wp2_with fail
   refine hcut.mono ?_
   rintro e w' ⟨rfl, rfl⟩
   clear hcut
   go_wp2_with fail
   refine hcp.mono ?_
   rintro e w2 ⟨a2, c2, rfl, o2, b2⟩
   obtain ⟨k0, k1, k2, k3⟩ := pair_cells HPZ.out.2.2 b2
   have hb02 := HPZ.out.1.trans (b2.mono HPZ.out.1.size)
   have HO := hid (And.intro o2 (And.intro b2 hb02))
   clear hcp o2 b2 hb02
   go_wp2
   have hz := HPZ.out.2.1
   have hs := HO.out.2.1.size
   refine bodyPost_ret (v := .tuple #[.agg #[.bool false, .slice none 0 0], .int .i64 6]) (by simp [results, Tryz.results81, go_sem, k0, k1]) rfl ?_
   exact RetIParse.fin0 (by omega) HO.out.2.2 (Nat.le_refl _) _ _
  ·skip
   clear hb hc hp htl hb1 hz1 hP
   go_enter Tryz.func81, Tryz.ntmps81
   go_wp2_with fail
   refine hcut.mono ?_
   rintro e w' ⟨rfl, rfl⟩
   clear hcut
   go_wp2_with fail
   refine hcp.mono ?_
   rintro e w2 ⟨a2, c2, rfl, o2, b2⟩
   obtain ⟨k0, k1, k2, k3⟩ := pair_cells HPZ.out.2.2 b2
   have hb02 := HPZ.out.1.trans (b2.mono HPZ.out.1.size)
   have HO := hid (And.intro o2 (And.intro b2 hb02))
   clear hcp o2 b2 hb02
   go_wp2
   have hz := HPZ.out.2.1
   have hs := HO.out.2.1.size
   refine bodyPost_ret (v := .tuple #[.agg #[.bool false, .slice none 0 0], .int .i64 6]) (by simp [results, Tryz.results81, go_sem, k0, k1]) rfl ?_
   exact RetIParse.fin0 (by omega) HO.out.2.2 (Nat.le_refl _) _ _
 ·have hn0 : (((nd 0).length : Int) == 0) = true := by rw [nd_zero]; rfl
  clear hb hc hp htl hb1 hz1 hP
  go_enter Tryz.func81, Tryz.ntmps81
  go_wp2_with fail
  refine hcut.mono ?_
  rintro e w' ⟨rfl, rfl⟩
  clear hcut
  go_wp2_with fail
  refine hcp.mono ?_
  rintro e w2 ⟨a2, c2, rfl, o2, b2⟩
  obtain ⟨k0, k1, k2, k3⟩ := pair_cells HPZ.out.2.2 b2
  have hb02 := HPZ.out.1.trans (b2.mono HPZ.out.1.size)
  have HO := hid (And.intro o2 (And.intro b2 hb02))
  clear hcp o2 b2 hb02
  go_wp2
  have hz := HPZ.out.2.1
  have hs := HO.out.2.1.size
  refine bodyPost_ret (v := .tuple #[.agg #[.bool false, .slice none 0 0], .int .i64 6]) (by simp [results, Tryz.results81, go_sem, k0, k1]) rfl ?_
  exact RetIParse.fin0 (by omega) HO.out.2.2 (Nat.le_refl _) _ _
 ·have HK := hid (iv_keep h2)
  cases neg
  ·clear h2
   clear hb hc hp htl hb1 hz1 hP
   go_enter Tryz.func81, Tryz.ntmps81
   go_wp2_with fail
   refine hcut.mono ?_
   rintro e w' ⟨rfl, rfl⟩
   clear hcut
   go_wp2_with fail
   refine hcp.mono ?_
   rintro e w2 ⟨a2, c2, rfl, o2, b2⟩
   obtain ⟨k0, k1, k2, k3⟩ := pair_cells HPZ.out.2.2 b2
   have hb02 := HPZ.out.1.trans (b2.mono HPZ.out.1.size)
   have HO := hid (And.intro o2 (And.intro b2 hb02))
   clear hcp o2 b2 hb02
   have hsg := signed_any _ false a2 c2 V w2 HO.out.1
   go_wp2_with fail
   refine hsg.mono ?_
   rintro e w3 ⟨a3, c3, rfl, o3, b3⟩
   have b13 := HO.out.2.1.trans (b3.mono HO.out.2.1.size)
   clear k0 k1 k2 k3 hsg
   obtain ⟨k0, k1, k2, k3⟩ := pair_cells HPZ.out.2.2 b13
   have H3 := hid (And.intro o3 (HPZ.out.1.trans (b13.mono HPZ.out.1.size)))
   clear o3 b3 b13
   go_wp2
   have hz := HPZ.out.2.1
   refine bodyPost_ret (v := .tuple #[.agg #[.bool (decide (iv false V < 0)), .slice a3 (nd (iv false V).natAbs).length c3], .int .i64 0]) (by simp [results, Tryz.results81, go_sem, k0, k1]) rfl ?_
   exact RetIParse.fin H3.out.1 (by omega) H3.out.2 (Nat.le_refl _) _ _
  ·have hv : V ≠ 0 := fun h => h2 ⟨rfl, h⟩
   have hn0 : (((nd V).length : Int) == 0) = false := by
    rw [beq_eq_false_iff_ne]
    intro h
    exact hv (nd_eq_nil.1 (List.eq_nil_of_length_eq_zero (by omega)))
   clear h2 hv
   clear hb hc hp htl hb1 hz1 hP
   go_enter Tryz.func81, Tryz.ntmps81
   go_wp2_with fail
   refine hcut.mono ?_
   rintro e w' ⟨rfl, rfl⟩
   clear hcut
   go_wp2_with fail
   refine hcp.mono ?_
   rintro e w2 ⟨a2, c2, rfl, o2, b2⟩
   obtain ⟨k0, k1, k2, k3⟩ := pair_cells HPZ.out.2.2 b2
   have hb02 := HPZ.out.1.trans (b2.mono HPZ.out.1.size)
   have HO := hid (And.intro o2 (And.intro b2 hb02))
   clear hcp o2 b2 hb02
   have hsg := signed_any _ true a2 c2 V w2 HO.out.1
   go_wp2_with fail
   refine hsg.mono ?_
   rintro e w3 ⟨a3, c3, rfl, o3, b3⟩
   have b13 := HO.out.2.1.trans (b3.mono HO.out.2.1.size)
   clear k0 k1 k2 k3 hsg
   obtain ⟨k0, k1, k2, k3⟩ := pair_cells HPZ.out.2.2 b13
   have H3 := hid (And.intro o3 (HPZ.out.1.trans (b13.mono HPZ.out.1.size)))
   clear o3 b3 b13
   go_wp2
   have hz := HPZ.out.2.1
   refine bodyPost_ret (v := .tuple #[.agg #[.bool (decide (iv true V < 0)), .slice a3 (nd (iv true V).natAbs).length c3], .int .i64 0]) (by simp [results, Tryz.results81, go_sem, k0, k1]) rfl ?_
   exact RetIParse.fin H3.out.1 (by omega) H3.out.2 (Nat.le_refl _) _ _

set_option maxRecDepth 1000000 in
theorem riparse_any (bs : List Nat) (w : World) (z er : Int) (hb : ∀ b ∈ bs, b < 256) (hm : bs.length ≤ 9223372036854775807) (h : IParsed bs z er) :
  Calls Tryz.prog 85 #[.string (bstr bs)] w (RetIParse z er w) := by
 have hsz : (bstr bs).size = bs.length := bstr_size bs
 have hb1 := below_alloc w (.cells #[.bool false, .slice none 0 0] 24)
 have hz1 : (w.alloc (.cells #[.bool false, .slice none 0 0] 24)).heap.size = w.heap.size + 1 := by simp
 have hP := heap_alloc_at w (.cells #[.bool false, .slice none 0 0] 24)
 rcases h with ⟨h1, rfl, rfl⟩ | ⟨h1, neg, ts, V, e, hc, hp, h2⟩
 ·have hi : (bs.length : Int) > 4096 := by omega
  have H := hid (below_alloc w (.cells #[.bool false, .slice none 0 0] 24))
  clear hb hb1 hz1 hP
  go_enter Tryz.func85, Tryz.ntmps85
  go_wp2
  refine bodyPost_ret (v := .tuple #[.agg #[.bool false, .slice none 0 0], .int .i64 4]) (by simp [results, Tryz.results85, go_sem]) rfl ?_
  exact ⟨none, 0, by rw [show nd (0 : Int).natAbs = [] from nd_zero]; rfl, by rw [show nd (0 : Int).natAbs = [] from nd_zero]; exact Own.nil _ _, H.out⟩
 have hi : ¬ ((bs.length : Int) > 4096) := by omega
 have htl := cuts_len hc
 have HPZ := hid (And.intro hb1 (And.intro hz1 hP))
 have hcp := rparse_any ts (w.alloc (.cells #[.bool false, .slice none 0 0] 24)) V e (fun x hx => hb x (htl.2 x hx)) (by omega) hp
 rcases h2 with ⟨rfl, rfl, rfl⟩ | ⟨rfl, rfl, rfl, rfl, rfl⟩ | ⟨rfl, h2, rfl, rfl⟩
 ·cases neg
  ·skip
   have hts : bs = ts := by
    rcases hc with ⟨h9, _⟩ | ⟨_, h9, _⟩
    ·exact absurd h9 (by simp)
    ·exact h9
   subst hts
   by_cases hn : bs.length = 0
   ·have hg : ¬ ((bs.length : Int) > 0) := by omega
    clear hb hc hp htl hb1 hz1 hP hn
    go_enter Tryz.func85, Tryz.ntmps85
    go_wp2_with fail
    refine hcp.mono ?_
    rintro e w2 ⟨a2, c2, rfl, o2, b2⟩
    obtain ⟨k0, k1, k2, k3⟩ := pair_cells HPZ.out.2.2 b2
    have hb02 := HPZ.out.1.trans (b2.mono HPZ.out.1.size)
    have HO := hid (And.intro o2 (And.intro b2 hb02))
    clear hcp o2 b2 hb02
    go_wp2
    have hz := HPZ.out.2.1
    have hs := HO.out.2.1.size
    refine bodyPost_ret (v := .tuple #[.agg #[.bool false, .slice none 0 0], .int .i64 6]) (by simp [results, Tryz.results85, go_sem, k0, k1]) rfl ?_
    exact RetIParse.fin0 (by omega) HO.out.2.2 (Nat.le_refl _) _ _
   ·have hg : (bs.length : Int) > 0 := by omega
    have hp0 : 0 < (bstr bs).size := by rw [hsz]; omega
    have h45 := head_byte bs false bs hc hp0 hb
    clear hb hc hp htl hb1 hz1 hP hn
    go_enter Tryz.func85, Tryz.ntmps85
    go_wp2_with fail
    refine hcp.mono ?_
    rintro e w2 ⟨a2, c2, rfl, o2, b2⟩
    obtain ⟨k0, k1, k2, k3⟩ := pair_cells HPZ.out.2.2 b2
    have hb02 := HPZ.out.1.trans (b2.mono HPZ.out.1.size)
    have HO := hid (And.intro o2 (And.intro b2 hb02))
    clear hcp o2 b2 hb02
    go_wp2
    have hz := HPZ.out.2.1
    have hs := HO.out.2.1.size
    refine bodyPost_ret (v := .tuple #[.agg #[.bool false, .slice none 0 0], .int .i64 6]) (by simp [results, Tryz.results85, go_sem, k0, k1]) rfl ?_
    exact RetIParse.fin0 (by omega) HO.out.2.2 (Nat.le_refl _) _ _
  ·skip
   have h45 : ∀ h0, ((((bstr bs)[0]'h0).toNat : Int) == 45) = true := fun h0 => head_byte bs true ts hc h0 hb
   have hbt : bs = 45 :: ts := by
    rcases hc with ⟨_, h9⟩ | ⟨h9, _⟩
    ·exact h9
    ·exact absurd h9 (by simp)
   clear hc
   subst hbt
   have hl : (45 :: ts).length = ts.length + 1 := rfl
   rw [hl] at hsz hm hi
   have ht := bstr_tail 45 ts
   rw [hsz] at ht
   have hp0 : 0 < (bstr (45 :: ts)).size := by rw [hsz]; omega
   replace h45 := h45 hp0
   have hg : (0 : Int) < (ts.length : Int) + 1 := by omega
   have hg2 : (ts.length : Int) + 1 > 0 := by omega
   have hg3 : (1 : Int) ≤ (ts.length : Int) + 1 := by omega
   clear hb hp htl hb1 hz1 hP hl
   go_enter Tryz.func85, Tryz.ntmps85
   go_wp2_with fail
   refine hcp.mono ?_
   rintro e w2 ⟨a2, c2, rfl, o2, b2⟩
   obtain ⟨k0, k1, k2, k3⟩ := pair_cells HPZ.out.2.2 b2
   have hb02 := HPZ.out.1.trans (b2.mono HPZ.out.1.size)
   have HO := hid (And.intro o2 (And.intro b2 hb02))
   clear hcp o2 b2 hb02
   go_wp2
   have hz := HPZ.out.2.1
   have hs := HO.out.2.1.size
   refine bodyPost_ret (v := .tuple #[.agg #[.bool false, .slice none 0 0], .int .i64 6]) (by simp [results, Tryz.results85, go_sem, k0, k1]) rfl ?_
   exact RetIParse.fin0 (by omega) HO.out.2.2 (Nat.le_refl _) _ _
 ·have hn0 : (((nd 0).length : Int) == 0) = true := by rw [nd_zero]; rfl
  have h45 : ∀ h0, ((((bstr bs)[0]'h0).toNat : Int) == 45) = true := fun h0 => head_byte bs true ts hc h0 hb
  have hbt : bs = 45 :: ts := by
   rcases hc with ⟨_, h9⟩ | ⟨h9, _⟩
   ·exact h9
   ·exact absurd h9 (by simp)
  clear hc
  subst hbt
  have hl : (45 :: ts).length = ts.length + 1 := rfl
  rw [hl] at hsz hm hi
  have ht := bstr_tail 45 ts
  rw [hsz] at ht
  have hp0 : 0 < (bstr (45 :: ts)).size := by rw [hsz]; omega
  replace h45 := h45 hp0
  have hg : (0 : Int) < (ts.length : Int) + 1 := by omega
  have hg2 : (ts.length : Int) + 1 > 0 := by omega
  have hg3 : (1 : Int) ≤ (ts.length : Int) + 1 := by omega
  clear hb hp htl hb1 hz1 hP hl
  go_enter Tryz.func85, Tryz.ntmps85
  go_wp2_with fail
  refine hcp.mono ?_
  rintro e w2 ⟨a2, c2, rfl, o2, b2⟩
  obtain ⟨k0, k1, k2, k3⟩ := pair_cells HPZ.out.2.2 b2
  have hb02 := HPZ.out.1.trans (b2.mono HPZ.out.1.size)
  have HO := hid (And.intro o2 (And.intro b2 hb02))
  clear hcp o2 b2 hb02
  go_wp2
  have hz := HPZ.out.2.1
  have hs := HO.out.2.1.size
  refine bodyPost_ret (v := .tuple #[.agg #[.bool false, .slice none 0 0], .int .i64 6]) (by simp [results, Tryz.results85, go_sem, k0, k1]) rfl ?_
  exact RetIParse.fin0 (by omega) HO.out.2.2 (Nat.le_refl _) _ _
 ·have HK := hid (iv_keep h2)
  cases neg
  ·clear h2
   have hts : bs = ts := by
    rcases hc with ⟨h9, _⟩ | ⟨_, h9, _⟩
    ·exact absurd h9 (by simp)
    ·exact h9
   subst hts
   by_cases hn : bs.length = 0
   ·have hg : ¬ ((bs.length : Int) > 0) := by omega
    clear hb hc hp htl hb1 hz1 hP hn
    go_enter Tryz.func85, Tryz.ntmps85
    go_wp2_with fail
    refine hcp.mono ?_
    rintro e w2 ⟨a2, c2, rfl, o2, b2⟩
    obtain ⟨k0, k1, k2, k3⟩ := pair_cells HPZ.out.2.2 b2
    have hb02 := HPZ.out.1.trans (b2.mono HPZ.out.1.size)
    have HO := hid (And.intro o2 (And.intro b2 hb02))
    clear hcp o2 b2 hb02
    go_wp2
    have hz := HPZ.out.2.1
    refine bodyPost_ret (v := .tuple #[.agg #[.bool false, .slice a2 (nd V).length c2], .int .i64 0]) (by simp [results, Tryz.results85, go_sem, k0, k1]) rfl ?_
    have hf := RetIParse.fin (B := w.heap.size + 1) (g := w.heap.size) (c4 := c2) (z := iv false V) (er := 0) (w := w) (w4 := w2) (a4 := a2) (by rw [iv_abs, ← hz]; exact HO.out.1) (by omega) HO.out.2.2 (Nat.le_refl _) (.bool false) (.slice a2 (nd V).length c2)
    rw [HK.out, iv_abs] at hf
    exact hf
   ·have hg : (bs.length : Int) > 0 := by omega
    have hp0 : 0 < (bstr bs).size := by rw [hsz]; omega
    have h45 := head_byte bs false bs hc hp0 hb
    clear hb hc hp htl hb1 hz1 hP hn
    go_enter Tryz.func85, Tryz.ntmps85
    go_wp2_with fail
    refine hcp.mono ?_
    rintro e w2 ⟨a2, c2, rfl, o2, b2⟩
    obtain ⟨k0, k1, k2, k3⟩ := pair_cells HPZ.out.2.2 b2
    have hb02 := HPZ.out.1.trans (b2.mono HPZ.out.1.size)
    have HO := hid (And.intro o2 (And.intro b2 hb02))
    clear hcp o2 b2 hb02
    go_wp2
    have hz := HPZ.out.2.1
    refine bodyPost_ret (v := .tuple #[.agg #[.bool false, .slice a2 (nd V).length c2], .int .i64 0]) (by simp [results, Tryz.results85, go_sem, k0, k1]) rfl ?_
    have hf := RetIParse.fin (B := w.heap.size + 1) (g := w.heap.size) (c4 := c2) (z := iv false V) (er := 0) (w := w) (w4 := w2) (a4 := a2) (by rw [iv_abs, ← hz]; exact HO.out.1) (by omega) HO.out.2.2 (Nat.le_refl _) (.bool false) (.slice a2 (nd V).length c2)
    rw [HK.out, iv_abs] at hf
    exact hf
  ·have hv : V ≠ 0 := fun h => h2 ⟨rfl, h⟩
   have hn0 : (((nd V).length : Int) == 0) = false := by
    rw [beq_eq_false_iff_ne]
    intro h
    exact hv (nd_eq_nil.1 (List.eq_nil_of_length_eq_zero (by omega)))
   clear h2 hv
   have h45 : ∀ h0, ((((bstr bs)[0]'h0).toNat : Int) == 45) = true := fun h0 => head_byte bs true ts hc h0 hb
   have hbt : bs = 45 :: ts := by
    rcases hc with ⟨_, h9⟩ | ⟨h9, _⟩
    ·exact h9
    ·exact absurd h9 (by simp)
   clear hc
   subst hbt
   have hl : (45 :: ts).length = ts.length + 1 := rfl
   rw [hl] at hsz hm hi
   have ht := bstr_tail 45 ts
   rw [hsz] at ht
   have hp0 : 0 < (bstr (45 :: ts)).size := by rw [hsz]; omega
   replace h45 := h45 hp0
   have hg : (0 : Int) < (ts.length : Int) + 1 := by omega
   have hg2 : (ts.length : Int) + 1 > 0 := by omega
   have hg3 : (1 : Int) ≤ (ts.length : Int) + 1 := by omega
   clear hb hp htl hb1 hz1 hP hl
   go_enter Tryz.func85, Tryz.ntmps85
   go_wp2_with fail
   refine hcp.mono ?_
   rintro e w2 ⟨a2, c2, rfl, o2, b2⟩
   obtain ⟨k0, k1, k2, k3⟩ := pair_cells HPZ.out.2.2 b2
   have hb02 := HPZ.out.1.trans (b2.mono HPZ.out.1.size)
   have HO := hid (And.intro o2 (And.intro b2 hb02))
   clear hcp o2 b2 hb02
   go_wp2
   have hz := HPZ.out.2.1
   refine bodyPost_ret (v := .tuple #[.agg #[.bool true, .slice a2 (nd V).length c2], .int .i64 0]) (by simp [results, Tryz.results85, go_sem, k0, k1]) rfl ?_
   have hf := RetIParse.fin (B := w.heap.size + 1) (g := w.heap.size) (c4 := c2) (z := iv true V) (er := 0) (w := w) (w4 := w2) (a4 := a2) (by rw [iv_abs, ← hz]; exact HO.out.1) (by omega) HO.out.2.2 (Nat.le_refl _) (.bool true) (.slice a2 (nd V).length c2)
   rw [HK.out, iv_abs] at hf
   exact hf
end Go.Proofs.YtcankknlbljicaaGreatDoor

namespace Go.Proofs.YtcankknlbljicaaGreatDoor
open Go.RowKit Num

def fmtL (z : Int) : List Nat := if z < 0 then 45 :: decT z.natAbs else decT z.natAbs
def RetFmtZ (z : Int) (w : World) (e : Ending) (w' : World) : Prop := e = .returned (.string (bstr (fmtL z))) ∧ Below w.heap.size w w'
theorem fmt_size {xs : List Nat} (hw : wf xs) (hl : xs.length ≤ 1073741824) : (fmtS (val xs)).size ≤ 10737418240 := by
 rw [fmtS, bstr_size, decT]
 split
 ·simp
 ·rw [List.length_reverse]
  have hlv := Nat.le_trans (nd_length_le_of hw) hl
  have hdl : (decR (val xs)).length ≤ 10 * (nd (val xs)).length := by
   refine decR_length (10 * (nd (val xs)).length) (val xs) (Nat.lt_of_lt_of_le (lt_pow_nd (val xs)) ?_)
   rw [Nat.pow_mul]
   exact Nat.pow_le_pow_left (by omega) _
  omega
theorem fmtL_nn {z : Int} (h : ¬ z < 0) : bstr (fmtL z) = fmtS z.natAbs := by rw [fmtL, if_neg h]; rfl
theorem fmtL_neg {z : Int} (h : z < 0) : bstr (fmtL z) = (⟨#[45]⟩ : ByteArray) ++ fmtS z.natAbs := by rw [fmtL, if_pos h, fmtS, minus_eq, bstr_append]; rfl

theorem iformat_any (b : Bool) (ao : Option Addr) (c : Nat) (xs : List Nat) (w : World) (h : Rd w ao c xs) (hl : xs.length ≤ 1073741824) :
  Calls Tryz.prog 89 #[.agg #[.bool b, .slice ao xs.length c]] w (RetFmtZ (iv b (val xs)) w) := by
 by_cases hn : iv b (val xs) < 0
 ·have hba := below_alloc w (.cells #[.bool b, .slice ao xs.length c] 24)
  have hx1 := heap_alloc_at w (.cells #[.bool b, .slice ao xs.length c] 24)
  have HF := hid (format_any ao c xs _ (h.below hba) hl)
  have HP := hid (fun w' => pair_cells (w' := w') hx1)
  have HI := hid (fun w' (hb : Below w.heap.size w w') => isNegative_any b ao c xs w' (h.below hb) (by omega) true (by simp; omega))
  have HA := hid hba
  have HE := hid (show bstr (fmtL (iv b (val xs))) = (⟨#[45]⟩ : ByteArray) ++ fmtS (val xs) by rw [fmtL_neg hn, iv_abs])
  have hs := fmt_size h.dg hl
  have hs1 : (ByteArray.mk #[45]).size = 1 := rfl
  have hsum : (ByteArray.mk #[45]).size + (fmtS (val xs)).size ≤ 9223372036854775807 := by omega
  clear h hba hx1 hn hs hs1
  go_enter Tryz.func89, Tryz.ntmps89
  go_wp2_with fail
  refine HF.out.mono ?_
  rintro e w3 ⟨rfl, hb3⟩
  obtain ⟨s0, s1, _, _⟩ := HP.out w3 hb3
  have hb03 := HA.out.trans (hb3.mono HA.out.size)
  have hi := HI.out w3 hb03
  clear hb3
  go_wp2_with fail
  refine hi.mono ?_
  rintro e w4 ⟨rfl, hb4⟩
  have HB := hid (hb03.trans (hb4.mono hb03.size))
  clear hi hb03 hb4 s0 s1
  go_wp2
  go_ret
  exact ⟨by rw [HE.out]; rfl, HB.out⟩
 ·refine (iformat_nn b ao c xs w h hl hn).mono ?_
  rintro e w' ⟨rfl, hb⟩
  exact ⟨by rw [fmtL_nn hn, iv_abs], hb⟩

theorem riformat_any (b : Bool) (ao : Option Addr) (c : Nat) (xs : List Nat) (w : World) (h : Rd w ao c xs) (hl : xs.length ≤ 1073741824) :
  Calls Tryz.prog 92 #[.agg #[.bool b, .slice ao xs.length c]] w (RetFmtZ (iv b (val xs)) w) := by
 have hle := h.le
 have hcm := h.cm
 have hba := below_alloc w (.cells #[.bool b, .slice ao xs.length c] 24)
 have hx1 := heap_alloc_at w (.cells #[.bool b, .slice ao xs.length c] 24)
 have hsg := rsign_any b ao c xs _ (h.below hba) (by omega)
 have HF := hid (fun w' (hb : Below w.heap.size w w') => rformat_any ao c xs w' (h.below hb) hl)
 have HP := hid (fun w' => pair_cells (w' := w') hx1)
 have HA := hid hba
 obtain ⟨s0, s1, s2, s3⟩ := HP.out _ (Below.refl _ _)
 by_cases hn : iv b (val xs) < 0
 ·have HE := hid (show bstr (fmtL (iv b (val xs))) = (⟨#[45]⟩ : ByteArray) ++ fmtS (val xs) by rw [fmtL_neg hn, iv_abs])
  have hs := fmt_size h.dg hl
  have hs1 : (ByteArray.mk #[45]).size = 1 := rfl
  have hsum : (ByteArray.mk #[45]).size + (fmtS (val xs)).size ≤ 9223372036854775807 := by omega
  rw [show sgn (iv b (val xs)) = -1 by rw [sgn, if_pos hn]] at hsg
  clear h hba hx1 hn hs hs1
  go_enter Tryz.func92, Tryz.ntmps92
  go_wp2_with fail
  refine hsg.mono ?_
  rintro e w2 ⟨rfl, b2⟩
  clear s0 s1 s2 s3 hsg
  obtain ⟨k0, k1, k2, k3⟩ := HP.out w2 b2
  have b02 := HA.out.trans (b2.mono HA.out.size)
  have hf := HF.out w2 b02
  clear b2
  go_wp2_with fail
  refine hf.mono ?_
  rintro e w3 ⟨rfl, b3⟩
  have HB := hid (b02.trans (b3.mono b02.size))
  clear b02 b3 hf k0 k1 k2 k3
  go_wp2
  go_ret
  exact ⟨by rw [HE.out]; rfl, HB.out⟩
 ·have HE := hid (show bstr (fmtL (iv b (val xs))) = fmtS (val xs) by rw [fmtL_nn hn, iv_abs])
  obtain ⟨r, hr⟩ : ∃ r, r = sgn (iv b (val xs)) := ⟨_, rfl⟩
  have hr0 : ¬ r < 0 := by rw [hr, sgn, if_neg hn]; split <;> omega
  rw [← hr] at hsg
  clear h hba hx1 hn hr
  go_enter Tryz.func92, Tryz.ntmps92
  go_wp2_with fail
  refine hsg.mono ?_
  rintro e w2 ⟨rfl, b2⟩
  clear s0 s1 s2 s3 hsg
  obtain ⟨k0, k1, k2, k3⟩ := HP.out w2 b2
  have b02 := HA.out.trans (b2.mono HA.out.size)
  have hf := HF.out w2 b02
  clear b2
  go_wp2_with fail
  refine hf.mono ?_
  rintro e w3 ⟨rfl, b3⟩
  have HB := hid (b02.trans (b3.mono b02.size))
  clear b02 b3 hf k0 k1 k2 k3
  go_wp2
  go_ret
  exact ⟨by rw [HE.out]; rfl, HB.out⟩
end Go.Proofs.YtcankknlbljicaaGreatDoor
