/- Rationals: two fractions read in one statement. -/
import Derived.Test.YtibfeceainemjaaGreatDoorQ4

set_option linter.unusedVariables false
set_option linter.unusedSimpArgs false
set_option linter.unusedSectionVars false

namespace Go.Proofs.YtibfeceainemjaaGreatDoor
open Go.RowKit Num

/-- what read returns: the argument's rows, or new ones -/
def RetFo (ao0 ad0 : Option Addr) (xs0 ds0 : List Nat) (q : Rat) (n m : Nat) (w : World) (e : Ending) (w' : World) : Prop :=
  ∃ b ao c xs ad d ds, e = .returned (.agg #[.bool b, .slice ao xs.length c, .slice ad ds.length d]) ∧ Rd w' ao c xs ∧ Rd w' ad d ds ∧ val ds ≠ 0 ∧ mkRat (iv b (val xs)) (val ds) = q ∧ xs.length ≤ n ∧ ds.length ≤ m ∧
    ((ao = ao0 ∧ xs = xs0 ∧ ad = ad0 ∧ ds = ds0) ∨ (xs = [] ∧ Own w.heap.size w' ad d ds)) ∧ Below w.heap.size w w'

set_option maxRecDepth 100000 in
set_option maxHeartbeats 1600000 in
theorem read_or (b : Bool) (ao ad : Option Addr) (c d : Nat) (xs ds : List Nat) (w : World) (hx : Rd w ao c xs) (hd : Rd w ad d ds) (hl : ds.length ≤ 17592186044416) :
    Calls Tryz.prog 98 #[.agg #[.bool b, .slice ao xs.length c, .slice ad ds.length d]] w (RetFo ao ad xs ds (rv b (val xs) (val ds)) xs.length (ds.length + 1) w) := by
  have hle1 := hx.le
  have hcm1 := hx.cm
  have hle2 := hd.le
  have hcm2 := hd.cm
  have h1 := below_alloc w (.cells #[.bool b, .slice ao xs.length c, .slice ad ds.length d] 26)
  have hB := h1.trans ((below_alloc _ (.cells #[.bool false, .slice none 0 0, .slice none 0 0] 75)).mono h1.size)
  have hbl := bitlen_any ad d ds _ (hd.below hB) hl
  have x1 := heap_alloc_at w (.cells #[.bool b, .slice ao xs.length c, .slice ad ds.length d] 26)
  have z1 : (w.alloc (.cells #[.bool b, .slice ao xs.length c, .slice ad ds.length d] 26)).heap.size = w.heap.size + 1 := by simp
  have x2 := heap_alloc_at (w.alloc (.cells #[.bool b, .slice ao xs.length c, .slice ad ds.length d] 26)) (.cells #[.bool false, .slice none 0 0, .slice none 0 0] 75)
  rw [z1] at x2
  by_cases h0 : val ds = 0
  · have hb0 : blen (val ds) = 0 := by rw [h0]; rfl
    rw [hb0] at hbl
    have z2 : ((w.alloc (.cells #[.bool b, .slice ao xs.length c, .slice ad ds.length d] 26)).alloc (.cells #[.bool false, .slice none 0 0, .slice none 0 0] 75)).heap.size = w.heap.size + 2 := by simp
    have ho := Own.one ((w.alloc (.cells #[.bool b, .slice ao xs.length c, .slice ad ds.length d] 26)).alloc (.cells #[.bool false, .slice none 0 0, .slice none 0 0] 75)) (w.heap.size + 2) 1 (by omega) (by omega)
    have h3 := below_alloc ((w.alloc (.cells #[.bool b, .slice ao xs.length c, .slice ad ds.length d] 26)).alloc (.cells #[.bool false, .slice none 0 0, .slice none 0 0] 75)) (.cells #[.int .u32 ((1 : Nat) : Int)] 52)
    have y2 := (h3.block (w.heap.size + 1) (by omega)).trans x2
    rw [z2] at ho
    have H := hid (And.intro (hB.trans (h3.mono hB.size)) (And.intro ho y2))
    have HV := hid (show rv b (val xs) (val ds) = mkRat (iv false (val [])) (val [1]) by rw [h0, rv_zero]; rfl)
    clear hx hd h1 hB x1 z1 x2 h3 y2 ho h0
    go_enter Tryz.func98, Tryz.ntmps98
    go_wp2_with fail
    refine hbl.mono ?_
    rintro e w' ⟨rfl, rfl⟩
    clear hbl
    go_wp2_with fail
    refine (over_any _ _ _ _ _ _ _ _).mono ?_
    rintro e w3 ⟨rfl, f3⟩
    obtain ⟨⟨k0, k1, k2⟩, k3, k4, k5⟩ := rat_cells H.out.2.2 f3
    have H3 := hid (And.intro (H.out.2.1.below f3) (H.out.1.trans (f3.mono H.out.1.size)))
    clear f3
    go_wp2
    refine bodyPost_ret (v := .agg #[.bool false, .slice none 0 0, .slice (some ⟨w.heap.size + 2, 0, none⟩) 1 1]) (by simp [results, Tryz.results98, go_sem, k0, k1, k2]) rfl ?_
    refine ⟨false, none, 0, [], _, 1, [1], rfl, Rd.nil (by omega) (fun _ => rfl), ?_, by simp [val], HV.out.symm, Nat.zero_le _, by simp, Or.inr ⟨rfl, ?_⟩, ?_⟩
    · refine Own.rd (B := w.heap.size + 2) ?_
      repeat refine Own.setOld ?_ (by omega) _
      exact H3.out.1
    · refine Own.mono (B := w.heap.size + 2) ?_ (by omega)
      repeat refine Own.setOld ?_ (by omega) _
      exact H3.out.1
    · repeat refine Below.setCell (p := ⟨_, _, none⟩) ?_ (by dsimp only; omega) _
      exact H3.out.2
  · have hb0 : ((blen (val ds) : Int) == 0) = false := by
      rw [beq_eq_false_iff_ne]
      intro h
      exact h0 (blen_eq_zero.1 (by omega))
    obtain ⟨q, hq⟩ : ∃ q, q = blen (val ds) := ⟨_, rfl⟩
    rw [← hq] at hbl hb0
    have hB3 := h1.trans ((below_alloc _ (.cells #[.bool b, .slice ao xs.length c, .slice ad ds.length d] 75)).mono h1.size)
    have H := hid (And.intro (hx.below hB3) (And.intro (hd.below hB3) hB3))
    clear hx hd h1 hB x1 z1 x2 hB3 hq
    go_enter Tryz.func98, Tryz.ntmps98
    go_wp2_with fail
    refine hbl.mono ?_
    rintro e w' ⟨rfl, rfl⟩
    clear hbl
    go_wp2
    refine bodyPost_ret (v := .agg #[.bool b, .slice ao xs.length c, .slice ad ds.length d]) (by simp [results, Tryz.results98, go_sem]) rfl ?_
    exact ⟨b, ao, c, xs, ad, d, ds, rfl, H.out.1, H.out.2.1, h0, rfl, Nat.le_refl _, Nat.le_succ _, Or.inl ⟨rfl, rfl, rfl, rfl⟩, H.out.2.2⟩
theorem read_u {b : Bool} {ao : Option Addr} {c : Nat} {xs : List Nat} {ad : Option Addr} {d : Nat} {ds : List Nat} {q : Rat} {n : Nat} {u : World} (h : Rq u b ao c xs ad d ds q n) (hn : n ≤ 4398046511103) (w : World) (hu : Below u.heap.size u w) (v : World) (hv : Below v.heap.size v w) :
    Calls Tryz.prog 98 #[.agg #[.bool b, .slice ao xs.length c, .slice ad ds.length d]] w (fun e w' => ∃ b' ao' c' xs' ad' d' ds', e = .returned (.agg #[.bool b', .slice ao' xs'.length c', .slice ad' ds'.length d']) ∧ Fr w' b' ao' c' xs' ad' d' ds' q (n + 1) ∧
      (∀ g, u.heap.size ≤ g → g < w.heap.size → Off g ao' xs' ∧ Off g ad' ds') ∧ Below w.heap.size w w' ∧ Below u.heap.size u w' ∧ Below v.heap.size v w') := by
  have hl := h.ld
  have hl1 := h.ln
  refine (read_or b ao ad c d xs ds w (h.rn.below hu) (h.rd.below hu) (by omega)).mono ?_
  rintro e w' ⟨b', ao', c', xs', ad', d', ds', he, h1, h2, h3, h4, h5, h6, h7, h8⟩
  refine ⟨b', ao', c', xs', ad', d', ds', he, ⟨h1, h2, h3, h4.trans h.vq, by omega, by omega⟩, ?_, h8, hu.trans (h8.mono hu.size), hv.trans (h8.mono hv.size)⟩
  intro g hg1 hg2
  rcases h7 with ⟨rfl, rfl, rfl, rfl⟩ | ⟨rfl, ho⟩
  · exact ⟨h.rn.lt_size hg1, h.rd.lt_size hg1⟩
  · exact ⟨Or.inl rfl, ho.off hg2⟩
theorem Rd.setOff {w : World} {ao : Option Addr} {c : Nat} {xs : List Nat} (h : Rd w ao c xs) {g i : Nat} (ho : Off g ao xs) (v : Value) : Rd (w.setCell ⟨g, i, none⟩ v) ao c xs := by
  refine ⟨h.le, h.cm, h.nn, h.dg, ?_⟩
  rcases h.lies with h1 | ⟨b, off, h1, h2⟩
  · exact Or.inl h1
  · rcases ho with h3 | h3
    · exact Or.inl h3
    · exact Or.inr ⟨b, off, h1, fun i hi => by rw [World.cell?_setCell_far _ _ _ _ (show g ≠ b from fun e => h3 _ h1 e.symm)]; exact h2 i hi⟩
theorem Fr.set3 {w : World} {b : Bool} {ao : Option Addr} {c : Nat} {xs : List Nat} {ad : Option Addr} {d : Nat} {ds : List Nat} {q : Rat} {n : Nat} (h : Fr w b ao c xs ad d ds q n) {g : Nat} (h1 : Off g ao xs) (h2 : Off g ad ds) (v0 v1 v2 : Value) : Fr (((w.setCell ⟨g, 0, none⟩ v0).setCell ⟨g, 1, none⟩ v1).setCell ⟨g, 2, none⟩ v2) b ao c xs ad d ds q n :=
  ⟨((h.rn.setOff h1 _).setOff h1 _).setOff h1 _, ((h.rd.setOff h2 _).setOff h2 _).setOff h2 _, h.nz, h.vq, h.ln, h.ld⟩
theorem fr_al {w : World} {b : Bool} {ao : Option Addr} {c : Nat} {xs : List Nat} {ad : Option Addr} {d : Nat} {ds : List Nat} {q : Rat} {n : Nat} (h : Fr w b ao c xs ad d ds q n) (o : Obj) : Fr (w.alloc o) b ao c xs ad d ds q n := h.below (below_alloc w o)
theorem fr_set {w : World} {b : Bool} {ao : Option Addr} {c : Nat} {xs : List Nat} {ad : Option Addr} {d : Nat} {ds : List Nat} {q : Rat} {n : Nat} {g : Nat} (i : Nat) (v : Value) (ho : Off g ao xs ∧ Off g ad ds) (h : Fr w b ao c xs ad d ds q n) : Fr (w.setCell ⟨g, i, none⟩ v) b ao c xs ad d ds q n :=
  ⟨h.rn.setOff ho.1 _, h.rd.setOff ho.2 _, h.nz, h.vq, h.ln, h.ld⟩
theorem off3 {w : World} {g k : Nat} (v0 v1 v2 : Value) (h : k ≠ g) : (((w.setCell ⟨g, 0, none⟩ v0).setCell ⟨g, 1, none⟩ v1).setCell ⟨g, 2, none⟩ v2).heap[k]? = w.heap[k]? := by
  rw [Below.heap_setCell _ ⟨g, 2, none⟩ _ _ h, Below.heap_setCell _ ⟨g, 1, none⟩ _ _ h, Below.heap_setCell _ ⟨g, 0, none⟩ _ _ h]
/-- two fractions stand in two new boxes -/
def P2S (u wx : World) (g5 g6 : Nat) (q1 q2 : Rat) (n1 n2 : Nat) : Prop :=
  ∃ b3 a3 c3 x3 d3 e3 y3 b4 a4 c4 x4 d4 e4 y4, wx.heap[g5]? = some (.cells #[.bool b3, .slice a3 (List.length x3) c3, .slice d3 (List.length y3) e3] 75 (0, 0)) ∧ wx.heap[g6]? = some (.cells #[.bool b4, .slice a4 (List.length x4) c4, .slice d4 (List.length y4) e4] 75 (0, 0)) ∧
    Fr wx b3 a3 c3 x3 d3 e3 y3 q1 n1 ∧ Fr wx b4 a4 c4 x4 d4 e4 y4 q2 n2 ∧ Below u.heap.size u wx ∧ u.heap.size ≤ g5 ∧ u.heap.size ≤ g6 ∧ g5 ≠ g6
end Go.Proofs.YtibfeceainemjaaGreatDoor
