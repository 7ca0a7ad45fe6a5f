/-  -/
import Derived.Test.YtcankknlbljicaaGreatDoorW1

set_option linter.unusedVariables false
set_option linter.unusedSimpArgs false
set_option linter.unusedSectionVars false
set_option maxRecDepth 100000
set_option maxHeartbeats 3200000

namespace Go.Proofs.YtcankknlbljicaaGreatDoor
open Go.RowKit Num

def RetParts (q : Rat) (n m : Nat) (w : World) (e : Ending) (w' : World) : Prop :=
 ∃ b ao c xs ad d D, e = .returned (.tuple #[.agg #[.bool b, .slice ao xs.length c], .agg #[.bool false, .slice ad (nd D).length d]]) ∧ Rd w' ao c xs ∧ Rd w' ad d (nd D) ∧ D ≠ 0 ∧ mkRat (iv b (val xs)) D = q ∧ xs.length ≤ n ∧ (nd D).length ≤ m ∧ Below w.heap.size w w'

theorem parts_any (b : Bool) (ao ad : Option Addr) (c d : Nat) (xs ds : List Nat) (w : World) (hx : Rd w ao c xs) (hd : Rd w ad d ds) (hl : ds.length ≤ 17592186044416) (h0 : val ds ≠ 0) :
  Calls Tryz.prog 94 #[.agg #[.bool b, .slice ao xs.length c, .slice ad ds.length d]] w (RetParts (rv b (val xs) (val ds)) xs.length (ds.length + 1) w) := by
 have hle1 := hx.le
 have hcm1 := hx.cm
 have hle2 := hd.le
 have hcm2 := hd.cm
 have a1 := below_alloc w (.cells #[.bool b, .slice ao xs.length c, .slice ad ds.length d] 26)
 have x1 := heap_alloc_at w (.cells #[.bool b, .slice ao xs.length c, .slice ad ds.length d] 26)
 obtain ⟨u1, hu1⟩ : ∃ x, x = w.alloc (.cells #[.bool b, .slice ao xs.length c, .slice ad ds.length d] 26) := ⟨_, rfl⟩
 have z1 : u1.heap.size = w.heap.size + 1 := by rw [hu1]; simp
 rw [← hu1] at a1 x1
 have a2 := below_alloc u1 (.cells #[.bool false, .slice none 0 0] 24)
 have x2 := heap_alloc_at u1 (.cells #[.bool false, .slice none 0 0] 24)
 obtain ⟨u2, hu2⟩ : ∃ x, x = u1.alloc (.cells #[.bool false, .slice none 0 0] 24) := ⟨_, rfl⟩
 have z2 : u2.heap.size = w.heap.size + 2 := by rw [hu2]; simp [z1]
 rw [← hu2] at a2 x2
 have a3 := below_alloc u2 (.cells #[.bool false, .slice none 0 0] 24)
 have x3 := heap_alloc_at u2 (.cells #[.bool false, .slice none 0 0] 24)
 obtain ⟨u3, hu3⟩ : ∃ x, x = u2.alloc (.cells #[.bool false, .slice none 0 0] 24) := ⟨_, rfl⟩
 rw [← hu3] at a3 x3
 rw [z1] at x2
 rw [z2] at x3
 have y1 := (a3.block w.heap.size (by omega)).trans ((a2.block w.heap.size (by omega)).trans x1)
 have y2 := (a3.block (w.heap.size + 1) (by omega)).trans x2
 have a13 := a1.trans ((a2.trans (a3.mono a2.size)).mono a1.size)
 have ht := rtrim_any ad d ds u3 (hd.below a13) hl
 have HY := hid (And.intro y1 (And.intro y2 x3))
 have HA := hid (And.intro a13 (hx.below a13))
 have HX := hid hx
 have hne : (((nd (val ds)).length : Int) == 0) = false := by
  rw [beq_eq_false_iff_ne]
  intro h
  exact h0 (nd_eq_nil.1 (List.eq_nil_of_length_eq_zero (by omega)))
 have hdl : (nd (val ds)).length ≤ ds.length + 1 := Nat.le_trans (nd_length_le_of hd.dg) (Nat.le_succ _)
 have HD := hid (And.intro h0 hdl)
 have z3 : u3.heap.size = w.heap.size + 3 := by rw [hu3]; simp [z2]
 have HZ := hid z3
 clear a1 a2 a3 x1 x2 x3 y1 y2 hx hd h0 hdl z3 a13
 have hn0 : ¬ (w.heap.size + 2 = w.heap.size + 1) := by omega
 have hn1 : ¬ (w.heap.size + 1 = w.heap.size + 2) := by omega
 subst hu3 hu2 hu1
 clear z1 z2
 obtain ⟨V, hV⟩ : ∃ V, V = val ds := ⟨_, rfl⟩
 rw [← hV] at ht hne HD ⊢
 clear hV
 go_enter Tryz.func94, Tryz.ntmps94
 go_wp2_with fail
 refine ht.mono ?_
 rintro e w1 ⟨at1, ct1, rfl, o1, f1⟩
 have b1 := below_alloc w1 (.cells #[.bool false, .slice at1 (nd V).length ct1] 24)
 have yb := heap_alloc_at w1 (.cells #[.bool false, .slice at1 (nd V).length ct1] 24)
 have hle3 := o1.rd.le
 have hcm3 := o1.rd.cm
 clear ht
 go_upto_region 2 with fail
 obtain ⟨w2, hw2⟩ : ∃ x, x = w1.alloc (.cells #[.bool false, .slice at1 (nd V).length ct1] 24) := ⟨_, rfl⟩
 rw [← hw2] at b1 yb ⊢
 have hs1 := f1.size
 have hg4 : ¬ (w1.heap.size = w.heap.size + 1) := by have := HZ.out; omega
 have hg5 : ¬ (w1.heap.size = w.heap.size + 2) := by have := HZ.out; omega
 have hg6 : ¬ (w.heap.size + 1 = w1.heap.size) := by have := HZ.out; omega
 have hg7 : ¬ (w.heap.size + 2 = w1.heap.size) := by have := HZ.out; omega
 clear hw2 hs1
 have f2 := f1.trans (b1.mono f1.size)
 obtain ⟨⟨s0, s1, s2⟩, _⟩ := rat_cells HY.out.1 f2
 obtain ⟨t0, t1, t2, t3⟩ := pair_cells HY.out.2.1 f2
 obtain ⟨v0, v1, v2, v3⟩ := pair_cells HY.out.2.2 f2
 obtain ⟨k0, k1, k2, k3⟩ := pair_cells yb (Below.refl _ _)
 have H2 := hid (And.intro (HA.out.1.trans (f2.mono HA.out.1.size)) (And.intro (HA.out.2.below f2) (o1.below b1)))
 clear o1 f1 b1 yb f2
 go_wp2_with fail
 go_region
 all_goals
  go_wp2
  have hz := HZ.out
  have hb : Below w.heap.size w ((((w2.setCell ⟨w.heap.size + 1, 0, none⟩ (.bool b)).setCell ⟨w.heap.size + 1, 1, none⟩ (.slice ao xs.length c)).setCell ⟨w.heap.size + 1 + 1, 0, none⟩ (.bool false)).setCell ⟨w.heap.size + 1 + 1, 1, none⟩ (.slice at1 (nd V).length ct1)).drew :=
   ((((H2.out.1.setCell (p := ⟨w.heap.size + 1, 0, none⟩) (by dsimp only; omega) _).setCell (p := ⟨w.heap.size + 1, 1, none⟩) (by dsimp only; omega) _).setCell (p := ⟨w.heap.size + 1 + 1, 0, none⟩) (by dsimp only; omega) _).setCell (p := ⟨w.heap.size + 1 + 1, 1, none⟩) (by dsimp only; omega) _).drew
  have ho := ((((H2.out.2.2.setOld (g := w.heap.size + 1) (i := 0) (by omega) (.bool b)).setOld (g := w.heap.size + 1) (i := 1) (by omega) (.slice ao xs.length c)).setOld (g := w.heap.size + 1 + 1) (i := 0) (by omega) (.bool false)).setOld (g := w.heap.size + 1 + 1) (i := 1) (by omega) (.slice at1 (nd V).length ct1))
  have hod := ho.keep (w' := ((((w2.setCell ⟨w.heap.size + 1, 0, none⟩ (.bool b)).setCell ⟨w.heap.size + 1, 1, none⟩ (.slice ao xs.length c)).setCell ⟨w.heap.size + 1 + 1, 0, none⟩ (.bool false)).setCell ⟨w.heap.size + 1 + 1, 1, none⟩ (.slice at1 (nd V).length ct1)).drew) (fun _ _ => rfl)
  refine bodyPost_ret (v := .tuple #[.agg #[.bool b, .slice ao xs.length c], .agg #[.bool false, .slice at1 (nd V).length ct1]]) (by simp [results, Tryz.results94, go_sem, t0, t1, v0, v1]) rfl ?_
  exact ⟨b, ao, c, xs, at1, ct1, V, rfl, HX.out.below hb, hod.rd, HD.out.1, rfl, Nat.le_refl _, HD.out.2, hb⟩
end Go.Proofs.YtcankknlbljicaaGreatDoor

namespace Go.Proofs.YtcankknlbljicaaGreatDoor
open Go.RowKit Num

theorem reduce_parts {z e : Int} {G : Nat} (he : e ≠ 0) (hG : G = Nat.gcd z.natAbs e.natAbs) :
  (Rat.divInt z e).num = (if e / (G : Int) < 0 then -(z / (G : Int)) else z / (G : Int)) ∧ (Rat.divInt z e).den = (e / (G : Int)).natAbs := by
 have hG0 : G ≠ 0 := by rw [hG]; intro h; exact he (Int.natAbs_eq_zero.1 (Nat.gcd_eq_zero_iff.1 h).2)
 have d1 : (G : Int) ∣ z := by rw [hG]; exact Int.ofNat_dvd_left.2 (Nat.gcd_dvd_left _ _)
 have d2 : (G : Int) ∣ e := by rw [hG]; exact Int.ofNat_dvd_left.2 (Nat.gcd_dvd_right _ _)
 have hn : e.natAbs ≠ 0 := fun h => he (Int.natAbs_eq_zero.1 h)
 rw [divInt_sign he]
 obtain ⟨h1, h2⟩ := low_parts (z := if e < 0 then -z else z) hn
 have e1 : (if e < 0 then -z else z).natAbs = z.natAbs := by split <;> simp
 rw [e1, ← hG] at h1 h2
 obtain ⟨k, hk⟩ := d2
 have e2 : e / (G : Int) = k := by rw [hk]; exact Int.mul_ediv_cancel_left _ (by omega)
 have e3 : k < 0 ↔ e < 0 := by
  rw [hk]
  have hGp : (0 : Int) < G := by omega
  constructor
  ·intro h; exact Int.mul_neg_of_pos_of_neg hGp h
  ·intro h
   refine Int.not_le.1 fun hle => ?_
   have := Int.mul_nonneg (Int.le_of_lt hGp) hle
   omega
 rw [h1, h2, e2]
 constructor
 ·by_cases h : e < 0
  ·rw [if_pos h, if_pos (e3.2 h), Int.neg_ediv_of_dvd d1]
  ·rw [if_neg h, if_neg (fun hh => h (e3.1 hh))]
 ·rw [hk, Int.natAbs_mul, Int.natAbs_natCast, Nat.mul_div_cancel_left _ (Nat.pos_of_ne_zero hG0)]
theorem box_al {w : World} {g : Nat} {p0 p1 p2 : Value} {t : TypeId} (h : w.heap[g]? = some (.cells #[p0, p1, p2] t (0, 0))) (v0 v1 v2 : Value) (o : Obj) :
  ((((w.setCell ⟨g, 0, none⟩ v0).setCell ⟨g, 1, none⟩ v1).setCell ⟨g, 2, none⟩ v2).alloc o).cell? ⟨g, 0, none⟩ = some v0 ∧ ((((w.setCell ⟨g, 0, none⟩ v0).setCell ⟨g, 1, none⟩ v1).setCell ⟨g, 2, none⟩ v2).alloc o).cell? ⟨g, 1, none⟩ = some v1 ∧ ((((w.setCell ⟨g, 0, none⟩ v0).setCell ⟨g, 1, none⟩ v1).setCell ⟨g, 2, none⟩ v2).alloc o).cell? ⟨g, 2, none⟩ = some v2 :=
 (rat_cells (box3 h) (below_alloc _ o)).1
theorem nd_one1 : nd 1 = [1] := by rw [nd_pos (by omega)]; simp [nd_zero]

theorem reduce_zero (b1 b2 : Bool) (aa ab : Option Addr) (ca cb : Nat) (xs ys : List Nat) (w : World) (ha : Rd w aa ca xs) (hb : Rd w ab cb ys) (hl1 : xs.length ≤ 4398046511104) (hl2 : ys.length ≤ 4398046511104) (h0 : iv b1 (val xs) = 0 ∨ iv b2 (val ys) = 0) :
  Calls Tryz.prog 95 #[.agg #[.bool b1, .slice aa xs.length ca], .agg #[.bool b2, .slice ab ys.length cb]] w (RetRat (Rat.divInt (iv b1 (val xs)) (iv b2 (val ys))) w) := by
 have hq : Rat.divInt (iv b1 (val xs)) (iv b2 (val ys)) = 0 := by
  rcases h0 with h | h
  ·rw [h, Rat.zero_divInt]
  ·rw [h, Rat.divInt_zero]
 rw [hq]
 have hle1 := ha.le
 have hcm1 := ha.cm
 have hle2 := hb.le
 have hcm2 := hb.cm
 have hB := A3_below w (.cells #[.bool b1, .slice aa xs.length ca] 24) (.cells #[.bool b2, .slice ab ys.length cb] 24) (.cells #[.bool false, .slice none 0 0, .slice none 0 0] 26)
 have HH := hid (A3_heap w (.cells #[.bool b1, .slice aa xs.length ca] 24) (.cells #[.bool b2, .slice ab ys.length cb] 24) (.cells #[.bool false, .slice none 0 0, .slice none 0 0] 26))
 have HSZ := hid (A3_size w (.cells #[.bool b1, .slice aa xs.length ca] 24) (.cells #[.bool b2, .slice ab ys.length cb] 24) (.cells #[.bool false, .slice none 0 0, .slice none 0 0] 26))
 have HB := hid hB
 have HRA := hid (ha.below hB)
 have HRB := hid (hb.below hB)
 unfold A3 at HH HSZ HB HRA HRB
 have S1 := hid (fun w' (h : Rd w' aa ca xs) => rsign_any b1 aa ca xs w' h (by omega))
 have S2 := hid (fun w' (h : Rd w' ab cb ys) => rsign_any b2 ab cb ys w' h (by omega))
 have hs0 : ∀ z : Int, z = 0 → (sgn z == 0) = true := by rintro z rfl; rfl
 have hs1 : ∀ z : Int, z ≠ 0 → (sgn z == 0) = false := by
  intro z h
  rw [beq_eq_false_iff_ne]
  unfold sgn
  split
  ·decide
  ·decide
 have fin : ∀ (W : World), Below w.heap.size w W → ∀ v0 v1 v2, RetRat 0 w (.returned (.agg #[.bool false, .slice none 0 0, .slice (some ⟨W.heap.size, 0, none⟩) 1 1])) ((((W.setCell ⟨w.heap.size + 2, 0, none⟩ v0).setCell ⟨w.heap.size + 2, 1, none⟩ v1).setCell ⟨w.heap.size + 2, 2, none⟩ v2).alloc (.cells #[.int .u32 1] 88)) := by
  intro W hW v0 v1 v2
  have hX : Below w.heap.size w (((W.setCell ⟨w.heap.size + 2, 0, none⟩ v0).setCell ⟨w.heap.size + 2, 1, none⟩ v1).setCell ⟨w.heap.size + 2, 2, none⟩ v2) := below_set _ _ (by omega) (below_set _ _ (by omega) (below_set _ _ (by omega) hW))
  have o2 := Own.one (((W.setCell ⟨w.heap.size + 2, 0, none⟩ v0).setCell ⟨w.heap.size + 2, 1, none⟩ v1).setCell ⟨w.heap.size + 2, 2, none⟩ v2) w.heap.size 1 hX.size (by omega)
  rw [setCell_size, setCell_size, setCell_size] at o2
  exact ⟨none, 0, some ⟨W.heap.size, 0, none⟩, 1, by rw [Rat.zero_num, Rat.zero_den, show Int.natAbs 0 = 0 from rfl, nd_zero, nd_one1]; rfl, by rw [Rat.zero_num, show Int.natAbs 0 = 0 from rfl, nd_zero]; exact Own.nil _ _, by rw [Rat.zero_den, nd_one1]; exact o2, below_al hX _⟩
 have FIN := hid fin
 obtain ⟨z1, hz1⟩ : ∃ z, z = iv b1 (val xs) := ⟨_, rfl⟩
 obtain ⟨z2, hz2⟩ : ∃ z, z = iv b2 (val ys) := ⟨_, rfl⟩
 rw [← hz1, ← hz2] at h0
 simp only [← hz1] at S1
 simp only [← hz2] at S2
 clear ha hb hB fin hq hz1 hz2
 by_cases h1 : z1 = 0
 ·have e1 := hs0 z1 h1
  clear hs0 hs1 h0 h1
  go_enter Tryz.func95, Tryz.ntmps95
  go_wp2_with fail
  obtain ⟨w0, hw0⟩ : ∃ x, x = (((w.alloc (.cells #[.bool b1, .slice aa xs.length ca] 24)).alloc (.cells #[.bool b2, .slice ab ys.length cb] 24)).alloc (.cells #[.bool false, .slice none 0 0, .slice none 0 0] 26)) := ⟨_, rfl⟩
  rw [← hw0] at HH HSZ HB HRA HRB ⊢
  clear hw0
  refine (S1.out w0 HRA.out).mono ?_
  rintro e w1 ⟨rfl, f1⟩
  obtain ⟨k0, k1, k2, k3, k4, k5⟩ := cells3 HH.out.2.2 f1
  have H1 := hid (And.intro (HB.out.trans (f1.mono HB.out.size)) f1.size)
  have KK := hid ((f1.block (w.heap.size + 2) (by have := HSZ.out; omega)).trans HH.out.2.2)
  clear f1
  have nl : w.heap.size + 1 + 1 < w1.heap.size := by have := HSZ.out; have := H1.out.2; omega
  have n2 : ¬ (w.heap.size + 1 + 1 = w1.heap.size) := by omega
  have n3 : ¬ (w1.heap.size = w.heap.size + 1 + 1) := by omega
  obtain ⟨j0, j1, j2⟩ := box_al KK.out (.bool false) (.slice none 0 0) (.slice (some ⟨w1.heap.size, 0, none⟩) 1 1) (.cells #[.int .u32 1] 88)
  go_wp2
  refine bodyPost_ret (v := .agg #[.bool false, .slice none 0 0, .slice (some ⟨w1.heap.size, 0, none⟩) 1 1]) (by simp [results, Tryz.results95, go_sem, j0, j1, j2]) rfl ?_
  exact FIN.out w1 H1.out.1 _ _ _
 ·have h2 : z2 = 0 := h0.resolve_left h1
  have e1 := hs1 z1 h1
  have e2 := hs0 z2 h2
  clear hs0 hs1 h0 h1 h2
  go_enter Tryz.func95, Tryz.ntmps95
  go_wp2_with fail
  obtain ⟨w0, hw0⟩ : ∃ x, x = (((w.alloc (.cells #[.bool b1, .slice aa xs.length ca] 24)).alloc (.cells #[.bool b2, .slice ab ys.length cb] 24)).alloc (.cells #[.bool false, .slice none 0 0, .slice none 0 0] 26)) := ⟨_, rfl⟩
  rw [← hw0] at HH HSZ HB HRA HRB ⊢
  clear hw0
  refine (S1.out w0 HRA.out).mono ?_
  rintro e w1 ⟨rfl, f1⟩
  obtain ⟨s2, s3, _, _⟩ := pair_cells HH.out.2.1 f1
  have H1 := hid f1
  have hR1 := HRB.out.below f1
  clear f1
  go_wp2_with fail
  refine (S2.out w1 hR1).mono ?_
  rintro e w2 ⟨rfl, f2⟩
  have p2 := H1.out.trans (f2.mono H1.out.size)
  obtain ⟨k0, k1, k2, k3, k4, k5⟩ := cells3 HH.out.2.2 p2
  have H2 := hid (And.intro (HB.out.trans (p2.mono HB.out.size)) p2.size)
  have KK := hid ((p2.block (w.heap.size + 2) (by have := HSZ.out; omega)).trans HH.out.2.2)
  clear f2 p2 s2 s3 hR1
  have nl : w.heap.size + 1 + 1 < w2.heap.size := by have := HSZ.out; have := H2.out.2; omega
  have n2 : ¬ (w.heap.size + 1 + 1 = w2.heap.size) := by omega
  have n3 : ¬ (w2.heap.size = w.heap.size + 1 + 1) := by omega
  obtain ⟨j0, j1, j2⟩ := box_al KK.out (.bool false) (.slice none 0 0) (.slice (some ⟨w2.heap.size, 0, none⟩) 1 1) (.cells #[.int .u32 1] 88)
  go_wp2
  refine bodyPost_ret (v := .agg #[.bool false, .slice none 0 0, .slice (some ⟨w2.heap.size, 0, none⟩) 1 1]) (by simp [results, Tryz.results95, go_sem, j0, j1, j2]) rfl ?_
  exact FIN.out w2 H2.out.1 _ _ _
set_option maxHeartbeats 6400000 in
theorem reduce_main (b1 b2 : Bool) (aa ab : Option Addr) (ca cb : Nat) (xs ys : List Nat) (w : World) (ha : Rd w aa ca xs) (hb : Rd w ab cb ys) (hl1 : xs.length ≤ 4398046511104) (hl2 : ys.length ≤ 4398046511104) (h1 : iv b1 (val xs) ≠ 0) (h2 : iv b2 (val ys) ≠ 0) :
  Calls Tryz.prog 95 #[.agg #[.bool b1, .slice aa xs.length ca], .agg #[.bool b2, .slice ab ys.length cb]] w (RetRat (Rat.divInt (iv b1 (val xs)) (iv b2 (val ys))) w) := by
 have hle1 := ha.le
 have hcm1 := ha.cm
 have hle2 := hb.le
 have hcm2 := hb.cm
 have hB := A3_below w (.cells #[.bool b1, .slice aa xs.length ca] 24) (.cells #[.bool b2, .slice ab ys.length cb] 24) (.cells #[.bool false, .slice none 0 0, .slice none 0 0] 26)
 have HH := hid (A3_heap w (.cells #[.bool b1, .slice aa xs.length ca] 24) (.cells #[.bool b2, .slice ab ys.length cb] 24) (.cells #[.bool false, .slice none 0 0, .slice none 0 0] 26))
 have HSZ := hid (A3_size w (.cells #[.bool b1, .slice aa xs.length ca] 24) (.cells #[.bool b2, .slice ab ys.length cb] 24) (.cells #[.bool false, .slice none 0 0, .slice none 0 0] 26))
 have HB := hid hB
 have HRA := hid (ha.below hB)
 have HRB := hid (hb.below hB)
 unfold A3 at HH HSZ HB HRA HRB
 have S1 := hid (fun w' (h : Rd w' aa ca xs) => rsign_any b1 aa ca xs w' h (by omega))
 have S2 := hid (fun w' (h : Rd w' ab cb ys) => rsign_any b2 ab cb ys w' h (by omega))
 have hs1 : ∀ z : Int, z ≠ 0 → (sgn z == 0) = false := by
  intro z h
  rw [beq_eq_false_iff_ne]
  unfold sgn
  split
  ·decide
  ·decide
 have e1 := hs1 _ h1
 have e2 := hs1 _ h2
 have hy0 : val ys ≠ 0 := fun h => h2 (by rw [h]; cases b2 <;> rfl)
 obtain ⟨G, hG⟩ : ∃ G, G = Nat.gcd (val xs) (val ys) := ⟨_, rfl⟩
 have hG0 : G ≠ 0 := by rw [hG]; exact fun h => hy0 (Nat.gcd_eq_zero_iff.1 h).2
 have lG : (nd G).length ≤ 4398046511104 := by rw [hG]; exact Nat.le_trans (nd_length_mono (Nat.gcd_le_right _ (Nat.pos_of_ne_zero hy0))) (Nat.le_trans (nd_length_le_of hb.dg) hl2)
 obtain ⟨hq1, hq2⟩ := reduce_parts (z := iv b1 (val xs)) (e := iv b2 (val ys)) (G := G) h2 (by rw [iv_abs, iv_abs]; exact hG)
 have CG := hid (fun w' (h : Rd w' aa ca xs) (k : Rd w' ab cb ys) => show Calls Tryz.prog 162 #[.agg #[.bool b1, .slice aa xs.length ca], .agg #[.bool b2, .slice ab ys.length cb]] w' (fun e w'' => ∃ ao c, e = .returned (.agg #[.bool false, .slice ao (nd G).length c]) ∧ Own w'.heap.size w'' ao c (nd G) ∧ Below w'.heap.size w' w'') from by
  have h3 := rgcd2_any b1 b2 aa ab ca cb xs ys w' h k hl1 hl2
  rw [← hG] at h3
  refine h3.mono ?_
  rintro e w'' ⟨ao, c, h4, h5, h6⟩
  rw [iv_abs] at h4 h5
  exact ⟨ao, c, by rw [h4]; rfl, h5, h6⟩)
 have CA := hid (fun w' ag cg (h : Rd w' aa ca xs) (k : Rd w' ag cg (nd G)) => show ∃ R, Calls Tryz.prog 163 #[.agg #[.bool b1, .slice aa xs.length ca], .agg #[.bool false, .slice ag (nd G).length cg]] w' (RetIDiv w'.heap.size (iv b1 (val xs) / (G : Int)) R 0 w') from by
  have h3 := rdiv2_any b1 false aa ag ca cg xs (nd G) w' h k hl1 lG (by rw [val_nd]; exact hG0)
  rw [val_nd] at h3
  exact ⟨_, h3⟩)
 have CB := hid (fun w' ag cg (h : Rd w' ab cb ys) (k : Rd w' ag cg (nd G)) => show ∃ R, Calls Tryz.prog 163 #[.agg #[.bool b2, .slice ab ys.length cb], .agg #[.bool false, .slice ag (nd G).length cg]] w' (RetIDiv w'.heap.size (iv b2 (val ys) / (G : Int)) R 0 w') from by
  have h3 := rdiv2_any b2 false ab ag cb cg ys (nd G) w' h k hl2 lG (by rw [val_nd]; exact hG0)
  rw [val_nd] at h3
  exact ⟨_, h3⟩)
 obtain ⟨Z, hZ⟩ : ∃ Z, Z = iv b1 (val xs) / (G : Int) := ⟨_, rfl⟩
 obtain ⟨E, hE⟩ : ∃ E, E = iv b2 (val ys) / (G : Int) := ⟨_, rfl⟩
 have lZ : (nd Z.natAbs).length ≤ 4398046511104 := by
  have hd : (G : Int) ∣ iv b1 (val xs) := Int.ofNat_dvd_left.2 (by rw [iv_abs, hG]; exact Nat.gcd_dvd_left _ _)
  have hle : Z.natAbs ≤ val xs := by rw [hZ, Int.natAbs_ediv_of_dvd hd, iv_abs]; exact Nat.div_le_self _ _
  exact Nat.le_trans (nd_length_mono hle) (Nat.le_trans (nd_length_le_of ha.dg) hl1)
 obtain ⟨q, hq⟩ : ∃ q, q = Rat.divInt (iv b1 (val xs)) (iv b2 (val ys)) := ⟨_, rfl⟩
 obtain ⟨z1, hz1⟩ : ∃ z, z = iv b1 (val xs) := ⟨_, rfl⟩
 obtain ⟨z2, hz2⟩ : ∃ z, z = iv b2 (val ys) := ⟨_, rfl⟩
 rw [← hq, ← hZ, ← hE] at hq1
 rw [← hq, ← hE] at hq2
 simp only [← hZ] at CA
 simp only [← hE] at CB
 rw [← hq]
 rw [← hz1] at e1
 rw [← hz2] at e2
 simp only [← hz1] at S1
 simp only [← hz2] at S2
 have CN := hid (fun w' az cz (h : Rd w' az cz (nd Z.natAbs)) => show Calls Tryz.prog 164 #[.agg #[.bool (decide (Z < 0)), .slice az (nd Z.natAbs).length cz]] w' (RetInt w'.heap.size (-Z) w') from by
  have h3 := rneg2_any (decide (Z < 0)) az cz (nd Z.natAbs) w' h (by omega)
  rw [val_nd, iv_self] at h3
  exact h3)
 have HQ := hid (And.intro hq1 hq2)
 clear ha hb hB hs1 h1 h2 hy0 hG hG0 lG hZ hE hq hz1 hz2 hq1 hq2 lZ
 go_enter Tryz.func95, Tryz.ntmps95
 go_wp2_with fail
 obtain ⟨w0, hw0⟩ : ∃ x, x = (((w.alloc (.cells #[.bool b1, .slice aa xs.length ca] 24)).alloc (.cells #[.bool b2, .slice ab ys.length cb] 24)).alloc (.cells #[.bool false, .slice none 0 0, .slice none 0 0] 26)) := ⟨_, rfl⟩
 rw [← hw0] at HH HSZ HB HRA HRB ⊢
 clear hw0
 refine (S1.out w0 HRA.out).mono ?_
 rintro e w1 ⟨rfl, f1⟩
 obtain ⟨s2, s3, _, _⟩ := pair_cells HH.out.2.1 f1
 have H1 := hid f1
 have hR1 := HRB.out.below f1
 clear f1
 go_wp2_with fail
 refine (S2.out w1 hR1).mono ?_
 rintro e w2 ⟨rfl, f2⟩
 have p2 := H1.out.trans (f2.mono H1.out.size)
 clear f2 s2 s3 hR1
 obtain ⟨s0, s1, _, _⟩ := pair_cells HH.out.1 p2
 obtain ⟨s2, s3, _, _⟩ := pair_cells HH.out.2.1 p2
 have hcg := CG.out w2 (HRA.out.below p2) (HRB.out.below p2)
 have H2 := hid p2
 clear p2
 go_wp2_with fail
 refine hcg.mono ?_
 rintro e w3 ⟨ag, cg, rfl, og, f3⟩
 have p3 := H2.out.trans (f3.mono H2.out.size)
 clear s0 s1 s2 s3 hcg f3
 have hleg := og.rd.le
 have hcmg := og.rd.cm
 obtain ⟨s0, s1, _, _⟩ := pair_cells HH.out.1 p3
 have g4 := below_al p3 (.cells #[.bool false, .slice ag (nd G).length cg] 24)
 have Q4 := hid (heap_alloc_at w3 (.cells #[.bool false, .slice ag (nd G).length cg] 24))
 obtain ⟨R1, hca⟩ := CA.out (w3.alloc (.cells #[.bool false, .slice ag (nd G).length cg] 24)) ag cg (HRA.out.below g4) (own_al og _).rd
 have nl1 : w.heap.size < w3.heap.size := by have := HSZ.out; have := p3.size; omega
 have OG := hid (own_al og (.cells #[.bool false, .slice ag (nd G).length cg] 24)).rd
 have H4 := hid (And.intro g4 p3.size)
 clear p3 g4 og
 go_wp2_with fail
 refine hca.mono ?_
 rintro e w4 ⟨aq, cq, ar, cr, rfl, oq, _, f4⟩
 obtain ⟨wG, hwG⟩ : ∃ x, x = w3.alloc (.cells #[.bool false, .slice ag (nd G).length cg] 24) := ⟨_, rfl⟩
 have zG : wG.heap.size = w3.heap.size + 1 := by rw [hwG]; simp
 rw [← hwG] at Q4 OG H4 oq f4
 clear hwG hca s0 s1 nl1
 have p4 := H4.out.1.trans (f4.mono H4.out.1.size)
 obtain ⟨s2, s3, _, _⟩ := pair_cells HH.out.2.1 p4
 obtain ⟨s4, s5, _, _⟩ := pair_cells Q4.out f4
 have hleq := oq.rd.le
 have hcmq := oq.rd.cm
 have hb4 := A2_below w4 (.cells #[.bool (decide (Z < 0)), .slice aq (nd Z.natAbs).length cq] 24) (.cells #[.bool (decide (R1 < 0)), .slice ar (nd R1.natAbs).length cr] 24)
 have Q5 := hid (A2_heap w4 (.cells #[.bool (decide (Z < 0)), .slice aq (nd Z.natAbs).length cq] 24) (.cells #[.bool (decide (R1 < 0)), .slice ar (nd R1.natAbs).length cr] 24))
 have hp5 := p4.trans (hb4.mono p4.size)
 have z5 := A2_size w4 (.cells #[.bool (decide (Z < 0)), .slice aq (nd Z.natAbs).length cq] 24) (.cells #[.bool (decide (R1 < 0)), .slice ar (nd R1.natAbs).length cr] 24)
 obtain ⟨R2, hcb⟩ := CB.out _ ag cg (HRB.out.below hp5) ((OG.out.below f4).below hb4)
 have hs4 := f4.size
 have hs3 := H4.out.2
 have OQ := hid ((oq.mono (show w0.heap.size ≤ wG.heap.size by omega)).below hb4)
 have hsz0 := HSZ.out
 have nl2 : w.heap.size + 1 < w4.heap.size := by omega
 have nl3 : w3.heap.size < w4.heap.size := by omega
 have nl4 : w.heap.size < w4.heap.size := by omega
 have nl5 : w3.heap.size ≤ w4.heap.size := by omega
 have nl6 : w3.heap.size < w4.heap.size + 1 := by omega
 have nl7 : w.heap.size + 1 < w4.heap.size + 1 := by omega
 have H5 := hid (And.intro hp5 (And.intro z5 (show w0.heap.size ≤ w4.heap.size by omega)))
 unfold A2 at hcb Q5 OQ H5
 clear p4 hb4 hp5 z5 oq f4 hs4 hs3 hsz0
 clear OG Q4 H4 zG
 go_wp2_with fail
 obtain ⟨wQ, hwQ⟩ : ∃ x, x = (w4.alloc (.cells #[.bool (decide (Z < 0)), .slice aq (nd Z.natAbs).length cq] 24)).alloc (.cells #[.bool (decide (R1 < 0)), .slice ar (nd R1.natAbs).length cr] 24) := ⟨_, rfl⟩
 rw [← hwQ] at hcb Q5 OQ H5 ⊢
 clear hwQ s2 s3 s4 s5 nl2 nl3 nl4 nl5 nl6 nl7
 refine hcb.mono ?_
 rintro e w5 ⟨ae, ce, af, cf, rfl, oe, _, f5⟩
 have hlee := oe.rd.le
 have hcme := oe.rd.cm
 have p5 := H5.out.1.trans (f5.mono H5.out.1.size)
 have hb5 := A2_below w5 (.cells #[.bool (decide (E < 0)), .slice ae (nd E.natAbs).length ce] 24) (.cells #[.bool (decide (R2 < 0)), .slice af (nd R2.natAbs).length cf] 24)
 have Q6 := hid (A2_heap w5 (.cells #[.bool (decide (E < 0)), .slice ae (nd E.natAbs).length ce] 24) (.cells #[.bool (decide (R2 < 0)), .slice af (nd R2.natAbs).length cf] 24))
 have z6 := A2_size w5 (.cells #[.bool (decide (E < 0)), .slice ae (nd E.natAbs).length ce] 24) (.cells #[.bool (decide (R2 < 0)), .slice af (nd R2.natAbs).length cf] 24)
 have hf5 := f5.size
 have hz5 := H5.out.2
 have hsz0 := HSZ.out
 have Q7 := hid ((hb5.block w4.heap.size (by omega)).trans ((f5.block w4.heap.size (by omega)).trans Q5.out.1))
 have H6 := hid (And.intro (p5.trans (hb5.mono p5.size)) (And.intro ((OQ.out.below f5).below hb5) (oe.below hb5)))
 have H7 := hid (And.intro z6 (And.intro hf5 hz5))
 unfold A2 at Q6 Q7 H6 H7
 clear p5 hb5 z6 oe f5 hf5 hz5 hsz0 hcb Q5 OQ H5
 clear CA CB CG S1 S2
 go_upto_if 40 with fail
 obtain ⟨wz, hwz⟩ : ∃ x, x = (w5.alloc (.cells #[.bool (decide (E < 0)), .slice ae (nd E.natAbs).length ce] 24)).alloc (.cells #[.bool (decide (R2 < 0)), .slice af (nd R2.natAbs).length cf] 24) := ⟨_, rfl⟩
 rw [← hwz] at Q6 Q7 H6 H7 ⊢
 clear hwz
 obtain ⟨s0, s1, _, _⟩ := pair_cells Q7.out (Below.refl _ _)
 obtain ⟨t0, t1, _, _⟩ := pair_cells Q6.out.1 (Below.refl _ _)
 have ne1 : ¬ (w4.heap.size = w.heap.size + 1 + 1) := by have := HSZ.out; have := H7.out.2.2.2; omega
 have ne2 : ¬ (w.heap.size + 1 + 1 = w4.heap.size) := fun h => ne1 h.symm
 have ne3 : ¬ (w5.heap.size = w4.heap.size) := by have := H7.out; omega
 have ne4 : ¬ (w4.heap.size = w5.heap.size) := fun h => ne3 h.symm
 have ne5 : ¬ (w5.heap.size = w.heap.size + 1 + 1) := by have := HSZ.out; have := H7.out; omega
 have ne6 : ¬ (w.heap.size + 1 + 1 = w5.heap.size) := fun h => ne5 h.symm
 by_cases hE : E < 0
 ·have HQ2 := hid (And.intro (show q.num = -Z by rw [HQ.out.1, if_pos hE]) HQ.out.2)
  go_wp2_with fail
  refine (CN.out wz aq cq H6.out.2.1.rd).mono ?_
  rintro e w6 ⟨an, cn, rfl, on, f6⟩
  clear s0 s1 t0 t1
  obtain ⟨s0, s1, s2, s3⟩ := pair_cells Q7.out f6
  obtain ⟨t0, t1, _, _⟩ := pair_cells Q6.out.1 f6
  have p6 := H6.out.1.trans (f6.mono H6.out.1.size)
  obtain ⟨k0, k1, k2, k3, k4, k5⟩ := cells3 HH.out.2.2 p6
  have hlen := on.rd.le
  have hcmn := on.rd.cm
  have H8 := hid (And.intro p6 (And.intro on (H6.out.2.2.below f6)))
  clear on f6 p6
  go_wp2
  have hsz := HSZ.out
  have h7 := H7.out
  refine bodyPost_ret (v := .agg #[.bool (decide (-Z < 0)), .slice an (nd (-Z).natAbs).length cn, .slice ae (nd E.natAbs).length ce]) (by simp [results, Tryz.results95, go_sem, k0, k1, k2]) rfl ?_
  unfold RetRat
  rw [HQ2.out.1, HQ2.out.2]
  refine ⟨an, cn, ae, ce, rfl, ?_, ?_, ?_⟩
  ·refine Own.mono (B := wz.heap.size) ?_ (by omega)
   repeat refine Own.setOld ?_ (by omega) _
   exact H8.out.2.1
  ·refine Own.mono (B := wQ.heap.size) ?_ (by omega)
   repeat refine Own.setOld ?_ (by omega) _
   exact H8.out.2.2
  ·repeat refine below_set _ _ (by omega) ?_
   exact HB.out.trans (H8.out.1.mono HB.out.size)
 ·have HQ2 := hid (And.intro (show q.num = Z by rw [HQ.out.1, if_neg hE]) HQ.out.2)
  obtain ⟨k0, k1, k2, k3, k4, k5⟩ := cells3 HH.out.2.2 H6.out.1
  go_wp2
  have hsz := HSZ.out
  have h7 := H7.out
  refine bodyPost_ret (v := .agg #[.bool (decide (Z < 0)), .slice aq (nd Z.natAbs).length cq, .slice ae (nd E.natAbs).length ce]) (by simp [results, Tryz.results95, go_sem, k0, k1, k2]) rfl ?_
  unfold RetRat
  rw [HQ2.out.1, HQ2.out.2]
  refine ⟨aq, cq, ae, ce, rfl, ?_, ?_, ?_⟩
  ·refine Own.mono (B := w0.heap.size) ?_ (by omega)
   repeat refine Own.setOld ?_ (by omega) _
   exact H6.out.2.1
  ·refine Own.mono (B := wQ.heap.size) ?_ (by omega)
   repeat refine Own.setOld ?_ (by omega) _
   exact H6.out.2.2
  ·repeat refine below_set _ _ (by omega) ?_
   exact HB.out.trans (H6.out.1.mono HB.out.size)

theorem reduce_any (b1 b2 : Bool) (aa ab : Option Addr) (ca cb : Nat) (xs ys : List Nat) (w : World) (ha : Rd w aa ca xs) (hb : Rd w ab cb ys) (hl1 : xs.length ≤ 4398046511104) (hl2 : ys.length ≤ 4398046511104) :
  Calls Tryz.prog 95 #[.agg #[.bool b1, .slice aa xs.length ca], .agg #[.bool b2, .slice ab ys.length cb]] w (RetRat (Rat.divInt (iv b1 (val xs)) (iv b2 (val ys))) w) := by
 by_cases h1 : iv b1 (val xs) = 0
 ·exact reduce_zero b1 b2 aa ab ca cb xs ys w ha hb hl1 hl2 (Or.inl h1)
 ·by_cases h2 : iv b2 (val ys) = 0
  ·exact reduce_zero b1 b2 aa ab ca cb xs ys w ha hb hl1 hl2 (Or.inr h2)
  ·exact reduce_main b1 b2 aa ab ca cb xs ys w ha hb hl1 hl2 h1 h2
end Go.Proofs.YtcankknlbljicaaGreatDoor

namespace Go.Proofs.YtcankknlbljicaaGreatDoor
open Go.RowKit Num

def RetPq (q : Rat) (n : Nat) (w : World) (e : Ending) (w' : World) : Prop :=
 ∃ b ao c xs ad d D, e = .returned (.tuple #[.agg #[.bool b, .slice ao xs.length c], .agg #[.bool false, .slice ad (nd D).length d]]) ∧ Fr w' b ao c xs ad d (nd D) q n ∧ Below w.heap.size w w'
theorem parts_zero (b : Bool) (ao ad : Option Addr) (c d : Nat) (xs ds : List Nat) (w : World) (hx : Rd w ao c xs) (hd : Rd w ad d ds) (hl : ds.length ≤ 17592186044416) (h0 : val ds = 0) :
  Calls Tryz.prog 94 #[.agg #[.bool b, .slice ao xs.length c, .slice ad ds.length d]] w (RetPq 0 1 w) := by
 have hle1 := hx.le
 have hcm1 := hx.cm
 have hle2 := hd.le
 have hcm2 := hd.cm
 have hB := A3_below w (.cells #[.bool b, .slice ao xs.length c, .slice ad ds.length d] 26) (.cells #[.bool false, .slice none 0 0] 24) (.cells #[.bool false, .slice none 0 0] 24)
 have HH := hid (A3_heap w (.cells #[.bool b, .slice ao xs.length c, .slice ad ds.length d] 26) (.cells #[.bool false, .slice none 0 0] 24) (.cells #[.bool false, .slice none 0 0] 24))
 have HSZ := hid (A3_size w (.cells #[.bool b, .slice ao xs.length c, .slice ad ds.length d] 26) (.cells #[.bool false, .slice none 0 0] 24) (.cells #[.bool false, .slice none 0 0] 24))
 have HB := hid hB
 have ht := rtrim_any ad d ds _ (hd.below hB) hl
 rw [h0, nd_zero] at ht
 unfold A3 at HH HSZ HB ht
 clear hx hd hB h0
 have n01 : ¬ (w.heap.size = w.heap.size + 1 + 1) := by omega
 have n02 : ¬ (w.heap.size + 1 + 1 = w.heap.size) := by omega
 have n03 : ¬ (w.heap.size + 1 = w.heap.size + 1 + 1) := by omega
 have n04 : ¬ (w.heap.size + 1 + 1 = w.heap.size + 1) := by omega
 have n05 : ¬ (w.heap.size = w.heap.size + 1) := by omega
 have n06 : ¬ (w.heap.size + 1 = w.heap.size) := by omega
 go_enter Tryz.func94, Tryz.ntmps94
 go_wp2_with fail
 obtain ⟨w0, hw0⟩ : ∃ x, x = (((w.alloc (.cells #[.bool b, .slice ao xs.length c, .slice ad ds.length d] 26)).alloc (.cells #[.bool false, .slice none 0 0] 24)).alloc (.cells #[.bool false, .slice none 0 0] 24)) := ⟨_, rfl⟩
 rw [← hw0] at HH HSZ HB ht ⊢
 clear hw0
 refine ht.mono ?_
 rintro e w1 ⟨at1, ct1, rfl, o1, f1⟩
 have hct := o1.rd.cm
 have K1 := hid ((f1.block (w.heap.size + 1) (by have := HSZ.out; omega)).trans HH.out.2.1)
 have K2 := hid ((f1.block (w.heap.size + 2) (by have := HSZ.out; omega)).trans HH.out.2.2)
 obtain ⟨s0, s1, s2, s3⟩ := pair_cells K1.out (Below.refl _ _)
 obtain ⟨t0, t1, t2, t3⟩ := pair_cells K2.out (Below.refl _ _)
 have H1 := hid (And.intro (HB.out.trans (f1.mono HB.out.size)) f1.size)
 have nl0 : w.heap.size < w1.heap.size := by have := HSZ.out; have := H1.out.2; omega
 have nl1 : w.heap.size + 1 < w1.heap.size := by have := HSZ.out; have := H1.out.2; omega
 have nl2 : w.heap.size + 1 + 1 < w1.heap.size := by have := HSZ.out; have := H1.out.2; omega
 clear ht f1 o1
 go_wp2
 obtain ⟨W, hW⟩ : ∃ W, W = ((((((w1.setCell ⟨w.heap.size + 1, 0, none⟩ (.bool false)).setCell ⟨w.heap.size + 1, 1, none⟩ (.slice none 0 0)).setCell ⟨w.heap.size + 1 + 1, 0, none⟩ (.bool false)).setCell ⟨w.heap.size + 1 + 1, 1, none⟩ (.slice (some ⟨w1.heap.size + 1, 0, none⟩) 1 1)).alloc (.cells #[.bool false, .slice at1 0 ct1] 24)).alloc (.cells #[.int .u32 1] 88)) := ⟨_, rfl⟩
 have B1 : W.heap[w.heap.size + 1]? = some (.cells #[.bool false, .slice none 0 0] 24) := by
  rw [hW]
  (repeat (first | (with_reducible refine heap_at' _ _ _ ?_; (first | omega | (simp only [alloc_size, drew_size, setCell_size]; done) | (simp only [alloc_size, drew_size, setCell_size]; omega))) | (with_reducible apply box2) | (with_reducible apply box3) | (with_reducible refine (heap_set _ _ _ _ _ ?_).trans ?_; (· (first | omega | (simp only [alloc_size, drew_size, setCell_size]; done) | (simp only [alloc_size, drew_size, setCell_size]; omega)))) | (with_reducible refine (Below.heap_alloc _ _ _ ?_).trans ?_; (· (first | omega | (simp only [alloc_size, drew_size, setCell_size]; done) | (simp only [alloc_size, drew_size, setCell_size]; omega)))) | (with_reducible refine (drew_at _ _).trans ?_)))
  exact K1.out
 have B2 : W.heap[w.heap.size + 2]? = some (.cells #[.bool false, .slice (some ⟨w1.heap.size + 1, 0, none⟩) 1 1] 24) := by
  rw [hW]
  (repeat (first | (with_reducible refine heap_at' _ _ _ ?_; (first | omega | (simp only [alloc_size, drew_size, setCell_size]; done) | (simp only [alloc_size, drew_size, setCell_size]; omega))) | (with_reducible apply box2) | (with_reducible apply box3) | (with_reducible refine (heap_set _ _ _ _ _ ?_).trans ?_; (· (first | omega | (simp only [alloc_size, drew_size, setCell_size]; done) | (simp only [alloc_size, drew_size, setCell_size]; omega)))) | (with_reducible refine (Below.heap_alloc _ _ _ ?_).trans ?_; (· (first | omega | (simp only [alloc_size, drew_size, setCell_size]; done) | (simp only [alloc_size, drew_size, setCell_size]; omega)))) | (with_reducible refine (drew_at _ _).trans ?_)))
  exact K2.out
 have B3 : Below w.heap.size w W := by
  rw [hW]
  have := H1.out.1
  (repeat (first | with_reducible assumption | with_reducible exact Below.refl _ _ | with_reducible apply Below.drew | with_reducible apply below_al | (with_reducible refine below_set _ _ ?_ ?_; (· (first | omega | (simp only [alloc_size, drew_size, setCell_size]; done) | (simp only [alloc_size, drew_size, setCell_size]; omega))))))
 have B4 : Own w.heap.size W (some ⟨w1.heap.size + 1, 0, none⟩) 1 [1] := by
  have h := Own.one ((((((w1.setCell ⟨w.heap.size + 1, 0, none⟩ (.bool false)).setCell ⟨w.heap.size + 1, 1, none⟩ (.slice none 0 0)).setCell ⟨w.heap.size + 1 + 1, 0, none⟩ (.bool false)).setCell ⟨w.heap.size + 1 + 1, 1, none⟩ (.slice (some ⟨w1.heap.size + 1, 0, none⟩) 1 1)).alloc (.cells #[.bool false, .slice at1 0 ct1] 24))) w.heap.size 1 (by rw [alloc_size, setCell_size, setCell_size, setCell_size, setCell_size]; omega) (by omega)
  rw [alloc_size, setCell_size, setCell_size, setCell_size, setCell_size] at h
  rw [hW]
  exact h
 rw [← hW]
 clear hW
 obtain ⟨u0, u1, _, _⟩ := pair_cells B1 (Below.refl _ _)
 obtain ⟨v0, v1, _, _⟩ := pair_cells B2 (Below.refl _ _)
 refine bodyPost_ret (v := .tuple #[.agg #[.bool false, .slice none 0 0], .agg #[.bool false, .slice (some ⟨w1.heap.size + 1, 0, none⟩) 1 1]]) (by simp [results, Tryz.results94, go_sem, u0, u1, v0, v1]) rfl ?_
 refine ⟨false, none, 0, [], some ⟨w1.heap.size + 1, 0, none⟩, 1, 1, by rw [nd_one]; rfl, ⟨Rd.nil (by omega) (fun _ => rfl), by rw [nd_one]; exact B4.rd, by simp [val_nd], by rw [val_nd]; rfl, by simp, by rw [nd_one]; simp⟩, B3⟩
theorem parts_r {w : World} {b : Bool} {ao : Option Addr} {c : Nat} {xs : List Nat} {ad : Option Addr} {d : Nat} {ds : List Nat} {q : Rat} {n : Nat} (h : Rq w b ao c xs ad d ds q n) (hn : n ≤ 4398046511103) :
  Calls Tryz.prog 94 #[.agg #[.bool b, .slice ao xs.length c, .slice ad ds.length d]] w (RetPq q (n + 1) w) := by
 have h1 := h.ln
 have h2 := h.ld
 by_cases h0 : val ds = 0
 ·have hq : q = 0 := by rw [← h.vq, h0, rv_zero]
  refine (parts_zero b ao ad c d xs ds w h.rn h.rd (by omega) h0).mono ?_
  rintro e w' ⟨b', ao', c', xs', ad', d', D, he, hF, hb⟩
  rw [← hq] at hF
  exact ⟨b', ao', c', xs', ad', d', D, he, hF.mono (by omega), hb⟩
 ·refine (parts_any b ao ad c d xs ds w h.rn h.rd (by omega) h0).mono ?_
  rintro e w' ⟨b', ao', c', xs', ad', d', D, he, r1, r2, r3, r4, r5, r6, r7⟩
  exact ⟨b', ao', c', xs', ad', d', D, he, ⟨r1, r2, by rw [val_nd]; exact r3, by rw [val_nd, r4]; exact h.vq, by omega, by omega⟩, r7⟩
theorem reduce_q {w : World} {b1 b2 : Bool} {aa ab : Option Addr} {ca cb : Nat} {xs ys : List Nat} {q : Rat} (ha : Rd w aa ca xs) (hb : Rd w ab cb ys) (hl1 : xs.length ≤ 4398046511104) (hl2 : ys.length ≤ 4398046511104) (hq : Rat.divInt (iv b1 (val xs)) (iv b2 (val ys)) = q) :
  Calls Tryz.prog 95 #[.agg #[.bool b1, .slice aa xs.length ca], .agg #[.bool b2, .slice ab ys.length cb]] w (RetRat q w) := hq ▸ reduce_any b1 b2 aa ab ca cb xs ys w ha hb hl1 hl2
end Go.Proofs.YtcankknlbljicaaGreatDoor
