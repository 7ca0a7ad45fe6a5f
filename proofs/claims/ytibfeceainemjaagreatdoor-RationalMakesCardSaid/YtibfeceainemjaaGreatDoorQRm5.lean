/- Rationals: the reference's Make. -/
import Derived.Test.YtibfeceainemjaaGreatDoorQ5
import Derived.Test.YtibfeceainemjaaGreatDoorQ1

set_option linter.unusedVariables false
set_option linter.unusedSimpArgs false
set_option linter.unusedSectionVars false

namespace Go.Proofs.YtibfeceainemjaaGreatDoor
open Go.RowKit Num

set_option maxRecDepth 100000 in
set_option maxHeartbeats 3200000 in
theorem rmake_zero (b1 b2 : Bool) (aa ab : Option Addr) (ca cb : Nat) (xs ys : List Nat) (w : World) (ha : Rd w aa ca xs) (hb : Rd w ab cb ys) (hl1 : xs.length ≤ 4398046511104) (hl2 : ys.length ≤ 4398046511104) (h0 : iv b2 (val ys) = 0) (q : Rat) :
    Calls Tryz.prog 38 #[.agg #[.bool b1, .slice aa xs.length ca], .agg #[.bool b2, .slice ab ys.length cb]] w (RetRatE q 3 w) := by
  have hle1 := ha.le
  have hcm1 := ha.cm
  have hle2 := hb.le
  have hcm2 := hb.cm
  have hB := A3_below w (.cells #[.bool b1, .slice aa xs.length ca] 24) (.cells #[.bool b2, .slice ab ys.length cb] 24) (.cells #[.bool false, .slice none 0 0, .slice none 0 0] 26)
  have HH := hid (A3_heap w (.cells #[.bool b1, .slice aa xs.length ca] 24) (.cells #[.bool b2, .slice ab ys.length cb] 24) (.cells #[.bool false, .slice none 0 0, .slice none 0 0] 26))
  have HSZ := hid (A3_size w (.cells #[.bool b1, .slice aa xs.length ca] 24) (.cells #[.bool b2, .slice ab ys.length cb] 24) (.cells #[.bool false, .slice none 0 0, .slice none 0 0] 26))
  have HB := hid hB
  have hs := rsign_any b2 ab cb ys _ (hb.below hB) (by omega)
  have HRA := hid (And.intro (ha.below hB) (hb.below hB))
  unfold A3 at HH HSZ HB hs HRA
  rw [h0] at hs
  have e1 : sgn 0 = 0 := rfl
  rw [e1] at hs
  clear ha hb hB e1 h0
  have n01 : ¬ (w.heap.size = w.heap.size + 1 + 1) := by omega
  have n02 : ¬ (w.heap.size + 1 + 1 = w.heap.size) := by omega
  have n03 : ¬ (w.heap.size + 1 = w.heap.size + 1 + 1) := by omega
  have n04 : ¬ (w.heap.size + 1 + 1 = w.heap.size + 1) := by omega
  have n05 : ¬ (w.heap.size = w.heap.size + 1) := by omega
  have n06 : ¬ (w.heap.size + 1 = w.heap.size) := by omega
  go_enter Tryz.func38, Tryz.ntmps38
  go_wp2_with fail
  obtain ⟨w0, hw0⟩ : ∃ x, x = (((w.alloc (.cells #[.bool b1, .slice aa xs.length ca] 24)).alloc (.cells #[.bool b2, .slice ab ys.length cb] 24)).alloc (.cells #[.bool false, .slice none 0 0, .slice none 0 0] 26)) := ⟨_, rfl⟩
  rw [← hw0] at HH HSZ HB hs HRA ⊢
  clear hw0
  refine hs.mono ?_
  rintro e w1 ⟨rfl, f1⟩
  obtain ⟨k0, k1, k2, k3, k4, k5⟩ := cells3 HH.out.2.2 f1
  have H1 := hid (HB.out.trans (f1.mono HB.out.size))
  clear hs f1
  go_wp2
  refine bodyPost_ret (v := .tuple #[.agg #[.bool false, .slice none 0 0, .slice none 0 0], .int .i64 3]) (by simp [results, Tryz.results38, go_sem, k0, k1, k2]) rfl ?_
  exact RetRatE.err (by decide) H1.out (by omega) _ _ _

set_option maxRecDepth 100000 in
set_option maxHeartbeats 3200000 in
theorem rmake_main (b1 b2 : Bool) (aa ab : Option Addr) (ca cb : Nat) (xs ys : List Nat) (w : World) (ha : Rd w aa ca xs) (hb : Rd w ab cb ys) (hl1 : xs.length ≤ 4398046511104) (hl2 : ys.length ≤ 4398046511104) (h0 : iv b2 (val ys) ≠ 0) :
    Calls Tryz.prog 38 #[.agg #[.bool b1, .slice aa xs.length ca], .agg #[.bool b2, .slice ab ys.length cb]] w (RetRatE (Rat.divInt (iv b1 (val xs)) (iv b2 (val ys))) 0 w) := by
  have hle1 := ha.le
  have hcm1 := ha.cm
  have hle2 := hb.le
  have hcm2 := hb.cm
  have hB := A3_below w (.cells #[.bool b1, .slice aa xs.length ca] 24) (.cells #[.bool b2, .slice ab ys.length cb] 24) (.cells #[.bool false, .slice none 0 0, .slice none 0 0] 26)
  have HH := hid (A3_heap w (.cells #[.bool b1, .slice aa xs.length ca] 24) (.cells #[.bool b2, .slice ab ys.length cb] 24) (.cells #[.bool false, .slice none 0 0, .slice none 0 0] 26))
  have HSZ := hid (A3_size w (.cells #[.bool b1, .slice aa xs.length ca] 24) (.cells #[.bool b2, .slice ab ys.length cb] 24) (.cells #[.bool false, .slice none 0 0, .slice none 0 0] 26))
  have HB := hid hB
  have hs := rsign_any b2 ab cb ys _ (hb.below hB) (by omega)
  have HRA := hid (And.intro (ha.below hB) (hb.below hB))
  unfold A3 at HH HSZ HB hs HRA
  have hs1 : (sgn (iv b2 (val ys)) == 0) = false := by
    rw [beq_eq_false_iff_ne]
    unfold sgn
    split
    · decide
    · first | decide | (rw [if_neg h0]; decide)
  have HRD := hid (fun w' (h1 : Rd w' aa ca xs) (h2 : Rd w' ab cb ys) => reduce_any b1 b2 aa ab ca cb xs ys w' h1 h2 hl1 hl2)
  obtain ⟨q, hqq⟩ : ∃ q, q = Rat.divInt (iv b1 (val xs)) (iv b2 (val ys)) := ⟨_, rfl⟩
  simp only [← hqq] at HRD
  rw [← hqq]
  obtain ⟨sz, hsz⟩ : ∃ s, s = sgn (iv b2 (val ys)) := ⟨_, rfl⟩
  rw [← hsz] at hs hs1
  clear ha hb hB h0 hqq hsz
  have n01 : ¬ (w.heap.size = w.heap.size + 1 + 1) := by omega
  have n02 : ¬ (w.heap.size + 1 + 1 = w.heap.size) := by omega
  have n03 : ¬ (w.heap.size + 1 = w.heap.size + 1 + 1) := by omega
  have n04 : ¬ (w.heap.size + 1 + 1 = w.heap.size + 1) := by omega
  have n05 : ¬ (w.heap.size = w.heap.size + 1) := by omega
  have n06 : ¬ (w.heap.size + 1 = w.heap.size) := by omega
  go_enter Tryz.func38, Tryz.ntmps38
  go_wp2_with fail
  obtain ⟨w0, hw0⟩ : ∃ x, x = (((w.alloc (.cells #[.bool b1, .slice aa xs.length ca] 24)).alloc (.cells #[.bool b2, .slice ab ys.length cb] 24)).alloc (.cells #[.bool false, .slice none 0 0, .slice none 0 0] 26)) := ⟨_, rfl⟩
  rw [← hw0] at HH HSZ HB hs HRA ⊢
  clear hw0
  refine hs.mono ?_
  rintro e w1 ⟨rfl, f1⟩
  obtain ⟨s0, s1, _, _⟩ := pair_cells HH.out.1 f1
  obtain ⟨t0, t1, _, _⟩ := pair_cells HH.out.2.1 f1
  have hr := HRD.out w1 (HRA.out.1.below f1) (HRA.out.2.below f1)
  have H1 := hid f1
  clear hs f1
  go_wp2_with fail
  refine hr.mono ?_
  rintro e w4 ⟨a4, c4, d4, e4, rfl, o4, u4, f4⟩
  have p4 := H1.out.trans (f4.mono H1.out.size)
  obtain ⟨k0, k1, k2, k3, k4, k5⟩ := cells3 HH.out.2.2 p4
  have H4 := hid (And.intro o4 (And.intro u4 p4))
  clear hr o4 u4 f4 p4 s0 s1 t0 t1
  go_wp2
  have hsz := HSZ.out
  have hs1 := H1.out.size
  refine bodyPost_ret (v := .tuple #[.agg #[.bool (decide (q.num < 0)), .slice a4 (nd q.num.natAbs).length c4, .slice d4 (nd q.den).length e4], .int .i64 0]) (by simp [results, Tryz.results38, go_sem, k0, k1, k2]) rfl ?_
  exact RetRatE.fin H4.out.1 H4.out.2.1 (by omega) (HB.out.trans (H4.out.2.2.mono HB.out.size)) (by omega) _ _ _

theorem rmake_any (b1 b2 : Bool) (aa ab : Option Addr) (ca cb : Nat) (xs ys : List Nat) (w : World) (ha : Rd w aa ca xs) (hb : Rd w ab cb ys) (hl1 : xs.length ≤ 4398046511104) (hl2 : ys.length ≤ 4398046511104) :
    Calls Tryz.prog 38 #[.agg #[.bool b1, .slice aa xs.length ca], .agg #[.bool b2, .slice ab ys.length cb]] w (RetRatE (Rat.divInt (iv b1 (val xs)) (iv b2 (val ys))) (zer (iv b2 (val ys))) w) := by
  by_cases h : iv b2 (val ys) = 0
  · rw [show zer (iv b2 (val ys)) = 3 from if_pos h]
    exact rmake_zero b1 b2 aa ab ca cb xs ys w ha hb hl1 hl2 h _
  · rw [show zer (iv b2 (val ys)) = 0 from if_neg h]
    exact rmake_main b1 b2 aa ab ca cb xs ys w ha hb hl1 hl2 h
end Go.Proofs.YtibfeceainemjaaGreatDoor
