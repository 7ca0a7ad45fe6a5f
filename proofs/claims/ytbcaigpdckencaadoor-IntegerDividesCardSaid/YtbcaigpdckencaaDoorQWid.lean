/- The walk of IntegerDivides. -/
import Derived.Test.YtbcaigpdckencaaDoorQIa0
import Derived.Test.YtbcaigpdckencaaDoorQId0
import Derived.Test.YtbcaigpdckencaaDoorQk
import Derived.Deep.RegionHeld3

namespace Go.Proofs.YtbcaigpdckencaaDoor
open Go.RowKit Num

theorem iv_canonZ (z : Int) : iv (decide (z < 0)) (val (nd z.natAbs)) = z := by rw [val_nd, iv_self]
theorem B2_heap (w : World) (b1 b2 : Bool) (aa ab : Option Addr) (n1 n2 ca cb : Nat) :
    (B2 w b1 b2 aa ab n1 n2 ca cb).heap[w.heap.size]? = some (.cells #[.bool b1, .slice aa n1 ca] 43 (0, 0)) ∧ (B2 w b1 b2 aa ab n1 n2 ca cb).heap[w.heap.size + 1]? = some (.cells #[.bool b2, .slice ab n2 cb] 43 (0, 0)) := by
  have x1 := heap_alloc_at w (.cells #[.bool b1, .slice aa n1 ca] 43)
  have z1 : (w.alloc (.cells #[.bool b1, .slice aa n1 ca] 43)).heap.size = w.heap.size + 1 := by simp
  have x2 := heap_alloc_at (w.alloc (.cells #[.bool b1, .slice aa n1 ca] 43)) (.cells #[.bool b2, .slice ab n2 cb] 43)
  rw [z1] at x2
  have y2 := (below_alloc (w.alloc (.cells #[.bool b1, .slice aa n1 ca] 43)) (.cells #[.bool b2, .slice ab n2 cb] 43)).block w.heap.size (by omega)
  exact ⟨y2.trans x1, x2⟩

theorem imul_zz (b1 b2 : Bool) (aa ab : Option Addr) (ca cb : Nat) (xs ys : List Nat) (w : World) (ha : Rd w aa ca xs) (hb : Rd w ab cb ys) (hl1 : xs.length ≤ 4398046511104) (hl2 : ys.length ≤ 4398046511104) {z : Int} (hz : iv b1 (val xs) * iv b2 (val ys) = z) :
    Calls Tryd.prog 40 #[.agg #[.bool b1, .slice aa xs.length ca], .agg #[.bool b2, .slice ab ys.length cb]] w (RetInt w.heap.size z w) := hz ▸ imul_any b1 b2 aa ab ca cb xs ys w ha hb hl1 hl2
theorem iadd_zz (b1 b2 : Bool) (aa ab : Option Addr) (ca cb : Nat) (xs ys : List Nat) (w : World) (ha : Rd w aa ca xs) (hb : Rd w ab cb ys) (hl1 : xs.length ≤ 4398046511104) (hl2 : ys.length ≤ 4398046511104) {z : Int} (hz : iv b1 (val xs) + iv b2 (val ys) = z) :
    Calls Tryd.prog 39 #[.agg #[.bool b1, .slice aa xs.length ca], .agg #[.bool b2, .slice ab ys.length cb]] w (RetInt w.heap.size z w) := hz ▸ iadd_any b1 b2 aa ab ca cb xs ys w ha hb hl1 hl2
theorem icmp_zz (b1 b2 : Bool) (aa ab : Option Addr) (ca cb : Nat) (xs ys : List Nat) (w : World) (ha : Rd w aa ca xs) (hb : Rd w ab cb ys) (hl1 : xs.length ≤ 17592186044416) (hl2 : ys.length ≤ 17592186044416) {r : Int} (hr : cmpI (iv b1 (val xs)) (iv b2 (val ys)) = r) :
    Calls Tryd.prog 37 #[.agg #[.bool b1, .slice aa xs.length ca], .agg #[.bool b2, .slice ab ys.length cb]] w (RetB (.int .i64 r) w) := hr ▸ icompare_any b1 b2 aa ab ca cb xs ys w ha hb hl1 hl2
theorem emod_facts {A B : Int} {v : Nat} (hv : B.natAbs = v) (h0 : v ≠ 0) : 0 ≤ A % B ∧ A % B < (v : Int) ∧ A / B * B + A % B = A := by
  have hB : B ≠ 0 := by omega
  refine ⟨Int.emod_nonneg _ hB, ?_, by rw [Int.mul_comm]; exact Int.mul_ediv_add_emod A B⟩
  by_cases hp : 0 < B
  · have := Int.emod_lt_of_pos A hp; omega
  · rw [← Int.emod_neg]
    have := Int.emod_lt_of_pos A (show 0 < -B by omega); omega
/-- the two divisions together -/
theorem idivs (b1 b2 : Bool) (aa ab : Option Addr) (ca cb : Nat) (xs ys : List Nat) (hl1 : xs.length ≤ 4398046511104) (hl2 : ys.length ≤ 4398046511104) :
    ∃ ZQ ZR ER : Int, ((val ys = 0 ∧ ER = 3 ∧ ZQ = 0 ∧ ZR = 0) ∨ (val ys ≠ 0 ∧ ER = 0 ∧ ZQ = iv b1 (val xs) / iv b2 (val ys) ∧ ZR = iv b1 (val xs) % iv b2 (val ys))) ∧ ∀ w, Rd w aa ca xs → Rd w ab cb ys →
      Calls Tryd.prog 33 #[.agg #[.bool b1, .slice aa xs.length ca], .agg #[.bool b2, .slice ab ys.length cb]] w (RetIDiv w.heap.size ZQ ZR ER w) ∧
      Calls Tryd.prog 34 #[.agg #[.bool b1, .slice aa xs.length ca], .agg #[.bool b2, .slice ab ys.length cb]] w (RetIDiv w.heap.size ZQ ZR ER w) := by
  by_cases h0 : val ys = 0
  · exact ⟨0, 0, 3, Or.inl ⟨h0, rfl, rfl, rfl⟩, fun w ha hb => ⟨idiv_zero b1 b2 aa ab ca cb xs ys w ha hb h0, rdiv2_zero b1 b2 aa ab ca cb xs ys w ha hb hl1 hl2 h0⟩⟩
  · exact ⟨_, _, 0, Or.inr ⟨h0, rfl, rfl, rfl⟩, fun w ha hb => ⟨idiv_any b1 b2 aa ab ca cb xs ys w ha hb h0 hl1 hl2, rdiv2_any b1 b2 aa ab ca cb xs ys w ha hb hl1 hl2 h0⟩⟩

set_option maxRecDepth 100000 in
set_option maxHeartbeats 6400000 in
theorem walkIntegerDivides (b1 b2 : Bool) (aa : Option Addr) (ca : Nat) (xs : List Nat) (ab : Option Addr) (cb : Nat) (ys : List Nat) (w : World) (ha : Rd w aa ca xs) (hb : Rd w ab cb ys) :
    Calls Tryd.prog 6 #[.agg #[.bool b1, .slice aa xs.length ca], .agg #[.bool b2, .slice ab ys.length cb]] w (RetB (.bool true) w) := by
  have hla := ha.le
  have hla2 := ha.cm
  have hlb := hb.le
  have hlb2 := hb.cm
  by_cases hx0 : xs.length ≤ 10
  case neg =>
    have hB := B2_below w b1 b2 aa ab xs.length ys.length ca cb
    have HC := hid (fun w' => B2_cells (w' := w') (w := w) (b1 := b1) (b2 := b2) (aa := aa) (ab := ab) (n1 := xs.length) (n2 := ys.length) (ca := ca) (cb := cb))
    have HB := hid hB
    have HR := hid (And.intro (ha.below hB) (hb.below hB))
    unfold B2 at HC HB HR
    clear ha hb hB
    go_enter Tryd.func6, Tryd.ntmps6
    go_wp2_with fail
    obtain ⟨w0, hw0⟩ : ∃ x, x = ((w.alloc (.cells #[.bool b1, .slice aa xs.length ca] 43)).alloc (.cells #[.bool b2, .slice ab ys.length cb] 43)) := ⟨_, rfl⟩
    rw [← hw0] at HC HB HR ⊢
    clear hw0
    have k0 := Below.refl w0.heap.size w0
    obtain ⟨s0, s1, s2, s3⟩ := HC.out w0 k0
    have c1 := small2_any b1 aa xs.length ca false w0 (by omega) (by simp; omega)
    refine c1.mono ?_
    rintro e w1 ⟨rfl, f1⟩
    clear s0 s1 s2 s3 c1
    have k1 := k0.trans (f1.mono k0.size)
    obtain ⟨s0, s1, s2, s3⟩ := HC.out w1 k1
    clear f1 k0
    have hk := awake2_any w1
    go_wp2_with fail
    refine hk.mono ?_
    rintro e wz ⟨rfl, fz⟩
    have kz := HB.out.trans ((k1.trans (fz.mono k1.size)).mono HB.out.size)
    clear hk fz k1 s0 s1 s2 s3
    go_wp2
    go_ret
    exact ⟨rfl, kz⟩
  by_cases hx1 : ys.length ≤ 10
  case neg =>
    have hB := B2_below w b1 b2 aa ab xs.length ys.length ca cb
    have HC := hid (fun w' => B2_cells (w' := w') (w := w) (b1 := b1) (b2 := b2) (aa := aa) (ab := ab) (n1 := xs.length) (n2 := ys.length) (ca := ca) (cb := cb))
    have HB := hid hB
    have HR := hid (And.intro (ha.below hB) (hb.below hB))
    unfold B2 at HC HB HR
    clear ha hb hB
    go_enter Tryd.func6, Tryd.ntmps6
    go_wp2_with fail
    obtain ⟨w0, hw0⟩ : ∃ x, x = ((w.alloc (.cells #[.bool b1, .slice aa xs.length ca] 43)).alloc (.cells #[.bool b2, .slice ab ys.length cb] 43)) := ⟨_, rfl⟩
    rw [← hw0] at HC HB HR ⊢
    clear hw0
    have k0 := Below.refl w0.heap.size w0
    obtain ⟨s0, s1, s2, s3⟩ := HC.out w0 k0
    have c1 := small2_any b1 aa xs.length ca true w0 (by omega) (by simp; omega)
    refine c1.mono ?_
    rintro e w1 ⟨rfl, f1⟩
    clear s0 s1 s2 s3 c1
    have k1 := k0.trans (f1.mono k0.size)
    obtain ⟨s0, s1, s2, s3⟩ := HC.out w1 k1
    clear f1 k0
    have c2 := small2_any b2 ab ys.length cb false w1 (by omega) (by simp; omega)
    go_wp2_with fail
    refine c2.mono ?_
    rintro e w2 ⟨rfl, f2⟩
    clear s0 s1 s2 s3 c2
    have k2 := k1.trans (f2.mono k1.size)
    obtain ⟨s0, s1, s2, s3⟩ := HC.out w2 k2
    clear f2 k1
    have hk := awake2_any w2
    go_wp2_with fail
    refine hk.mono ?_
    rintro e wz ⟨rfl, fz⟩
    have kz := HB.out.trans ((k2.trans (fz.mono k2.size)).mono HB.out.size)
    clear hk fz k2 s0 s1 s2 s3
    go_wp2
    go_ret
    exact ⟨rfl, kz⟩
  have hv1 := val_lt_of ha.dg hx0
  have hv2 := val_lt_of hb.dg hx1
  have HV := hid (And.intro ha.dg hb.dg)
  obtain ⟨ZQ, ZR, ER, hz, hd⟩ := idivs b1 b2 aa ab ca cb xs ys (by omega) (by omega)
  have HZ := hid hz
  have HD := hid hd
  have hEE : (ER == ER) = true := by simp
  clear hz hd hv1 hv2
  have hB := B2_below w b1 b2 aa ab xs.length ys.length ca cb
  have HC := hid (fun w' => B2_cells (w' := w') (w := w) (b1 := b1) (b2 := b2) (aa := aa) (ab := ab) (n1 := xs.length) (n2 := ys.length) (ca := ca) (cb := cb))
  have HB := hid hB
  have HR := hid (And.intro (ha.below hB) (hb.below hB))
  unfold B2 at HC HB HR
  clear ha hb hB
  go_enter Tryd.func6, Tryd.ntmps6
  go_wp2_with fail
  obtain ⟨w0, hw0⟩ : ∃ x, x = ((w.alloc (.cells #[.bool b1, .slice aa xs.length ca] 43)).alloc (.cells #[.bool b2, .slice ab ys.length cb] 43)) := ⟨_, rfl⟩
  rw [← hw0] at HC HB HR ⊢
  clear hw0
  have k0 := Below.refl w0.heap.size w0
  obtain ⟨s0, s1, s2, s3⟩ := HC.out w0 k0
  have c1 := small2_any b1 aa xs.length ca true w0 (by omega) (by simp; omega)
  refine c1.mono ?_
  rintro e w1 ⟨rfl, f1⟩
  clear s0 s1 s2 s3 c1
  have k1 := k0.trans (f1.mono k0.size)
  obtain ⟨s0, s1, s2, s3⟩ := HC.out w1 k1
  clear f1 k0
  have c2 := small2_any b2 ab ys.length cb true w1 (by omega) (by simp; omega)
  go_wp2_with fail
  refine c2.mono ?_
  rintro e w2 ⟨rfl, f2⟩
  clear s0 s1 s2 s3 c2
  have k2 := k1.trans (f2.mono k1.size)
  obtain ⟨s0, s1, s2, s3⟩ := HC.out w2 k2
  clear f2 k1
  have c3 := (HD.out w2 (HR.out.1.below k2) (HR.out.2.below k2)).1
  go_wp2_with fail
  refine c3.mono ?_
  rintro e w3 ⟨aq, cq, ar, cr, rfl, oq, or3, f3⟩
  have hq4 := B2_heap w3 (decide (ZQ < 0)) (decide (ZR < 0)) aq ar (nd ZQ.natAbs).length (nd ZR.natAbs).length cq cr
  have g4 := B2_below w3 (decide (ZQ < 0)) (decide (ZR < 0)) aq ar (nd ZQ.natAbs).length (nd ZR.natAbs).length cq cr
  unfold B2 at hq4 g4
  clear s0 s1 s2 s3 c3
  go_upto_region 4 with fail
  obtain ⟨w4, hw4⟩ : ∃ x, x = ((w3.alloc (.cells #[.bool (decide (ZQ < 0)), .slice aq (nd ZQ.natAbs).length cq] 43)).alloc (.cells #[.bool (decide (ZR < 0)), .slice ar (nd ZR.natAbs).length cr] 43)) := ⟨_, rfl⟩
  rw [← hw4] at hq4 g4 ⊢
  clear hw4
  have k4 := k2.trans ((f3.trans (g4.mono f3.size)).mono k2.size)
  have hlt34 : w3.heap.size < w4.heap.size := (Array.getElem?_eq_some_iff.1 hq4.1).1
  have HQ := hid (fun w' (h : Below w4.heap.size w4 w') => And.intro (pair_cells hq4.1 h) (pair_cells hq4.2 h))
  have oq4 := oq.below g4
  have or4 := or3.below g4
  obtain ⟨s0, s1, s2, s3⟩ := HC.out w4 k4
  have HK4 := hid k4
  have c4 := (HD.out w4 (HR.out.1.below k4) (HR.out.2.below k4)).2
  have HO4 := hid (And.intro oq4 or4)
  clear hq4 g4 oq or3 f3 k2 k4 oq4 or4
  go_wp2_with fail
  refine c4.mono ?_
  rintro e w5 ⟨ax, cx, ay, cy, rfl, ox, oy, f5⟩
  have hq6 := B2_heap w5 (decide (ZQ < 0)) (decide (ZR < 0)) ax ay (nd ZQ.natAbs).length (nd ZR.natAbs).length cx cy
  have g6 := B2_below w5 (decide (ZQ < 0)) (decide (ZR < 0)) ax ay (nd ZQ.natAbs).length (nd ZR.natAbs).length cx cy
  unfold B2 at hq6 g6
  clear s0 s1 s2 s3 c4
  go_upto_region 5 with fail
  obtain ⟨w6, hw6⟩ : ∃ x, x = ((w5.alloc (.cells #[.bool (decide (ZQ < 0)), .slice ax (nd ZQ.natAbs).length cx] 43)).alloc (.cells #[.bool (decide (ZR < 0)), .slice ay (nd ZR.natAbs).length cy] 43)) := ⟨_, rfl⟩
  rw [← hw6] at hq6 g6 ⊢
  clear hw6
  have j6 := f5.trans (g6.mono f5.size)
  have HX := hid (fun w' (h : Below w6.heap.size w6 w') => And.intro (pair_cells hq6.1 h) (pair_cells hq6.2 h))
  have HO6 := hid (And.intro (ox.below g6) (oy.below g6))
  have hn1 : ¬ (w5.heap.size = w3.heap.size) := by
    have h1 := f5.size
    have h2 := HO4.out.1
    have h3 := (Array.getElem?_eq_some_iff.1 hq6.1).1
    have h4 : w3.heap.size < w4.heap.size := hlt34
    omega
  obtain ⟨⟨q0, q1, _, _⟩, ⟨q2, q3, _, _⟩⟩ := HQ.out w6 j6
  obtain ⟨⟨x0, x1, _, _⟩, ⟨x2, x3, _, _⟩⟩ := HX.out w6 (Below.refl _ _)
  have c5 := same2_any (decide (ZQ < 0)) (decide (ZQ < 0)) aq ax cq cx (nd ZQ.natAbs) (nd ZQ.natAbs) true w6 (HO4.out.1.below j6).rd HO6.out.1.rd (by simp)
  have HJ6 := hid j6
  clear hq6 g6 ox oy f5 j6 hn1
  go_wp2_with fail
  refine c5.mono ?_
  rintro e w7 ⟨rfl, f7⟩
  have j7 := HJ6.out.trans (f7.mono HJ6.out.size)
  clear q0 q1 q2 q3 x0 x1 x2 x3 c5
  obtain ⟨⟨q0, q1, _, _⟩, ⟨q2, q3, _, _⟩⟩ := HQ.out w7 j7
  obtain ⟨⟨x0, x1, _, _⟩, ⟨x2, x3, _, _⟩⟩ := HX.out w7 f7
  have c6 := same2_any (decide (ZR < 0)) (decide (ZR < 0)) ar ay cr cy (nd ZR.natAbs) (nd ZR.natAbs) true w7 (HO4.out.2.below j7).rd (HO6.out.2.below f7).rd (by simp)
  go_wp2_with fail
  refine c6.mono ?_
  rintro e w8 ⟨rfl, f8⟩
  have j8 := j7.trans (f8.mono j7.size)
  have k8 := HK4.out.trans (j8.mono HK4.out.size)
  clear q0 q1 q2 q3 x0 x1 x2 x3 c6 f7 f8 j7 HJ6 HO6 HX hEE HD
  rcases HZ.out with ⟨hy0, rfl, rfl, rfl⟩ | ⟨hy0, rfl, hzq, hzr⟩
  · have HS := hid (show sgn (iv b2 (val ys)) = 0 by rw [hy0]; cases b2 <;> rfl)
    clear hy0 j8
    obtain ⟨s0, s1, s2, s3⟩ := HC.out w8 k8
    go_wp2_with fail
    refine (awake2_any w8).mono ?_
    rintro e w9 ⟨rfl, f9⟩
    have k9 := k8.trans (f9.mono k8.size)
    have c7 := Sign_any b2 ab cb ys w9 (HR.out.2.below k9) (by omega)
    rw [HS.out] at c7
    clear s0 s1 s2 s3
    obtain ⟨s0, s1, s2, s3⟩ := HC.out w9 k9
    go_wp2_with fail
    refine c7.mono ?_
    rintro e w10 ⟨rfl, f10⟩
    have HF := hid (HB.out.trans ((k9.trans (f10.mono k9.size)).mono HB.out.size))
    clear k8 f9 k9 c7 f10 s0 s1 s2 s3
    go_wp2
    go_ret
    exact ⟨rfl, HF.out⟩
  · have hyv : (iv b2 (val ys)).natAbs = val ys := iv_abs _ _
    obtain ⟨e1, e2, e3⟩ := emod_facts (A := iv b1 (val xs)) hyv hy0
    rw [← hzq, ← hzr] at e3
    rw [← hzr] at e1 e2
    obtain ⟨A, hA⟩ : ∃ A, A = iv b1 (val xs) := ⟨_, rfl⟩
    obtain ⟨B, hBv⟩ : ∃ B, B = iv b2 (val ys) := ⟨_, rfl⟩
    have lA : (nd A.natAbs).length ≤ 10 := by rw [hA, iv_abs]; exact Nat.le_trans (nd_length_le_of HV.out.1) hx0
    have lB : (nd B.natAbs).length ≤ 10 := by rw [hBv, iv_abs]; exact Nat.le_trans (nd_length_le_of HV.out.2) hx1
    rw [← hA, ← hBv] at e3
    rw [← hBv] at hyv
    have lR : (nd ZR.natAbs).length ≤ 10 := Nat.le_trans (nd_length_mono (by omega : ZR.natAbs ≤ B.natAbs)) lB
    have lM : (nd (ZQ * B).natAbs).length ≤ 21 := by
      have h1 : (ZQ * B).natAbs ≤ A.natAbs + ZR.natAbs := by omega
      have h2 := len_add lA lR
      exact Nat.le_trans (nd_length_mono h1) h2
    have lQ : (nd ZQ.natAbs).length ≤ 21 := by
      refine Nat.le_trans (nd_length_mono ?_) lM
      rw [Int.natAbs_mul]
      exact Nat.le_mul_of_pos_right _ (by rw [hyv]; exact Nat.pos_of_ne_zero hy0)
    replace lA := Nat.le_trans lA (show 10 ≤ 4398046511104 by omega)
    replace lB := Nat.le_trans lB (show 10 ≤ 4398046511104 by omega)
    replace lR := Nat.le_trans lR (show 10 ≤ 4398046511104 by omega)
    replace lM := Nat.le_trans lM (show 21 ≤ 4398046511104 by omega)
    replace lQ := Nat.le_trans lQ (show 21 ≤ 4398046511104 by omega)
    have lx : xs.length ≤ 4398046511104 := by omega
    have ly : ys.length ≤ 4398046511104 := by omega
    have lA' : (nd A.natAbs).length ≤ 17592186044416 := by omega
    have lR' : (nd ZR.natAbs).length ≤ 17592186044416 := by omega
    have lx' : xs.length ≤ 17592186044416 := by omega
    obtain ⟨ZB, hZB⟩ : ∃ z, z = iv false (val ys) := ⟨_, rfl⟩
    have hZBv : ZB = (val ys : Int) := by rw [hZB]; rfl
    have lZ' : (nd ZB.natAbs).length ≤ 17592186044416 := by rw [show ZB.natAbs = B.natAbs by omega]; omega
    obtain ⟨ZM, hZM⟩ : ∃ z, z = ZQ * B := ⟨_, rfl⟩
    rw [← hZM] at lM e3
    have N1 := hid (show iv (decide (ZQ < 0)) (val (nd ZQ.natAbs)) * iv b2 (val ys) = ZM by rw [iv_canonZ, ← hBv, hZM])
    have N2 := hid (show iv (decide (ZM < 0)) (val (nd ZM.natAbs)) + iv (decide (ZR < 0)) (val (nd ZR.natAbs)) = A by rw [iv_canonZ, iv_canonZ]; exact e3)
    have N3 := hid (show cmpI (iv (decide (A < 0)) (val (nd A.natAbs))) (iv b1 (val xs)) = 0 by rw [iv_canonZ, ← hA]; unfold cmpI; rw [if_neg (by omega), if_neg (by omega)])
    have N4 := hid (show cmpI (iv (decide (ZR < 0)) (val (nd ZR.natAbs))) (iv (decide (ZB < 0)) (val (nd ZB.natAbs))) = -1 by rw [iv_canonZ, iv_canonZ]; unfold cmpI; rw [if_pos (by omega)])
    obtain ⟨sg, hsg⟩ : ∃ sg, sg = sgn ZR := ⟨_, rfl⟩
    have hsg0 : 0 ≤ sg := by rw [hsg]; unfold sgn; rw [if_neg (by omega)]; split <;> omega
    have HSG := hid (fun (W : World) (h : Rd W ar cr (nd ZR.natAbs)) => (by
      have h1 := Sign_any (decide (ZR < 0)) ar cr (nd ZR.natAbs) W h lR'
      rw [iv_canonZ, ← hsg] at h1
      exact h1 : Calls Tryd.prog 36 #[.agg #[.bool (decide (ZR < 0)), .slice ar (nd ZR.natAbs).length cr]] W (RetB (.int .i64 sg) W)))
    have HAB := hid (fun (W : World) (h : Rd W ab cb ys) => (by
      have h1 := iabs_any b2 ab cb ys W h (by omega)
      rw [← hZB] at h1
      exact h1 : Calls Tryd.prog 38 #[.agg #[.bool b2, .slice ab ys.length cb]] W (RetInt W.heap.size ZB W)))
    have p0 : Below w8.heap.size w8 w8.drew := below_drewI _ w8
    have HS8 := hid (fun w' (h : Below w8.heap.size w8 w') => And.intro (HC.out w' (k8.trans (h.mono k8.size))) (HQ.out w' (j8.trans (h.mono j8.size))))
    have HRR := hid (fun w' (h : Below w8.heap.size w8 w') => And.intro (HR.out.1.below (k8.trans (h.mono k8.size))) (And.intro (HR.out.2.below (k8.trans (h.mono k8.size))) (And.intro (HO4.out.1.below (j8.trans (h.mono j8.size))).rd (HO4.out.2.below (j8.trans (h.mono j8.size))).rd)))
    have HBF := hid (fun w' (h : Below w8.heap.size w8 w') => HB.out.trans ((k8.trans (h.mono k8.size)).mono HB.out.size))
    obtain ⟨⟨s0, s1, s2, s3⟩, ⟨q0, q1, _, _⟩, ⟨q2, q3, _, _⟩⟩ := HS8.out w8 (Below.refl _ _)
    clear hy0 hzq hzr hyv e1 e2 e3 hA hBv hZB hZBv hZM hsg HB HC HR HQ HO4 HK4 k8 j8 HZ HV
    go_wp2_with fail
    go_region_held3 (fun w' => w'.cell? ⟨w.heap.size, 0, none⟩ = some (.bool b1) ∧ w'.cell? ⟨w.heap.size, 1, none⟩ = some (.slice aa xs.length ca) ∧ w'.cell? ⟨w.heap.size + 1, 0, none⟩ = some (.bool b2) ∧ w'.cell? ⟨w.heap.size + 1, 1, none⟩ = some (.slice ab ys.length cb) ∧ w'.cell? ⟨w3.heap.size, 0, none⟩ = some (.bool (decide (ZQ < 0))) ∧ w'.cell? ⟨w3.heap.size, 1, none⟩ = some (.slice aq (nd ZQ.natAbs).length cq) ∧ w'.cell? ⟨w3.heap.size + 1, 0, none⟩ = some (.bool (decide (ZR < 0))) ∧ w'.cell? ⟨w3.heap.size + 1, 1, none⟩ = some (.slice ar (nd ZR.natAbs).length cr)) (go_keep) (first
      | (go_at_call 37; (with_reducible refine (icmp_zz (decide (A < 0)) b1 a6 aa d6 ca (nd A.natAbs) xs y6 o6.rd (HRR.out y6 p6).1 lA' lx' N3.out).mono ?_); rintro e y7 ⟨rfl, g7⟩; have p7 := p6.trans (g7.mono p6.size); obtain ⟨⟨z70, z71, z72, z73⟩, ⟨z74, z75, _, _⟩, ⟨z76, z77, _, _⟩⟩ := HS8.out y7 p7; clear z60 z61 z62 z63 z64 z65 z66 z67)
      | (go_at_call 39; (with_reducible refine (iadd_zz (decide (ZM < 0)) (decide (ZR < 0)) a5 ar d5 cr (nd ZM.natAbs) (nd ZR.natAbs) y5 o5.rd (HRR.out y5 p5).2.2.2 lM lR N2.out).mono ?_); rintro e y6 ⟨a6, d6, rfl, o6, g6⟩; have p6 := p5.trans (g6.mono p5.size); obtain ⟨⟨z60, z61, z62, z63⟩, ⟨z64, z65, _, _⟩, ⟨z66, z67, _, _⟩⟩ := HS8.out y6 p6; clear z50 z51 z52 z53 z54 z55 z56 z57)
      | (go_at_call 40; (with_reducible refine (imul_zz (decide (ZQ < 0)) b2 aq ab cq cb (nd ZQ.natAbs) ys y4 (HRR.out y4 p4).2.2.1 (HRR.out y4 p4).2.1 lQ ly N1.out).mono ?_); rintro e y5 ⟨a5, d5, rfl, o5, g5⟩; have p5 := p4.trans (g5.mono p4.size); obtain ⟨⟨z50, z51, z52, z53⟩, ⟨z54, z55, _, _⟩, ⟨z56, z57, _, _⟩⟩ := HS8.out y5 p5; clear z40 z41 z42 z43 z44 z45 z46 z47)
      | (go_at_call 37; (with_reducible refine (icmp_zz (decide (ZR < 0)) (decide (ZB < 0)) ar a3 cr d3 (nd ZR.natAbs) (nd ZB.natAbs) y3 (HRR.out y3 p3).2.2.2 o3.rd lR' lZ' N4.out).mono ?_); rintro e y4 ⟨rfl, g4⟩; have p4 := p3.trans (g4.mono p3.size); obtain ⟨⟨z40, z41, z42, z43⟩, ⟨z44, z45, _, _⟩, ⟨z46, z47, _, _⟩⟩ := HS8.out y4 p4; clear z30 z31 z32 z33 z34 z35 z36 z37)
      | (go_at_call 38; (with_reducible refine (HAB.out y2 (HRR.out y2 p2).2.1).mono ?_); rintro e y3 ⟨a3, d3, rfl, o3, g3⟩; have p3 := p2.trans (g3.mono p2.size); obtain ⟨⟨z30, z31, z32, z33⟩, ⟨z34, z35, _, _⟩, ⟨z36, z37, _, _⟩⟩ := HS8.out y3 p3; clear z20 z21 z22 z23 z24 z25 z26 z27)
      | (go_at_call 36; (with_reducible refine (HSG.out y1 (HRR.out y1 p1).2.2.2).mono ?_); rintro e y2 ⟨rfl, g2⟩; have p2 := p1.trans (g2.mono p1.size); obtain ⟨⟨z20, z21, z22, z23⟩, ⟨z24, z25, _, _⟩, ⟨z26, z27, _, _⟩⟩ := HS8.out y2 p2; clear z10 z11 z12 z13 z14 z15 z16 z17)
      | (go_at_call 32; (with_reducible refine (awake2_any w8.drew).mono ?_); rintro e y1 ⟨rfl, g1⟩; have p1 := p0.trans (g1.mono p0.size); obtain ⟨⟨z10, z11, z12, z13⟩, ⟨z14, z15, _, _⟩, ⟨z16, z17, _, _⟩⟩ := HS8.out y1 p1; clear s0 s1 s2 s3 q0 q1 q2 q3))
    all_goals
      go_wp2
      go_ret
      exact ⟨rfl, HBF.out y7 p7⟩
end Go.Proofs.YtbcaigpdckencaaDoor
