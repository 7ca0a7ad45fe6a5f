/- The walk of IntegerActs. -/
import Derived.Test.YtbcaigpdckencaaGreatDoorQIa2
import Derived.Test.YtbcaigpdckencaaGreatDoorQIa3
import Derived.Test.YtbcaigpdckencaaGreatDoorQIva
import Derived.Deep.RegionHeld3

namespace Go.Proofs.YtbcaigpdckencaaGreatDoor
open Go.RowKit Num

set_option maxRecDepth 100000 in
set_option maxHeartbeats 1600000 in
theorem isub_any (b1 b2 : Bool) (aa ab : Option Addr) (ca cb : Nat) (xs ys : List Nat) (w : World) (ha : Rd w aa ca xs) (hb : Rd w ab cb ys) (hl1 : xs.length ≤ 4398046511104) (hl2 : ys.length ≤ 4398046511104) :
    Calls Tryz.prog 27 #[.agg #[.bool b1, .slice aa xs.length ca], .agg #[.bool b2, .slice ab ys.length cb]] w (RetInt w.heap.size (iv b1 (val xs) - iv b2 (val ys)) w) := by
  have hle1 := ha.le
  have hcm1 := ha.cm
  have hle2 := hb.le
  have hcm2 := hb.cm
  have hB := V3_below w b1 (!b2) aa ab xs.length ys.length ca cb
  have hM := iadd_any b1 (!b2) aa ab ca cb xs ys _ (ha.below hB) (hb.below hB) hl1 hl2
  have hV : iv b1 (val xs) + iv (!b2) (val ys) = iv b1 (val xs) - iv b2 (val ys) := by cases b2 <;> simp [iv] <;> omega
  rw [hV] at hM
  have HM := hid hM
  have HC := hid (fun w' => V3_cells (w' := w') (w := w) (b1 := b1) (b2 := !b2) (aa := aa) (ab := ab) (n1 := xs.length) (n2 := ys.length) (ca := ca) (cb := cb))
  have HB := hid hB
  have HSZ := hid (V3_size w b1 (!b2) aa ab xs.length ys.length ca cb)
  unfold V3 at HM HC HB HSZ
  obtain ⟨D, hD⟩ : ∃ D, D = iv b1 (val xs) - iv b2 (val ys) := ⟨_, rfl⟩
  rw [← hD] at HM ⊢
  clear ha hb hB hM hV hD
  go_enter Tryz.func27, Tryz.ntmps27
  go_wp2_with fail
  refine HM.out.mono ?_
  rintro e w3 ⟨a3, c3, rfl, o3, f3⟩
  obtain ⟨_, _, k0, k1, k2, k3⟩ := HC.out w3 f3
  have H3 := hid (And.intro o3 (HB.out.trans (f3.mono HB.out.size)))
  clear o3 f3
  go_wp2
  have hsz := HSZ.out
  refine bodyPost_ret (v := .agg #[.bool (decide (D < 0)), .slice a3 (nd D.natAbs).length c3]) (by simp [results, Tryz.results27, go_sem, k0, k1]) rfl ?_
  exact RetInt.fin H3.out.1 (by omega) H3.out.2 (by omega) _ _

theorem iacts (b1 b2 : Bool) (aa ab : Option Addr) (ca cb : Nat) (xs ys : List Nat) (hl1 : xs.length ≤ 4398046511104) (hl2 : ys.length ≤ 4398046511104) :
    ∃ Z0 Z1 Z2 Z3 Z4 Z5 Z6 : Int, ∀ w, Rd w aa ca xs → Rd w ab cb ys → Tb w →
      (Calls Tryz.prog 19 #[.agg #[.bool b1, .slice aa xs.length ca]] w (RetInt w.heap.size Z0 w) ∧ Calls Tryz.prog 20 #[.agg #[.bool b1, .slice aa xs.length ca]] w (RetInt w.heap.size Z0 w)) ∧
      (Calls Tryz.prog 21 #[.agg #[.bool b1, .slice aa xs.length ca]] w (RetInt w.heap.size Z1 w) ∧ Calls Tryz.prog 22 #[.agg #[.bool b1, .slice aa xs.length ca]] w (RetInt w.heap.size Z1 w)) ∧
      (Calls Tryz.prog 23 #[.agg #[.bool b1, .slice aa xs.length ca]] w (RetInt w.heap.size Z2 w) ∧ Calls Tryz.prog 24 #[.agg #[.bool b1, .slice aa xs.length ca]] w (RetInt w.heap.size Z2 w)) ∧
      (Calls Tryz.prog 25 #[.agg #[.bool b1, .slice aa xs.length ca], .agg #[.bool b2, .slice ab ys.length cb]] w (RetInt w.heap.size Z3 w) ∧ Calls Tryz.prog 26 #[.agg #[.bool b1, .slice aa xs.length ca], .agg #[.bool b2, .slice ab ys.length cb]] w (RetInt w.heap.size Z3 w)) ∧
      (Calls Tryz.prog 27 #[.agg #[.bool b1, .slice aa xs.length ca], .agg #[.bool b2, .slice ab ys.length cb]] w (RetInt w.heap.size Z4 w) ∧ Calls Tryz.prog 28 #[.agg #[.bool b1, .slice aa xs.length ca], .agg #[.bool b2, .slice ab ys.length cb]] w (RetInt w.heap.size Z4 w)) ∧
      (Calls Tryz.prog 29 #[.agg #[.bool b1, .slice aa xs.length ca], .agg #[.bool b2, .slice ab ys.length cb]] w (RetInt w.heap.size Z5 w) ∧ Calls Tryz.prog 30 #[.agg #[.bool b1, .slice aa xs.length ca], .agg #[.bool b2, .slice ab ys.length cb]] w (RetInt w.heap.size Z5 w)) ∧
      (Calls Tryz.prog 31 #[.agg #[.bool b1, .slice aa xs.length ca], .agg #[.bool b2, .slice ab ys.length cb]] w (RetInt w.heap.size Z6 w) ∧ Calls Tryz.prog 32 #[.agg #[.bool b1, .slice aa xs.length ca], .agg #[.bool b2, .slice ab ys.length cb]] w (RetInt w.heap.size Z6 w)) := by
  exact ⟨_, _, _, _, _, _, _, fun w ha hb hT => ⟨⟨itrim_any b1 aa ca xs w ha (by omega), rtrim2_any b1 aa ca xs w ha (by omega)⟩, ⟨neg_any b1 aa ca xs w ha (by omega), rneg2_any b1 aa ca xs w ha (by omega)⟩, ⟨iabs_any b1 aa ca xs w ha (by omega), rabs2_any b1 aa ca xs w ha (by omega)⟩, ⟨iadd_any b1 b2 aa ab ca cb xs ys w ha hb hl1 hl2, radd2_any b1 b2 aa ab ca cb xs ys w ha hb hl1 hl2⟩, ⟨isub_any b1 b2 aa ab ca cb xs ys w ha hb hl1 hl2, rsub2_any b1 b2 aa ab ca cb xs ys w ha hb hl1 hl2⟩, ⟨imul_any b1 b2 aa ab ca cb xs ys w ha hb hl1 hl2, rmul2_any b1 b2 aa ab ca cb xs ys w ha hb hl1 hl2⟩, ⟨igcd_any b1 b2 aa ab ca cb xs ys w ha hb hl1 hl2 hT, rgcd2_any b1 b2 aa ab ca cb xs ys w ha hb hl1 hl2⟩⟩⟩
theorem iacts0 (b1 b2 : Bool) (aa ab : Option Addr) (ca cb : Nat) (xs ys : List Nat) (hl1 : xs.length ≤ 10) (hl2 : ys.length ≤ 10) :
    ∃ (n : Int) (q v : Bool) (r c : Int), ∀ w, Rd w aa ca xs → Rd w ab cb ys →
      (Calls Tryz.prog 10 #[.agg #[.bool b1, .slice aa xs.length ca]] w (fun e w' => e = .returned (.tuple #[.int .i64 n, .bool q]) ∧ Below w.heap.size w w') ∧ Calls Tryz.prog 11 #[.agg #[.bool b1, .slice aa xs.length ca]] w (fun e w' => e = .returned (.tuple #[.int .i64 n, .bool q]) ∧ Below w.heap.size w w')) ∧
      (Calls Tryz.prog 12 #[.agg #[.bool b1, .slice aa xs.length ca]] w (RetB (.bool v) w) ∧ Calls Tryz.prog 13 #[.agg #[.bool b1, .slice aa xs.length ca]] w (RetB (.bool v) w)) ∧
      (Calls Tryz.prog 14 #[.agg #[.bool b1, .slice aa xs.length ca]] w (RetB (.int .i64 r) w) ∧ Calls Tryz.prog 15 #[.agg #[.bool b1, .slice aa xs.length ca]] w (RetB (.int .i64 r) w)) ∧
      (Calls Tryz.prog 16 #[.agg #[.bool b1, .slice aa xs.length ca], .agg #[.bool b2, .slice ab ys.length cb]] w (RetB (.int .i64 c) w) ∧ Calls Tryz.prog 17 #[.agg #[.bool b1, .slice aa xs.length ca], .agg #[.bool b2, .slice ab ys.length cb]] w (RetB (.int .i64 c) w)) := by
  obtain ⟨v, hv⟩ : ∃ v : Bool, v = true ↔ nrm xs ∧ ¬ (b1 = true ∧ xs = []) := by
    by_cases h : nrm xs ∧ ¬ (b1 = true ∧ xs = [])
    · exact ⟨true, by simp [h]⟩
    · exact ⟨false, by simp only [Bool.false_eq_true, false_iff]; exact h⟩
  exact ⟨_, _, v, _, _, fun w ha hb => ⟨⟨ismall_any b1 aa ca xs w ha hl1, rsmall2_any b1 aa ca xs w ha (by omega)⟩, ⟨ivalid_any b1 aa ca xs v w ha hv, rvalid2_any b1 aa ca xs w ha v hv⟩, ⟨Sign_any b1 aa ca xs w ha (by omega), rsign_any b1 aa ca xs w ha (by omega)⟩, ⟨icompare_any b1 b2 aa ab ca cb xs ys w ha hb (by omega) (by omega), rcompare2_any b1 b2 aa ab ca cb xs ys w ha hb (by omega) (by omega)⟩⟩⟩

set_option maxRecDepth 100000 in
set_option maxHeartbeats 12800000 in
theorem walkIntegerActs (b1 b2 : Bool) (aa : Option Addr) (ca : Nat) (xs : List Nat) (ab : Option Addr) (cb : Nat) (ys : List Nat) (w : World) (ha : Rd w aa ca xs) (hb : Rd w ab cb ys) (hT : Tb w) :
    Calls Tryz.prog 3 #[.agg #[.bool b1, .slice aa xs.length ca], .agg #[.bool b2, .slice ab ys.length cb]] w (RetB (.bool true) w) := by
  have hla := ha.le
  have hla2 := ha.cm
  have hlb := hb.le
  have hlb2 := hb.cm
  by_cases hx0 : xs.length ≤ 10
  case neg =>
    have hB := B2_below w b1 b2 aa ab xs.length ys.length ca cb
    have HC := hid (fun w' => B2_cells (w' := w') (w := w) (b1 := b1) (b2 := b2) (aa := aa) (ab := ab) (n1 := xs.length) (n2 := ys.length) (ca := ca) (cb := cb))
    have HB := hid hB
    have HT := hid (hT.below hB)
    have HR := hid (And.intro (ha.below hB) (hb.below hB))
    unfold B2 at HC HB HR HT
    clear ha hb hB hT
    go_enter Tryz.func3, Tryz.ntmps3
    go_wp2_with fail
    obtain ⟨w0, hw0⟩ : ∃ x, x = ((w.alloc (.cells #[.bool b1, .slice aa xs.length ca] 24)).alloc (.cells #[.bool b2, .slice ab ys.length cb] 24)) := ⟨_, rfl⟩
    rw [← hw0] at HC HB HR HT ⊢
    clear hw0
    have k0 := Below.refl w0.heap.size w0
    obtain ⟨s0, s1, s2, s3⟩ := HC.out w0 k0
    have c1 := small2_any b1 aa xs.length ca false w0 (by omega) (by simp; omega)
    refine c1.mono ?_
    rintro e w1 ⟨rfl, f1⟩
    clear s0 s1 s2 s3 c1
    have k1 := k0.trans (f1.mono k0.size)
    obtain ⟨s0, s1, s2, s3⟩ := HC.out w1 k1
    clear f1 k0
    have hk := awake2_any w1
    go_wp2_with fail
    refine hk.mono ?_
    rintro e wz ⟨rfl, fz⟩
    have kz := HB.out.trans ((k1.trans (fz.mono k1.size)).mono HB.out.size)
    clear hk fz k1 s0 s1 s2 s3
    go_wp2
    go_ret
    exact ⟨rfl, kz⟩
  by_cases hx1 : ys.length ≤ 10
  case neg =>
    have hB := B2_below w b1 b2 aa ab xs.length ys.length ca cb
    have HC := hid (fun w' => B2_cells (w' := w') (w := w) (b1 := b1) (b2 := b2) (aa := aa) (ab := ab) (n1 := xs.length) (n2 := ys.length) (ca := ca) (cb := cb))
    have HB := hid hB
    have HT := hid (hT.below hB)
    have HR := hid (And.intro (ha.below hB) (hb.below hB))
    unfold B2 at HC HB HR HT
    clear ha hb hB hT
    go_enter Tryz.func3, Tryz.ntmps3
    go_wp2_with fail
    obtain ⟨w0, hw0⟩ : ∃ x, x = ((w.alloc (.cells #[.bool b1, .slice aa xs.length ca] 24)).alloc (.cells #[.bool b2, .slice ab ys.length cb] 24)) := ⟨_, rfl⟩
    rw [← hw0] at HC HB HR HT ⊢
    clear hw0
    have k0 := Below.refl w0.heap.size w0
    obtain ⟨s0, s1, s2, s3⟩ := HC.out w0 k0
    have c1 := small2_any b1 aa xs.length ca true w0 (by omega) (by simp; omega)
    refine c1.mono ?_
    rintro e w1 ⟨rfl, f1⟩
    clear s0 s1 s2 s3 c1
    have k1 := k0.trans (f1.mono k0.size)
    obtain ⟨s0, s1, s2, s3⟩ := HC.out w1 k1
    clear f1 k0
    have c2 := small2_any b2 ab ys.length cb false w1 (by omega) (by simp; omega)
    go_wp2_with fail
    refine c2.mono ?_
    rintro e w2 ⟨rfl, f2⟩
    clear s0 s1 s2 s3 c2
    have k2 := k1.trans (f2.mono k1.size)
    obtain ⟨s0, s1, s2, s3⟩ := HC.out w2 k2
    clear f2 k1
    have hk := awake2_any w2
    go_wp2_with fail
    refine hk.mono ?_
    rintro e wz ⟨rfl, fz⟩
    have kz := HB.out.trans ((k2.trans (fz.mono k2.size)).mono HB.out.size)
    clear hk fz k2 s0 s1 s2 s3
    go_wp2
    go_ret
    exact ⟨rfl, kz⟩
  obtain ⟨Z0, Z1, Z2, Z3, Z4, Z5, Z6, hac⟩ := iacts b1 b2 aa ab ca cb xs ys (by omega) (by omega)
  obtain ⟨n, q, v, r, c, hac0⟩ := iacts0 b1 b2 aa ab ca cb xs ys hx0 hx1
  have HAC := hid hac
  have HA0 := hid hac0
  have h1n : (n == n) = true := by simp
  have h1q : (q == q) = true := by simp
  have h1v : (v == v) = true := by simp
  have h1r : (r == r) = true := by simp
  have h1c : (c == c) = true := by simp
  clear hac hac0
  have hB := B2_below w b1 b2 aa ab xs.length ys.length ca cb
  have HC := hid (fun w' => B2_cells (w' := w') (w := w) (b1 := b1) (b2 := b2) (aa := aa) (ab := ab) (n1 := xs.length) (n2 := ys.length) (ca := ca) (cb := cb))
  have HB := hid hB
  have HT := hid (hT.below hB)
  have HR := hid (And.intro (ha.below hB) (hb.below hB))
  unfold B2 at HC HB HR HT
  clear ha hb hB hT
  go_enter Tryz.func3, Tryz.ntmps3
  go_wp2_with fail
  obtain ⟨w0, hw0⟩ : ∃ x, x = ((w.alloc (.cells #[.bool b1, .slice aa xs.length ca] 24)).alloc (.cells #[.bool b2, .slice ab ys.length cb] 24)) := ⟨_, rfl⟩
  rw [← hw0] at HC HB HR HT ⊢
  clear hw0
  have k0 := Below.refl w0.heap.size w0
  obtain ⟨s0, s1, s2, s3⟩ := HC.out w0 k0
  have c1 := small2_any b1 aa xs.length ca true w0 (by omega) (by simp; omega)
  refine c1.mono ?_
  rintro e w1 ⟨rfl, f1⟩
  clear s0 s1 s2 s3 c1
  have k1 := k0.trans (f1.mono k0.size)
  obtain ⟨s0, s1, s2, s3⟩ := HC.out w1 k1
  clear f1 k0
  have c2 := small2_any b2 ab ys.length cb true w1 (by omega) (by simp; omega)
  go_wp2_with fail
  refine c2.mono ?_
  rintro e w2 ⟨rfl, f2⟩
  clear s0 s1 s2 s3 c2
  have k2 := k1.trans (f2.mono k1.size)
  obtain ⟨s0, s1, s2, s3⟩ := HC.out w2 k2
  clear f2 k1
  have c3 := (HA0.out w2 (HR.out.1.below k2) (HR.out.2.below k2)).1.1
  go_wp2_with fail
  refine c3.mono ?_
  rintro e w3 ⟨rfl, f3⟩
  clear s0 s1 s2 s3 c3
  have k3 := k2.trans (f3.mono k2.size)
  obtain ⟨s0, s1, s2, s3⟩ := HC.out w3 k3
  have c4 := (HA0.out w3 (HR.out.1.below k3) (HR.out.2.below k3)).1.2
  clear f3 k2
  go_wp2_with fail
  refine c4.mono ?_
  rintro e w4 ⟨rfl, f4⟩
  clear s0 s1 s2 s3 c4
  have k4 := k3.trans (f4.mono k3.size)
  have HK4 := hid k4
  clear f4 k3 k4
  go_upto_region 5 with fail
  go_cut [58] from 28 to 58 (fun bv wx => bv = .bool false ∧ Hid (Below w0.heap.size w0 wx))
  case first =>
    obtain ⟨z00, z01, z02, z03⟩ := HC.out w4 HK4.out
    have p0 := HK4.out.trans (below_drewI w0.heap.size w4)
    go_region_held3 (fun w' => w'.cell? ⟨w.heap.size, 0, none⟩ = some (.bool b1) ∧ w'.cell? ⟨w.heap.size, 1, none⟩ = some (.slice aa xs.length ca) ∧ w'.cell? ⟨w.heap.size + 1, 0, none⟩ = some (.bool b2) ∧ w'.cell? ⟨w.heap.size + 1, 1, none⟩ = some (.slice ab ys.length cb)) (go_keep) (first
      | (go_at_call 17; (with_reducible refine ((HA0.out y5 (HR.out.1.below p5) (HR.out.2.below p5)).2.2.2.2).mono ?_); rintro e y6 ⟨rfl, g6⟩; have p6 := p5.trans (g6.mono p5.size); obtain ⟨z60, z61, z62, z63⟩ := HC.out y6 p6; clear z50 z51 z52 z53)
      | (go_at_call 16; (with_reducible refine ((HA0.out y4 (HR.out.1.below p4) (HR.out.2.below p4)).2.2.2.1).mono ?_); rintro e y5 ⟨rfl, g5⟩; have p5 := p4.trans (g5.mono p4.size); obtain ⟨z50, z51, z52, z53⟩ := HC.out y5 p5; clear z40 z41 z42 z43)
      | (go_at_call 15; (with_reducible refine ((HA0.out y3 (HR.out.1.below p3) (HR.out.2.below p3)).2.2.1.2).mono ?_); rintro e y4 ⟨rfl, g4⟩; have p4 := p3.trans (g4.mono p3.size); obtain ⟨z40, z41, z42, z43⟩ := HC.out y4 p4; clear z30 z31 z32 z33)
      | (go_at_call 14; (with_reducible refine ((HA0.out y2 (HR.out.1.below p2) (HR.out.2.below p2)).2.2.1.1).mono ?_); rintro e y3 ⟨rfl, g3⟩; have p3 := p2.trans (g3.mono p2.size); obtain ⟨z30, z31, z32, z33⟩ := HC.out y3 p3; clear z20 z21 z22 z23)
      | (go_at_call 13; (with_reducible refine ((HA0.out y1 (HR.out.1.below p1) (HR.out.2.below p1)).2.1.2).mono ?_); rintro e y2 ⟨rfl, g2⟩; have p2 := p1.trans (g2.mono p1.size); obtain ⟨z20, z21, z22, z23⟩ := HC.out y2 p2; clear z10 z11 z12 z13)
      | (go_at_call 12; (with_reducible refine ((HA0.out w4.drew (HR.out.1.below p0) (HR.out.2.below p0)).2.1.1).mono ?_); rintro e y1 ⟨rfl, g1⟩; have p1 := p0.trans (g1.mono p0.size); obtain ⟨z10, z11, z12, z13⟩ := HC.out y1 p1; clear z00 z01 z02 z03))
    all_goals
      go_wp2
      go_meet
      exact ⟨rfl, p6⟩
  case rest =>
    obtain ⟨rfl, HK5⟩ := hcut
    obtain ⟨z00, z01, z02, z03⟩ := HC.out wc HK5.out
    have p0 := HK5.out.trans (below_drewI w0.heap.size wc)
    go_wp2_with fail
    go_region_held3 (fun w' => w'.cell? ⟨w.heap.size, 0, none⟩ = some (.bool b1) ∧ w'.cell? ⟨w.heap.size, 1, none⟩ = some (.slice aa xs.length ca) ∧ w'.cell? ⟨w.heap.size + 1, 0, none⟩ = some (.bool b2) ∧ w'.cell? ⟨w.heap.size + 1, 1, none⟩ = some (.slice ab ys.length cb)) (go_keep) (first
      | (go_at_call 18; (with_reducible refine (same2_any (decide (Z6 < 0)) (decide (Z6 < 0)) a20 a21 d20 d21 (nd Z6.natAbs) (nd Z6.natAbs) true y21 (o20.below g21).rd o21.rd (by simp)).mono ?_); rintro e y22 ⟨rfl, g22⟩; have p22 := p21.trans (g22.mono p21.size); obtain ⟨z220, z221, z222, z223⟩ := HC.out y22 p22; clear z210 z211 z212 z213)
      | (go_at_call 32; (with_reducible refine ((HAC.out y20 (HR.out.1.below p20) (HR.out.2.below p20) (HT.out.below p20)).2.2.2.2.2.2.2).mono ?_); rintro e y21 ⟨a21, d21, rfl, o21, g21⟩; have p21 := p20.trans (g21.mono p20.size); obtain ⟨z210, z211, z212, z213⟩ := HC.out y21 p21; clear z200 z201 z202 z203)
      | (go_at_call 31; (with_reducible refine ((HAC.out y19 (HR.out.1.below p19) (HR.out.2.below p19) (HT.out.below p19)).2.2.2.2.2.2.1).mono ?_); rintro e y20 ⟨a20, d20, rfl, o20, g20⟩; have p20 := p19.trans (g20.mono p19.size); obtain ⟨z200, z201, z202, z203⟩ := HC.out y20 p20; clear z190 z191 z192 z193)
      | (go_at_call 18; (with_reducible refine (same2_any (decide (Z5 < 0)) (decide (Z5 < 0)) a17 a18 d17 d18 (nd Z5.natAbs) (nd Z5.natAbs) true y18 (o17.below g18).rd o18.rd (by simp)).mono ?_); rintro e y19 ⟨rfl, g19⟩; have p19 := p18.trans (g19.mono p18.size); obtain ⟨z190, z191, z192, z193⟩ := HC.out y19 p19; clear z180 z181 z182 z183)
      | (go_at_call 30; (with_reducible refine ((HAC.out y17 (HR.out.1.below p17) (HR.out.2.below p17) (HT.out.below p17)).2.2.2.2.2.1.2).mono ?_); rintro e y18 ⟨a18, d18, rfl, o18, g18⟩; have p18 := p17.trans (g18.mono p17.size); obtain ⟨z180, z181, z182, z183⟩ := HC.out y18 p18; clear z170 z171 z172 z173)
      | (go_at_call 29; (with_reducible refine ((HAC.out y16 (HR.out.1.below p16) (HR.out.2.below p16) (HT.out.below p16)).2.2.2.2.2.1.1).mono ?_); rintro e y17 ⟨a17, d17, rfl, o17, g17⟩; have p17 := p16.trans (g17.mono p16.size); obtain ⟨z170, z171, z172, z173⟩ := HC.out y17 p17; clear z160 z161 z162 z163)
      | (go_at_call 18; (with_reducible refine (same2_any (decide (Z4 < 0)) (decide (Z4 < 0)) a14 a15 d14 d15 (nd Z4.natAbs) (nd Z4.natAbs) true y15 (o14.below g15).rd o15.rd (by simp)).mono ?_); rintro e y16 ⟨rfl, g16⟩; have p16 := p15.trans (g16.mono p15.size); obtain ⟨z160, z161, z162, z163⟩ := HC.out y16 p16; clear z150 z151 z152 z153)
      | (go_at_call 28; (with_reducible refine ((HAC.out y14 (HR.out.1.below p14) (HR.out.2.below p14) (HT.out.below p14)).2.2.2.2.1.2).mono ?_); rintro e y15 ⟨a15, d15, rfl, o15, g15⟩; have p15 := p14.trans (g15.mono p14.size); obtain ⟨z150, z151, z152, z153⟩ := HC.out y15 p15; clear z140 z141 z142 z143)
      | (go_at_call 27; (with_reducible refine ((HAC.out y13 (HR.out.1.below p13) (HR.out.2.below p13) (HT.out.below p13)).2.2.2.2.1.1).mono ?_); rintro e y14 ⟨a14, d14, rfl, o14, g14⟩; have p14 := p13.trans (g14.mono p13.size); obtain ⟨z140, z141, z142, z143⟩ := HC.out y14 p14; clear z130 z131 z132 z133)
      | (go_at_call 18; (with_reducible refine (same2_any (decide (Z3 < 0)) (decide (Z3 < 0)) a11 a12 d11 d12 (nd Z3.natAbs) (nd Z3.natAbs) true y12 (o11.below g12).rd o12.rd (by simp)).mono ?_); rintro e y13 ⟨rfl, g13⟩; have p13 := p12.trans (g13.mono p12.size); obtain ⟨z130, z131, z132, z133⟩ := HC.out y13 p13; clear z120 z121 z122 z123)
      | (go_at_call 26; (with_reducible refine ((HAC.out y11 (HR.out.1.below p11) (HR.out.2.below p11) (HT.out.below p11)).2.2.2.1.2).mono ?_); rintro e y12 ⟨a12, d12, rfl, o12, g12⟩; have p12 := p11.trans (g12.mono p11.size); obtain ⟨z120, z121, z122, z123⟩ := HC.out y12 p12; clear z110 z111 z112 z113)
      | (go_at_call 25; (with_reducible refine ((HAC.out y10 (HR.out.1.below p10) (HR.out.2.below p10) (HT.out.below p10)).2.2.2.1.1).mono ?_); rintro e y11 ⟨a11, d11, rfl, o11, g11⟩; have p11 := p10.trans (g11.mono p10.size); obtain ⟨z110, z111, z112, z113⟩ := HC.out y11 p11; clear z100 z101 z102 z103)
      | (go_at_call 18; (with_reducible refine (same2_any (decide (Z2 < 0)) (decide (Z2 < 0)) a8 a9 d8 d9 (nd Z2.natAbs) (nd Z2.natAbs) true y9 (o8.below g9).rd o9.rd (by simp)).mono ?_); rintro e y10 ⟨rfl, g10⟩; have p10 := p9.trans (g10.mono p9.size); obtain ⟨z100, z101, z102, z103⟩ := HC.out y10 p10; clear z90 z91 z92 z93)
      | (go_at_call 24; (with_reducible refine ((HAC.out y8 (HR.out.1.below p8) (HR.out.2.below p8) (HT.out.below p8)).2.2.1.2).mono ?_); rintro e y9 ⟨a9, d9, rfl, o9, g9⟩; have p9 := p8.trans (g9.mono p8.size); obtain ⟨z90, z91, z92, z93⟩ := HC.out y9 p9; clear z80 z81 z82 z83)
      | (go_at_call 23; (with_reducible refine ((HAC.out y7 (HR.out.1.below p7) (HR.out.2.below p7) (HT.out.below p7)).2.2.1.1).mono ?_); rintro e y8 ⟨a8, d8, rfl, o8, g8⟩; have p8 := p7.trans (g8.mono p7.size); obtain ⟨z80, z81, z82, z83⟩ := HC.out y8 p8; clear z70 z71 z72 z73)
      | (go_at_call 18; (with_reducible refine (same2_any (decide (Z1 < 0)) (decide (Z1 < 0)) a5 a6 d5 d6 (nd Z1.natAbs) (nd Z1.natAbs) true y6 (o5.below g6).rd o6.rd (by simp)).mono ?_); rintro e y7 ⟨rfl, g7⟩; have p7 := p6.trans (g7.mono p6.size); obtain ⟨z70, z71, z72, z73⟩ := HC.out y7 p7; clear z60 z61 z62 z63)
      | (go_at_call 22; (with_reducible refine ((HAC.out y5 (HR.out.1.below p5) (HR.out.2.below p5) (HT.out.below p5)).2.1.2).mono ?_); rintro e y6 ⟨a6, d6, rfl, o6, g6⟩; have p6 := p5.trans (g6.mono p5.size); obtain ⟨z60, z61, z62, z63⟩ := HC.out y6 p6; clear z50 z51 z52 z53)
      | (go_at_call 21; (with_reducible refine ((HAC.out y4 (HR.out.1.below p4) (HR.out.2.below p4) (HT.out.below p4)).2.1.1).mono ?_); rintro e y5 ⟨a5, d5, rfl, o5, g5⟩; have p5 := p4.trans (g5.mono p4.size); obtain ⟨z50, z51, z52, z53⟩ := HC.out y5 p5; clear z40 z41 z42 z43)
      | (go_at_call 18; (with_reducible refine (same2_any (decide (Z0 < 0)) (decide (Z0 < 0)) a2 a3 d2 d3 (nd Z0.natAbs) (nd Z0.natAbs) true y3 (o2.below g3).rd o3.rd (by simp)).mono ?_); rintro e y4 ⟨rfl, g4⟩; have p4 := p3.trans (g4.mono p3.size); obtain ⟨z40, z41, z42, z43⟩ := HC.out y4 p4; clear z30 z31 z32 z33)
      | (go_at_call 20; (with_reducible refine ((HAC.out y2 (HR.out.1.below p2) (HR.out.2.below p2) (HT.out.below p2)).1.2).mono ?_); rintro e y3 ⟨a3, d3, rfl, o3, g3⟩; have p3 := p2.trans (g3.mono p2.size); obtain ⟨z30, z31, z32, z33⟩ := HC.out y3 p3; clear z20 z21 z22 z23)
      | (go_at_call 19; (with_reducible refine ((HAC.out y1 (HR.out.1.below p1) (HR.out.2.below p1) (HT.out.below p1)).1.1).mono ?_); rintro e y2 ⟨a2, d2, rfl, o2, g2⟩; have p2 := p1.trans (g2.mono p1.size); obtain ⟨z20, z21, z22, z23⟩ := HC.out y2 p2; clear z10 z11 z12 z13)
      | (go_at_call 9; (with_reducible refine (awake2_any wc.drew).mono ?_); rintro e y1 ⟨rfl, g1⟩; have p1 := p0.trans (g1.mono p0.size); obtain ⟨z10, z11, z12, z13⟩ := HC.out y1 p1; clear z00 z01 z02 z03))
    all_goals
      go_wp2
      go_ret
      exact ⟨rfl, HB.out.trans (p22.mono HB.out.size)⟩
end Go.Proofs.YtbcaigpdckencaaGreatDoor
