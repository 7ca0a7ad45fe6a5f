/- The walk of NatActs. -/
import Derived.Test.YtehmogpahkinfaaDoorRda
namespace Go.Proofs.YtehmogpahkinfaaDoor
open Go.RowKit Num

set_option maxRecDepth 100000 in
set_option maxHeartbeats 6400000 in
theorem walkNatActs (aa : Option Addr) (ca : Nat) (xs : List Nat) (ab : Option Addr) (cb : Nat) (ys : List Nat) (w : World)
    (ha : Rd w aa ca xs) (hb : Rd w ab cb ys) :
    Calls Tryd.prog 3 #[.slice aa xs.length ca, .slice ab ys.length cb] w (RetB (.bool true) w) := by
  have hla := ha.le
  have hla2 := ha.cm
  have hlb := hb.le
  have hlb2 := hb.cm
  by_cases hx0 : xs.length ≤ 10
  case neg =>
    have hd0 := digits_any aa xs.length ca false w (by omega) (by simp; omega)
    have hk := awake_any w
    clear ha hb
    go_enter Tryd.func3, Tryd.ntmps3
    go_wp2_with fail
    refine hd0.mono ?_
    rintro e w' ⟨rfl, rfl⟩
    go_wp2_with fail
    refine hk.mono ?_
    rintro e w' ⟨rfl, hbel⟩
    go_wp2
    go_ret
    exact ⟨rfl, hbel⟩
  by_cases hx1 : ys.length ≤ 10
  case neg =>
    have hd0 := digits_any aa xs.length ca true w (by omega) (by simp; omega)
    have hd1 := digits_any ab ys.length cb false w (by omega) (by simp; omega)
    have hk := awake_any w
    clear ha hb
    go_enter Tryd.func3, Tryd.ntmps3
    go_wp2_with fail
    refine hd0.mono ?_
    rintro e w' ⟨rfl, rfl⟩
    go_wp2_with fail
    refine hd1.mono ?_
    rintro e w' ⟨rfl, rfl⟩
    go_wp2_with fail
    refine hk.mono ?_
    rintro e w' ⟨rfl, hbel⟩
    go_wp2
    go_ret
    exact ⟨rfl, hbel⟩
  have hd0 := digits_any aa xs.length ca true w (by omega) (by simp; omega)
  have hd1 := digits_any ab ys.length cb true w (by omega) (by simp; omega)
  obtain ⟨Q, R, E, hq, hrq⟩ := divmods aa ab ca cb xs ys w ha hb (by omega) (by omega)
  have HRQ := hid hrq
  obtain ⟨nb, hnb⟩ : ∃ nb : Bool, nb = true ↔ nrm xs := by
    by_cases h : nrm xs
    · exact ⟨true, by simp [h]⟩
    · exact ⟨false, by simp [h]⟩
  have HNB := hid hnb
  have hnn : (nb == nb) = true := by simp
  have hee : (E == E) = true := by simp
  obtain ⟨r, hr⟩ : ∃ r, r = cmpN (val xs) (val ys) := ⟨_, rfl⟩
  have HR := hid hr
  have hrr : (r == r) = true := by simp
  clear hrq hnb hr
  go_enter Tryd.func3, Tryd.ntmps3
  go_wp2_with fail
  refine hd0.mono ?_
  rintro e w' ⟨rfl, rfl⟩
  go_wp2_with fail
  refine hd1.mono ?_
  rintro e w' ⟨rfl, rfl⟩
  clear hd0 hd1
  go_wp2_with fail
  refine hq.mono ?_
  rintro e w1 ⟨ax, cx, ay, cy, rfl, hx1, hy1, hb1⟩
  have hq2 := HRQ.out w1 hb1
  clear hq
  go_wp2_with fail
  refine hq2.mono ?_
  rintro e w2 ⟨bx, dx, by_, dy, rfl, hx2, hy2, hb2⟩
  have hbz : Below w.heap.size w w2 := hb1.trans (hb2.mono hb1.size)
  have hq1_0 := hx1.below hb2
  have hr1_0 := hy1.below hb2
  clear hq2 hx1 hy1 hb1 hb2
  go_wp2_with fail
  refine (awake_any w2).mono ?_
  rintro e w1 ⟨rfl, hb1⟩
  have hbz1 := hbz.trans (hb1.mono hbz.size)
  have hoq1_1 := hq1_0.below hb1
  have hor1_1 := hr1_0.below hb1
  have hox1_1 := hx2.below hb1
  have hoy1_1 := hy2.below hb1
  clear hb1 hbz hq1_0 hr1_0 hx2 hy2
  have hc2 := same_any ax bx cx dx Q Q true w1 hoq1_1.rd hox1_1.rd ⟨fun _ => rfl, fun _ => rfl⟩
  go_wp2_with fail
  refine hc2.mono ?_
  rintro e w' ⟨rfl, q2, rfl⟩
  have hbz2 := hbz1.trans ((below_drewN w1 q2).mono hbz1.size)
  have hor1_2 := hor1_1.drewN q2
  have hoy1_2 := hoy1_1.drewN q2
  generalize w1.drewN q2 = w2 at hbz2 hor1_2 hoy1_2 ⊢
  clear hc2 hbz1 hoq1_1 hor1_1 hox1_1 hoy1_1
  have hc3 := same_any ay by_ cy dy R R true w2 hor1_2.rd hoy1_2.rd ⟨fun _ => rfl, fun _ => rfl⟩
  go_wp2_with fail
  refine hc3.mono ?_
  rintro e w' ⟨rfl, q3, rfl⟩
  have hbz3 := hbz2.trans ((below_drewN w2 q3).mono hbz2.size)
  generalize w2.drewN q3 = w3 at hbz3 ⊢
  clear hc3 hbz2 hor1_2 hoy1_2
  have hc4 := normal_any aa ca xs nb w3 (ha.below hbz3) HNB.out
  go_wp2_with fail
  refine hc4.mono ?_
  rintro e w' ⟨rfl, rfl⟩
  clear hc4
  have hc5 := rnormal_any aa ca xs nb w3 (ha.below hbz3) HNB.out
  go_wp2_with fail
  refine hc5.mono ?_
  rintro e w' ⟨rfl, rfl⟩
  clear hc5
  have hc6 := trim_any aa ca xs w3 (ha.below hbz3) (by omega)
  go_wp2_with fail
  refine hc6.mono ?_
  rintro e w6 ⟨ao6, co6, rfl, hn6, hb6⟩
  have hbz6 := hbz3.trans (hb6.mono hbz3.size)
  clear hc6 hb6 hbz3
  have hc7 := rtrim_any aa ca xs w6 (ha.below hbz6) (by omega)
  go_wp2_with fail
  refine hc7.mono ?_
  rintro e w7 ⟨ao7, co7, rfl, hn7, hb7⟩
  have hbz7 := hbz6.trans (hb7.mono hbz6.size)
  have hot1_7 := hn6.below hb7
  clear hc7 hb7 hbz6 hn6
  have hc8 := same_any ao6 ao7 co6 co7 (nd (val xs)) (nd (val xs)) true w7 hot1_7.rd hn7.rd ⟨fun _ => rfl, fun _ => rfl⟩
  go_wp2_with fail
  refine hc8.mono ?_
  rintro e w' ⟨rfl, q8, rfl⟩
  have hbz8 := hbz7.trans ((below_drewN w7 q8).mono hbz7.size)
  generalize w7.drewN q8 = w8 at hbz8 ⊢
  clear hc8 hbz7 hot1_7 hn7
  have hc9 := compare_any aa ab ca cb xs ys w8 (ha.below hbz8) (hb.below hbz8)
  rw [← HR.out] at hc9
  go_wp2_with fail
  refine hc9.mono ?_
  rintro e w' ⟨rfl, q9, rfl⟩
  have hbz9 := hbz8.trans ((below_drewN w8 q9).mono hbz8.size)
  generalize w8.drewN q9 = w9 at hbz9 ⊢
  clear hc9 hbz8
  have hc10 := rcompare_any aa ab ca cb xs ys w9 (ha.below hbz9) (hb.below hbz9) (by omega) (by omega)
  rw [← HR.out] at hc10
  go_wp2_with fail
  refine hc10.mono ?_
  rintro e w10 ⟨rfl, hb10⟩
  have hbz10 := hbz9.trans (hb10.mono hbz9.size)
  clear hc10 hb10 hbz9
  have hc11 := add_any aa ab ca cb xs ys w10 (ha.below hbz10) (hb.below hbz10) (by omega) (by omega)
  go_wp2_with fail
  refine hc11.mono ?_
  rintro e w11 ⟨ao11, co11, rfl, hn11, hb11⟩
  have hbz11 := hbz10.trans (hb11.mono hbz10.size)
  clear hc11 hb11 hbz10
  have hc12 := radd_any aa ab ca cb xs ys w11 (ha.below hbz11) (hb.below hbz11) (by omega) (by omega)
  go_wp2_with fail
  refine hc12.mono ?_
  rintro e w12 ⟨ao12, co12, rfl, hn12, hb12⟩
  have hbz12 := hbz11.trans (hb12.mono hbz11.size)
  have hou1_12 := hn11.below hb12
  clear hc12 hb12 hbz11 hn11
  have hc13 := same_any ao11 ao12 co11 co12 (nd (val xs + val ys)) (nd (val xs + val ys)) true w12 hou1_12.rd hn12.rd ⟨fun _ => rfl, fun _ => rfl⟩
  go_wp2_with fail
  refine hc13.mono ?_
  rintro e w' ⟨rfl, q13, rfl⟩
  have hbz13 := hbz12.trans ((below_drewN w12 q13).mono hbz12.size)
  generalize w12.drewN q13 = w13 at hbz13 ⊢
  clear hc13 hbz12 hou1_12 hn12
  have hc14 := sub_any aa ab ca cb xs ys w13 (ha.below hbz13) (hb.below hbz13) (by omega) (by omega)
  go_wp2_with fail
  refine hc14.mono ?_
  rintro e w14 ⟨ao14, co14, rfl, hn14, hb14⟩
  have hbz14 := hbz13.trans (hb14.mono hbz13.size)
  clear hc14 hb14 hbz13
  have hc15 := rsub_any aa ab ca cb xs ys w14 (ha.below hbz14) (hb.below hbz14) (by omega) (by omega)
  go_wp2_with fail
  refine hc15.mono ?_
  rintro e w15 ⟨ao15, co15, rfl, hn15, hb15⟩
  have hbz15 := hbz14.trans (hb15.mono hbz14.size)
  have hou1_15 := hn14.below hb15
  clear hc15 hb15 hbz14 hn14
  have hc16 := same_any ao14 ao15 co14 co15 (nd (val xs - val ys)) (nd (val xs - val ys)) true w15 hou1_15.rd hn15.rd ⟨fun _ => rfl, fun _ => rfl⟩
  go_wp2_with fail
  refine hc16.mono ?_
  rintro e w' ⟨rfl, q16, rfl⟩
  have hbz16 := hbz15.trans ((below_drewN w15 q16).mono hbz15.size)
  generalize w15.drewN q16 = w16 at hbz16 ⊢
  clear hc16 hbz15 hou1_15 hn15
  have hc17 := mul_any aa ab ca cb xs ys w16 (ha.below hbz16) (hb.below hbz16) (by omega) (by omega)
  go_wp2_with fail
  refine hc17.mono ?_
  rintro e w17 ⟨ao17, co17, rfl, hn17, hb17⟩
  have hbz17 := hbz16.trans (hb17.mono hbz16.size)
  clear hc17 hb17 hbz16
  have hc18 := rmul_any aa ab ca cb xs ys w17 (ha.below hbz17) (hb.below hbz17) (by omega) (by omega)
  go_wp2_with fail
  refine hc18.mono ?_
  rintro e w18 ⟨ao18, co18, rfl, hn18, hb18⟩
  have hbz18 := hbz17.trans (hb18.mono hbz17.size)
  have hou1_18 := hn17.below hb18
  clear hc18 hb18 hbz17 hn17
  have hc19 := same_any ao17 ao18 co17 co18 (nd (val xs * val ys)) (nd (val xs * val ys)) true w18 hou1_18.rd hn18.rd ⟨fun _ => rfl, fun _ => rfl⟩
  go_wp2_with fail
  refine hc19.mono ?_
  rintro e w' ⟨rfl, q19, rfl⟩
  have hbz19 := hbz18.trans ((below_drewN w18 q19).mono hbz18.size)
  generalize w18.drewN q19 = w19 at hbz19 ⊢
  clear hc19 hbz18 hou1_18 hn18
  go_wp2
  go_ret
  exact ⟨rfl, hbz19⟩
end Go.Proofs.YtehmogpahkinfaaDoor
