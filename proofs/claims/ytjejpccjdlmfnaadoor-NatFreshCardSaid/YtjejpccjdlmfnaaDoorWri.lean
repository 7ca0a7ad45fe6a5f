/- The walk of NatRing. -/
import Derived.Test.YtjejpccjdlmfnaaDoorAwk
namespace Go.Proofs.YtjejpccjdlmfnaaDoor
open Go.RowKit Num

theorem len_add {u v j k : Nat} (h : (nd u).length ≤ j) (h2 : (nd v).length ≤ k) : (nd (u + v)).length ≤ j + k + 1 := by
  have e1 : u < 4294967296 ^ (j + k) := Nat.lt_of_lt_of_le (val_nd u ▸ val_lt_of (wf_nd u) h) (Nat.pow_le_pow_right (by omega) (by omega))
  have e2 : v < 4294967296 ^ (j + k) := Nat.lt_of_lt_of_le (val_nd v ▸ val_lt_of (wf_nd v) h2) (Nat.pow_le_pow_right (by omega) (by omega))
  exact nd_length_add e1 e2
theorem len_mul {u v j k : Nat} (h : (nd u).length ≤ j) (h2 : (nd v).length ≤ k) : (nd (u * v)).length ≤ j + k :=
  nd_length_mul (val_nd u ▸ val_lt_of (wf_nd u) h) (val_nd v ▸ val_lt_of (wf_nd v) h2)

set_option maxRecDepth 100000 in
set_option maxHeartbeats 3200000 in
theorem walkNatRing (aa : Option Addr) (ca : Nat) (xs : List Nat) (ab : Option Addr) (cb : Nat) (ys : List Nat) (ac : Option Addr) (cc : Nat) (zs : List Nat) (w : World)
    (ha : Rd w aa ca xs) (hb : Rd w ab cb ys) (hc : Rd w ac cc zs) :
    Calls Tryd.prog 6 #[.slice aa xs.length ca, .slice ab ys.length cb, .slice ac zs.length cc] w (RetB (.bool true) w) := by
  have hla := ha.le
  have hla2 := ha.cm
  have hlb := hb.le
  have hlb2 := hb.cm
  have hlc := hc.le
  have hlc2 := hc.cm
  by_cases hx0 : xs.length ≤ 10
  case neg =>
    have hd0 := digits_any aa xs.length ca false w (by omega) (by simp; omega)
    have hk := awake_any w
    clear ha hb hc
    go_enter Tryd.func6, Tryd.ntmps6
    go_wp2_with fail
    refine hd0.mono ?_
    rintro e w' ⟨rfl, rfl⟩
    go_wp2_with fail
    refine hk.mono ?_
    rintro e w' ⟨rfl, hbel⟩
    go_wp2
    go_ret
    exact ⟨rfl, hbel⟩
  by_cases hx1 : ys.length ≤ 10
  case neg =>
    have hd0 := digits_any aa xs.length ca true w (by omega) (by simp; omega)
    have hd1 := digits_any ab ys.length cb false w (by omega) (by simp; omega)
    have hk := awake_any w
    clear ha hb hc
    go_enter Tryd.func6, Tryd.ntmps6
    go_wp2_with fail
    refine hd0.mono ?_
    rintro e w' ⟨rfl, rfl⟩
    go_wp2_with fail
    refine hd1.mono ?_
    rintro e w' ⟨rfl, rfl⟩
    go_wp2_with fail
    refine hk.mono ?_
    rintro e w' ⟨rfl, hbel⟩
    go_wp2
    go_ret
    exact ⟨rfl, hbel⟩
  by_cases hx2 : zs.length ≤ 10
  case neg =>
    have hd0 := digits_any aa xs.length ca true w (by omega) (by simp; omega)
    have hd1 := digits_any ab ys.length cb true w (by omega) (by simp; omega)
    have hd2 := digits_any ac zs.length cc false w (by omega) (by simp; omega)
    have hk := awake_any w
    clear ha hb hc
    go_enter Tryd.func6, Tryd.ntmps6
    go_wp2_with fail
    refine hd0.mono ?_
    rintro e w' ⟨rfl, rfl⟩
    go_wp2_with fail
    refine hd1.mono ?_
    rintro e w' ⟨rfl, rfl⟩
    go_wp2_with fail
    refine hd2.mono ?_
    rintro e w' ⟨rfl, rfl⟩
    go_wp2_with fail
    refine hk.mono ?_
    rintro e w' ⟨rfl, hbel⟩
    go_wp2
    go_ret
    exact ⟨rfl, hbel⟩
  have hd0 := digits_any aa xs.length ca true w (by omega) (by simp; omega)
  have hd1 := digits_any ab ys.length cb true w (by omega) (by simp; omega)
  have hd2 := digits_any ac zs.length cc true w (by omega) (by simp; omega)
  have lx : (nd (val xs)).length ≤ 10 := Nat.le_trans (nd_length_le_of ha.dg) hx0
  have ly : (nd (val ys)).length ≤ 10 := Nat.le_trans (nd_length_le_of hb.dg) hx1
  have lz : (nd (val zs)).length ≤ 10 := Nat.le_trans (nd_length_le_of hc.dg) hx2
  have l1 := len_add lx ly
  have l2 := len_add ly lz
  have l3 := len_mul lx ly
  have l4 := len_mul ly lz
  have l5 := len_mul lx lz
  go_enter Tryd.func6, Tryd.ntmps6
  go_wp2_with fail
  refine hd0.mono ?_
  rintro e w' ⟨rfl, rfl⟩
  go_wp2_with fail
  refine hd1.mono ?_
  rintro e w' ⟨rfl, rfl⟩
  go_wp2_with fail
  refine hd2.mono ?_
  rintro e w' ⟨rfl, rfl⟩
  clear hd0 hd1 hd2
  have hbz : Below w.heap.size w w := Below.refl _ _
  go_wp2_with fail
  refine (awake_any w).mono ?_
  rintro e w1 ⟨rfl, hb1⟩
  have hbz1 := hbz.trans (hb1.mono hbz.size)
  clear hb1 hbz
  have hc2 := add_any aa ab ca cb xs ys w1 (ha.below hbz1) (hb.below hbz1) (by omega) (by omega)
  go_wp2_with fail
  refine hc2.mono ?_
  rintro e w2 ⟨ao2, co2, rfl, hn2, hb2⟩
  have hbz2 := hbz1.trans (hb2.mono hbz1.size)
  clear hc2 hb2 hbz1
  have hc3 := add_any ab aa cb ca ys xs w2 (hb.below hbz2) (ha.below hbz2) (by omega) (by omega)
  go_wp2_with fail
  refine hc3.mono ?_
  rintro e w3 ⟨ao3, co3, rfl, hn3, hb3⟩
  have hbz3 := hbz2.trans (hb3.mono hbz2.size)
  have hos1_3 := hn2.below hb3
  clear hc3 hb3 hbz2 hn2
  have hc4 := same_any ao2 ao3 co2 co3 (nd (val xs + val ys)) (nd (val ys + val xs)) true w3 hos1_3.rd hn3.rd ⟨fun _ => by rw [Nat.add_comm], fun _ => rfl⟩
  go_wp2_with fail
  refine hc4.mono ?_
  rintro e w' ⟨rfl, q4, rfl⟩
  have hbz4 := hbz3.trans ((below_drewN w3 q4).mono hbz3.size)
  generalize w3.drewN q4 = w4 at hbz4 ⊢
  clear hc4 hbz3 hos1_3 hn3
  have hc5 := mul_any aa ab ca cb xs ys w4 (ha.below hbz4) (hb.below hbz4) (by omega) (by omega)
  go_wp2_with fail
  refine hc5.mono ?_
  rintro e w5 ⟨ao5, co5, rfl, hn5, hb5⟩
  have hbz5 := hbz4.trans (hb5.mono hbz4.size)
  clear hc5 hb5 hbz4
  have hc6 := mul_any ab aa cb ca ys xs w5 (hb.below hbz5) (ha.below hbz5) (by omega) (by omega)
  go_wp2_with fail
  refine hc6.mono ?_
  rintro e w6 ⟨ao6, co6, rfl, hn6, hb6⟩
  have hbz6 := hbz5.trans (hb6.mono hbz5.size)
  have hom1_6 := hn5.below hb6
  clear hc6 hb6 hbz5 hn5
  have hc7 := same_any ao5 ao6 co5 co6 (nd (val xs * val ys)) (nd (val ys * val xs)) true w6 hom1_6.rd hn6.rd ⟨fun _ => by rw [Nat.mul_comm], fun _ => rfl⟩
  go_wp2_with fail
  refine hc7.mono ?_
  rintro e w' ⟨rfl, q7, rfl⟩
  have hbz7 := hbz6.trans ((below_drewN w6 q7).mono hbz6.size)
  generalize w6.drewN q7 = w7 at hbz7 ⊢
  clear hc7 hbz6 hom1_6 hn6
  have hc8 := add_any aa ab ca cb xs ys w7 (ha.below hbz7) (hb.below hbz7) (by omega) (by omega)
  go_wp2_with fail
  refine hc8.mono ?_
  rintro e w8 ⟨ao8, co8, rfl, hn8, hb8⟩
  have hbz8 := hbz7.trans (hb8.mono hbz7.size)
  clear hc8 hb8 hbz7
  have hc9 := add_any ao8 ac co8 cc (nd (val xs + val ys)) zs w8 hn8.rd (hc.below hbz8) (by omega) (by omega)
  rw [val_nd] at hc9
  go_wp2_with fail
  refine hc9.mono ?_
  rintro e w9 ⟨ao9, co9, rfl, hn9, hb9⟩
  have hbz9 := hbz8.trans (hb9.mono hbz8.size)
  clear hc9 hb9 hbz8 hn8
  have hc10 := add_any ab ac cb cc ys zs w9 (hb.below hbz9) (hc.below hbz9) (by omega) (by omega)
  go_wp2_with fail
  refine hc10.mono ?_
  rintro e w10 ⟨ao10, co10, rfl, hn10, hb10⟩
  have hbz10 := hbz9.trans (hb10.mono hbz9.size)
  have hot2_10 := hn9.below hb10
  clear hc10 hb10 hbz9 hn9
  have hc11 := add_any aa ao10 ca co10 xs (nd (val ys + val zs)) w10 (ha.below hbz10) hn10.rd (by omega) (by omega)
  rw [val_nd] at hc11
  go_wp2_with fail
  refine hc11.mono ?_
  rintro e w11 ⟨ao11, co11, rfl, hn11, hb11⟩
  have hbz11 := hbz10.trans (hb11.mono hbz10.size)
  have hot2_11 := hot2_10.below hb11
  clear hc11 hb11 hbz10 hot2_10 hn10
  have hc12 := same_any ao9 ao11 co9 co11 (nd (val xs + val ys + val zs)) (nd (val xs + (val ys + val zs))) true w11 hot2_11.rd hn11.rd ⟨fun _ => by rw [Nat.add_assoc], fun _ => rfl⟩
  go_wp2_with fail
  refine hc12.mono ?_
  rintro e w' ⟨rfl, q12, rfl⟩
  have hbz12 := hbz11.trans ((below_drewN w11 q12).mono hbz11.size)
  generalize w11.drewN q12 = w12 at hbz12 ⊢
  clear hc12 hbz11 hot2_11 hn11
  have hc13 := mul_any aa ab ca cb xs ys w12 (ha.below hbz12) (hb.below hbz12) (by omega) (by omega)
  go_wp2_with fail
  refine hc13.mono ?_
  rintro e w13 ⟨ao13, co13, rfl, hn13, hb13⟩
  have hbz13 := hbz12.trans (hb13.mono hbz12.size)
  clear hc13 hb13 hbz12
  have hc14 := mul_any ao13 ac co13 cc (nd (val xs * val ys)) zs w13 hn13.rd (hc.below hbz13) (by omega) (by omega)
  rw [val_nd] at hc14
  go_wp2_with fail
  refine hc14.mono ?_
  rintro e w14 ⟨ao14, co14, rfl, hn14, hb14⟩
  have hbz14 := hbz13.trans (hb14.mono hbz13.size)
  clear hc14 hb14 hbz13 hn13
  have hc15 := mul_any ab ac cb cc ys zs w14 (hb.below hbz14) (hc.below hbz14) (by omega) (by omega)
  go_wp2_with fail
  refine hc15.mono ?_
  rintro e w15 ⟨ao15, co15, rfl, hn15, hb15⟩
  have hbz15 := hbz14.trans (hb15.mono hbz14.size)
  have hop2_15 := hn14.below hb15
  clear hc15 hb15 hbz14 hn14
  have hc16 := mul_any aa ao15 ca co15 xs (nd (val ys * val zs)) w15 (ha.below hbz15) hn15.rd (by omega) (by omega)
  rw [val_nd] at hc16
  go_wp2_with fail
  refine hc16.mono ?_
  rintro e w16 ⟨ao16, co16, rfl, hn16, hb16⟩
  have hbz16 := hbz15.trans (hb16.mono hbz15.size)
  have hop2_16 := hop2_15.below hb16
  clear hc16 hb16 hbz15 hop2_15 hn15
  have hc17 := same_any ao14 ao16 co14 co16 (nd (val xs * val ys * val zs)) (nd (val xs * (val ys * val zs))) true w16 hop2_16.rd hn16.rd ⟨fun _ => by rw [Nat.mul_assoc], fun _ => rfl⟩
  go_wp2_with fail
  refine hc17.mono ?_
  rintro e w' ⟨rfl, q17, rfl⟩
  have hbz17 := hbz16.trans ((below_drewN w16 q17).mono hbz16.size)
  generalize w16.drewN q17 = w17 at hbz17 ⊢
  clear hc17 hbz16 hop2_16 hn16
  have hc18 := add_any ab ac cb cc ys zs w17 (hb.below hbz17) (hc.below hbz17) (by omega) (by omega)
  go_wp2_with fail
  refine hc18.mono ?_
  rintro e w18 ⟨ao18, co18, rfl, hn18, hb18⟩
  have hbz18 := hbz17.trans (hb18.mono hbz17.size)
  clear hc18 hb18 hbz17
  have hc19 := mul_any aa ao18 ca co18 xs (nd (val ys + val zs)) w18 (ha.below hbz18) hn18.rd (by omega) (by omega)
  rw [val_nd] at hc19
  go_wp2_with fail
  refine hc19.mono ?_
  rintro e w19 ⟨ao19, co19, rfl, hn19, hb19⟩
  have hbz19 := hbz18.trans (hb19.mono hbz18.size)
  clear hc19 hb19 hbz18 hn18
  have hc20 := mul_any aa ab ca cb xs ys w19 (ha.below hbz19) (hb.below hbz19) (by omega) (by omega)
  go_wp2_with fail
  refine hc20.mono ?_
  rintro e w20 ⟨ao20, co20, rfl, hn20, hb20⟩
  have hbz20 := hbz19.trans (hb20.mono hbz19.size)
  have hoq1_20 := hn19.below hb20
  clear hc20 hb20 hbz19 hn19
  have hc21 := mul_any aa ac ca cc xs zs w20 (ha.below hbz20) (hc.below hbz20) (by omega) (by omega)
  go_wp2_with fail
  refine hc21.mono ?_
  rintro e w21 ⟨ao21, co21, rfl, hn21, hb21⟩
  have hbz21 := hbz20.trans (hb21.mono hbz20.size)
  have hoq1_21 := hoq1_20.below hb21
  have hoq2_21 := hn20.below hb21
  clear hc21 hb21 hbz20 hoq1_20 hn20
  have hc22 := add_any ao20 ao21 co20 co21 (nd (val xs * val ys)) (nd (val xs * val zs)) w21 hoq2_21.rd hn21.rd (by omega) (by omega)
  rw [val_nd] at hc22
  rw [val_nd] at hc22
  go_wp2_with fail
  refine hc22.mono ?_
  rintro e w22 ⟨ao22, co22, rfl, hn22, hb22⟩
  have hbz22 := hbz21.trans (hb22.mono hbz21.size)
  have hoq1_22 := hoq1_21.below hb22
  clear hc22 hb22 hbz21 hoq1_21 hoq2_21 hn21
  have hc23 := same_any ao19 ao22 co19 co22 (nd (val xs * (val ys + val zs))) (nd (val xs * val ys + val xs * val zs)) true w22 hoq1_22.rd hn22.rd ⟨fun _ => by rw [Nat.mul_add], fun _ => rfl⟩
  go_wp2_with fail
  refine hc23.mono ?_
  rintro e w' ⟨rfl, q23, rfl⟩
  have hbz23 := hbz22.trans ((below_drewN w22 q23).mono hbz22.size)
  generalize w22.drewN q23 = w23 at hbz23 ⊢
  clear hc23 hbz22 hoq1_22 hn22
  have hc24 := add_any aa ab ca cb xs ys w23 (ha.below hbz23) (hb.below hbz23) (by omega) (by omega)
  go_wp2_with fail
  refine hc24.mono ?_
  rintro e w24 ⟨ao24, co24, rfl, hn24, hb24⟩
  have hbz24 := hbz23.trans (hb24.mono hbz23.size)
  clear hc24 hb24 hbz23
  have hc25 := sub_any ao24 ab co24 cb (nd (val xs + val ys)) ys w24 hn24.rd (hb.below hbz24) (by omega) (by omega)
  rw [val_nd, Nat.add_sub_cancel] at hc25
  go_wp2_with fail
  refine hc25.mono ?_
  rintro e w25 ⟨ao25, co25, rfl, hn25, hb25⟩
  have hbz25 := hbz24.trans (hb25.mono hbz24.size)
  clear hc25 hb25 hbz24 hn24
  have hc26 := trim_any aa ca xs w25 (ha.below hbz25) (by omega)
  go_wp2_with fail
  refine hc26.mono ?_
  rintro e w26 ⟨ao26, co26, rfl, hn26, hb26⟩
  have hbz26 := hbz25.trans (hb26.mono hbz25.size)
  have hor2_26 := hn25.below hb26
  clear hc26 hb26 hbz25 hn25
  have hc27 := same_any ao25 ao26 co25 co26 (nd (val xs)) (nd (val xs)) true w26 hor2_26.rd hn26.rd ⟨fun _ => rfl, fun _ => rfl⟩
  go_wp2_with fail
  refine hc27.mono ?_
  rintro e w' ⟨rfl, q27, rfl⟩
  have hbz27 := hbz26.trans ((below_drewN w26 q27).mono hbz26.size)
  generalize w26.drewN q27 = w27 at hbz27 ⊢
  clear hc27 hbz26 hor2_26 hn26
  go_wp2
  go_ret
  exact ⟨rfl, hbz27⟩
end Go.Proofs.YtjejpccjdlmfnaaDoor
