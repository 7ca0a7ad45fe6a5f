/- Integers: Format of what is not negative; awake, the examples of the chapter. -/
import Derived.Test.YtbcaigpdckencaaDoorIn8
import Derived.Deep.RegionHeld3
namespace Go.Proofs.YtbcaigpdckencaaDoor
open Go.RowKit Num

theorem iv_self (z : Int) : iv (decide (z < 0)) z.natAbs = z := by
  unfold iv
  by_cases h : z < 0
  · rw [if_pos (decide_eq_true h)]; omega
  · rw [if_neg (by simp [h])]; omega

set_option maxRecDepth 100000 in
theorem iformat_nn (b : Bool) (ao : Option Addr) (c : Nat) (xs : List Nat) (w : World) (h : Rd w ao c xs) (hl : xs.length ≤ 1073741824) (hn : ¬ iv b (val xs) < 0) :
    Calls Tryd.prog 47 #[.agg #[.bool b, .slice ao xs.length c]] w (RetFmt (val xs) w) := by
  have hba := below_alloc w (.cells #[.bool b, .slice ao xs.length c] 43)
  have hx1 := heap_alloc_at w (.cells #[.bool b, .slice ao xs.length c] 43)
  have HF := hid (format_any ao c xs _ (h.below hba) hl)
  have HP := hid (fun w' => pair_cells (w' := w') hx1)
  have HI := hid (fun w' (hb : Below w.heap.size w w') => isNegative_any b ao c xs w' (h.below hb) (by omega) false (by simp; omega))
  have HA := hid hba
  clear h hba hx1 hn
  go_enter Tryd.func47, Tryd.ntmps47
  go_wp2_with fail
  refine HF.out.mono ?_
  rintro e w3 ⟨rfl, hb3⟩
  obtain ⟨s0, s1, _, _⟩ := HP.out w3 hb3
  have hb03 := HA.out.trans (hb3.mono HA.out.size)
  have hi := HI.out w3 hb03
  clear hb3
  go_wp2_with fail
  refine hi.mono ?_
  rintro e w4 ⟨rfl, hb4⟩
  have HB := hid (hb03.trans (hb4.mono hb03.size))
  clear hi hb03 hb4 s0 s1
  go_wp2
  go_ret
  exact ⟨rfl, HB.out⟩

set_option maxRecDepth 100000 in
set_option maxHeartbeats 3200000 in
theorem awake2_any (w : World) : Calls Tryd.prog 32 #[] w (RetB (.bool true) w) := by
  obtain ⟨z7, h7⟩ : ∃ z : Int, z = 7 := ⟨_, rfl⟩
  obtain ⟨z2, h2⟩ : ∃ z : Int, z = -2 := ⟨_, rfl⟩
  obtain ⟨zq, hq⟩ : ∃ z : Int, z = -3 := ⟨_, rfl⟩
  obtain ⟨zr, hr⟩ : ∃ z : Int, z = 1 := ⟨_, rfl⟩
  obtain ⟨z5, h5⟩ : ∃ z : Int, z = -5 := ⟨_, rfl⟩
  have C7 := hid (fun w => (by rw [h7]; exact of_nn 7 w (by omega) (by omega) : Calls Tryd.prog 41 #[.int .i64 7] w (RetInt w.heap.size z7 w)))
  have C2 := hid (fun w => (by rw [h2]; exact of_neg (-2) w (by omega) (by omega) : Calls Tryd.prog 41 #[.int .i64 (-2)] w (RetInt w.heap.size z2 w)))
  have C5 := hid (fun w => (by rw [h5]; exact of_neg (-5) w (by omega) (by omega) : Calls Tryd.prog 41 #[.int .i64 (-5)] w (RetInt w.heap.size z5 w)))
  have CM := hid (fun w => (of_neg (-9223372036854775808) w (by omega) (by omega) : Calls Tryd.prog 41 #[.int .i64 (-9223372036854775808)] w (RetInt w.heap.size (-9223372036854775808) w)))
  have R3 := hid (fun w => (by rw [hq]; exact rof_neg (-3) w (by omega) (by omega) : Calls Tryd.prog 44 #[.int .i64 (-3)] w (RetInt w.heap.size zq w)))
  have R1 := hid (fun w => (by rw [hr]; exact rof_nn 1 w (by omega) (by omega) : Calls Tryd.prog 44 #[.int .i64 1] w (RetInt w.heap.size zr w)))
  have HQ := hid (show z7 / z2 = zq ∧ z7 % z2 = zr ∧ sgn z5 = -1 ∧ z2 ≠ 0 by rw [h7, h2, hq, hr, h5]; exact ⟨by decide, by decide, by decide, by decide⟩)
  have HS := hid (And.intro h7 h2)
  have hl5 : (nd z5.natAbs).length ≤ 17592186044416 := Nat.le_trans (nd_length_le (k := 1) (by rw [h5]; decide)) (by omega)
  have CS := hid (fun (w : World) (a : Option Addr) (c : Nat) (h : Rd w a c (nd z5.natAbs)) => (by
    have h1 := Sign_any (decide (z5 < 0)) a c (nd z5.natAbs) w h hl5
    rw [val_nd, iv_self, HQ.out.2.2.1] at h1
    exact h1 : Calls Tryd.prog 36 #[.agg #[.bool (decide (z5 < 0)), .slice a (nd z5.natAbs).length c]] w (RetB (.int .i64 (-1)) w)))
  clear hl5
  have CF := hid (fun (y : World) => (by
    have h1 := iformat_nn true (some ⟨y.heap.size, 0, none⟩) 1 [0] (y.alloc (.cells #[.int .u32 ((0 : Nat) : Int)] 61)) (Own.one y y.heap.size 0 (Nat.le_refl _) (by omega)).rd (by simp) (by simp [iv, val])
    have e : fmtS (val [0]) = (⟨#[48]⟩ : ByteArray) := by
      rw [show val [0] = 0 by simp [val], fmtS, decT, if_pos rfl]; rfl
    exact h1.mono (fun e' w' h => ⟨by rw [h.1, e], h.2⟩) : Calls Tryd.prog 47 #[.agg #[.bool true, .slice (some ⟨y.heap.size, 0, none⟩) 1 1]] (y.alloc (.cells #[.int .u32 0] 61)) (RetB (.string ⟨#[48]⟩) (y.alloc (.cells #[.int .u32 0] 61)))))
  clear h7 h2 hq hr h5
  go_enter Tryd.func32, Tryd.ntmps32
  go_wp2_with fail
  refine (C7.out _).mono ?_
  rintro e w1 ⟨a1, c1, rfl, ho1, hb1⟩
  go_wp2_with fail
  refine (C2.out _).mono ?_
  rintro e w2 ⟨a2, c2, rfl, ho2, hb2⟩
  have hb02 := hb1.trans (hb2.mono hb1.size)
  have hv2 : val (nd z2.natAbs) ≠ 0 := by rw [val_nd]; have := HQ.out.2.2.2; omega
  have hl1 : (nd z7.natAbs).length ≤ 4398046511104 := Nat.le_trans (nd_length_le (k := 1) (by rw [HS.out.1]; decide)) (by omega)
  have hl2 : (nd z2.natAbs).length ≤ 4398046511104 := Nat.le_trans (nd_length_le (k := 1) (by rw [HS.out.2]; decide)) (by omega)
  have hd := idiv_any (decide (z7 < 0)) (decide (z2 < 0)) a1 a2 c1 c2 (nd z7.natAbs) (nd z2.natAbs) w2 (ho1.below hb2).rd ho2.rd hv2 hl1 hl2
  rw [val_nd, val_nd, iv_self, iv_self, HQ.out.1, HQ.out.2.1] at hd
  have HB2 := hid hb02
  clear ho1 hb1 ho2 hb2 hb02 hv2
  go_wp2_with fail
  refine hd.mono ?_
  rintro e w3 ⟨aq, cq, ar, cr, rfl, hq3, hr3, hb3⟩
  have hb03 := HB2.out.trans (hb3.mono HB2.out.size)
  clear hd hb3
  have HQR := hid (And.intro hq3 hr3)
  have HB3 := hid hb03
  clear hq3 hr3 hb03
  go_wp2_with fail
  have hbq := below_alloc w3 (.cells #[.bool (decide (zq < 0)), .slice aq (nd zq.natAbs).length cq] 43)
  have hxq := heap_alloc_at w3 (.cells #[.bool (decide (zq < 0)), .slice aq (nd zq.natAbs).length cq] 43)
  have hzq : (w3.alloc (.cells #[.bool (decide (zq < 0)), .slice aq (nd zq.natAbs).length cq] 43)).heap.size = w3.heap.size + 1 := by simp
  have hbr := below_alloc (w3.alloc (.cells #[.bool (decide (zq < 0)), .slice aq (nd zq.natAbs).length cq] 43)) (.cells #[.bool (decide (zr < 0)), .slice ar (nd zr.natAbs).length cr] 43)
  have hxr := heap_alloc_at (w3.alloc (.cells #[.bool (decide (zq < 0)), .slice aq (nd zq.natAbs).length cq] 43)) (.cells #[.bool (decide (zr < 0)), .slice ar (nd zr.natAbs).length cr] 43)
  rw [hzq] at hxr
  have hxq2 := (hbr.block w3.heap.size (by omega)).trans hxq
  have hb05 := (HB3.out.trans (hbq.mono HB3.out.size)).trans (hbr.mono (by have := HB3.out.size; omega))
  have hq5 := (HQR.out.1.below hbq).below hbr
  have hr5 := (HQR.out.2.below hbq).below hbr
  generalize (w3.alloc (.cells #[.bool (decide (zq < 0)), .slice aq (nd zq.natAbs).length cq] 43)).alloc (.cells #[.bool (decide (zr < 0)), .slice ar (nd zr.natAbs).length cr] 43) = w5 at hxr hxq2 hb05 hq5 hr5 ⊢
  have HP5 := hid (fun w' (hb : Below w5.heap.size w5 w') => And.intro (pair_cells hxq2 hb) (pair_cells hxr hb))
  have H5 := hid (And.intro hb05 (And.intro hq5 hr5))
  clear hbq hxq hzq hbr hxr hxq2 hb05 hq5 hr5
  refine (CM.out _).mono ?_
  rintro e w6 ⟨am, cm, rfl, hm6, hb6⟩
  have hsm := Small_any (-9223372036854775808) am cm w6 hm6.rd (by omega) (by omega)
  have HB6 := hid hb6
  clear hm6 hb6
  go_wp2_with fail
  refine hsm.mono ?_
  rintro e w7 ⟨rfl, hb7⟩
  have hb57 := HB6.out.trans (hb7.mono HB6.out.size)
  have HB7 := hid hb57
  obtain ⟨⟨s0, s1, _, _⟩, s2, s3, _, _⟩ := HP5.out w7 hb57
  clear hsm hb7 hb57
  have k0 : Below w5.heap.size w5 w7.drew := HB7.out.drew
  have z0 : (0 : Int) = 0 := rfl
  go_wp2_with fail
  go_region_held3 (fun w' => w'.cell? ⟨w3.heap.size, 0, none⟩ = some (.bool (decide (zq < 0))) ∧ w'.cell? ⟨w3.heap.size, 1, none⟩ = some (.slice aq (nd zq.natAbs).length cq) ∧ w'.cell? ⟨w3.heap.size + 1, 0, none⟩ = some (.bool (decide (zr < 0))) ∧ w'.cell? ⟨w3.heap.size + 1, 1, none⟩ = some (.slice ar (nd zr.natAbs).length cr)) (go_keep) (first
    | (go_at_call 44; (with_reducible refine (R3.out w7.drew).mono ?_); rintro e y1 ⟨b1, d1, rfl, p1, e1⟩; have k1 := k0.trans (e1.mono k0.size); obtain ⟨⟨t0, t1, _, _⟩, t2, t3, _, _⟩ := HP5.out y1 k1)
    | (go_at_call 35; (with_reducible refine (same2_any (decide (zq < 0)) (decide (zq < 0)) aq b1 cq d1 (nd zq.natAbs) (nd zq.natAbs) true y1 (H5.out.2.1.below k1).rd p1.rd (by simp)).mono ?_); rintro e y2 ⟨rfl, e2⟩; have k2 := k1.trans (e2.mono k1.size); obtain ⟨⟨t4, t5, _, _⟩, t6, t7, _, _⟩ := HP5.out y2 k2)
    | (go_at_call 44; (with_reducible refine (R1.out y2).mono ?_); rintro e y3 ⟨b3, d3, rfl, p3, e3⟩; have k3 := k2.trans (e3.mono k2.size); obtain ⟨⟨u0, u1, _, _⟩, u2, u3, _, _⟩ := HP5.out y3 k3)
    | (go_at_call 35; (with_reducible refine (same2_any (decide (zr < 0)) (decide (zr < 0)) ar b3 cr d3 (nd zr.natAbs) (nd zr.natAbs) true y3 (H5.out.2.2.below k3).rd p3.rd (by simp)).mono ?_); rintro e y4 ⟨rfl, e4⟩; have k4 := k3.trans (e4.mono k3.size); obtain ⟨⟨u4, u5, _, _⟩, u6, u7, _, _⟩ := HP5.out y4 k4)
    | (go_at_call 47; (refine (CF.out y4).mono ?_); rintro e y5 ⟨rfl, e5⟩; have k5 := (k4.trans ((below_alloc y4 (.cells #[.int .u32 0] 61)).mono k4.size)).trans (e5.mono (Nat.le_trans k4.size (below_alloc y4 (.cells #[.int .u32 0] 61)).size)); obtain ⟨⟨v0, v1, _, _⟩, v2, v3, _, _⟩ := HP5.out y5 k5)
    | (go_at_call 41; (with_reducible refine (C5.out y5).mono ?_); rintro e y6 ⟨b6, d6, rfl, p6, e6⟩; have k6 := k5.trans (e6.mono k5.size); obtain ⟨⟨v4, v5, _, _⟩, v6, v7, _, _⟩ := HP5.out y6 k6)
    | (go_at_call 36; (with_reducible refine (CS.out y6 b6 d6 p6.rd).mono ?_); rintro e y7 ⟨rfl, e7⟩; have k7 := k6.trans (e7.mono k6.size); obtain ⟨⟨x0, x1, _, _⟩, x2, x3, _, _⟩ := HP5.out y7 k7))
  all_goals
    go_wp2
    go_ret
    exact ⟨rfl, H5.out.1.trans (k7.mono H5.out.1.size)⟩
end Go.Proofs.YtbcaigpdckencaaDoor
