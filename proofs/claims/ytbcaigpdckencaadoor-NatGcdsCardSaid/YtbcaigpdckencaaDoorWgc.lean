/- The walk of NatGcds. -/
import Derived.Test.YtbcaigpdckencaaDoorGc5
import Derived.Test.YtbcaigpdckencaaDoorLen
import Derived.Test.YtbcaigpdckencaaDoorAwk
namespace Go.Proofs.YtbcaigpdckencaaDoor
open Go.RowKit Num

theorem gcd_grows (x y z : Nat) : Nat.gcd (x * z) (y * z) = Nat.gcd x y * z := Nat.gcd_mul_right x z y
set_option maxRecDepth 100000 in
set_option maxHeartbeats 3200000 in
theorem walkNatGcds (aa : Option Addr) (ca : Nat) (xs : List Nat) (ab : Option Addr) (cb : Nat) (ys : List Nat) (ac : Option Addr) (cc : Nat) (zs : List Nat) (w : World)
    (ha : Rd w aa ca xs) (hb : Rd w ab cb ys) (hc : Rd w ac cc zs) (hT : Tb w) :
    Calls Tryd.prog 5 #[.slice aa xs.length ca, .slice ab ys.length cb, .slice ac zs.length cc] w (RetB (.bool true) w) := by
  have hla := ha.le
  have hla2 := ha.cm
  have hlb := hb.le
  have hlb2 := hb.cm
  have hlc := hc.le
  have hlc2 := hc.cm
  by_cases hx0 : xs.length ≤ 5
  case neg =>
    have hk := awake_any w
    have hi0 : (5 : Int) < (xs.length : Int) := by omega
    clear ha hb hc hT
    go_enter Tryd.func5, Tryd.ntmps5
    go_wp2_with fail
    refine hk.mono ?_
    rintro e w' ⟨rfl, hbel⟩
    go_wp2
    go_ret
    exact ⟨rfl, hbel⟩
  by_cases hx1 : ys.length ≤ 5
  case neg =>
    have hk := awake_any w
    have hi0 : ¬ ((5 : Int) < (xs.length : Int)) := by omega
    have hi1 : (5 : Int) < (ys.length : Int) := by omega
    clear ha hb hc hT
    go_enter Tryd.func5, Tryd.ntmps5
    go_wp2_with fail
    refine hk.mono ?_
    rintro e w' ⟨rfl, hbel⟩
    go_wp2
    go_ret
    exact ⟨rfl, hbel⟩
  by_cases hx2 : zs.length ≤ 5
  case neg =>
    have hk := awake_any w
    have hi0 : ¬ ((5 : Int) < (xs.length : Int)) := by omega
    have hi1 : ¬ ((5 : Int) < (ys.length : Int)) := by omega
    have hi2 : (5 : Int) < (zs.length : Int) := by omega
    clear ha hb hc hT
    go_enter Tryd.func5, Tryd.ntmps5
    go_wp2_with fail
    refine hk.mono ?_
    rintro e w' ⟨rfl, hbel⟩
    go_wp2
    go_ret
    exact ⟨rfl, hbel⟩
  have hi0 : ¬ ((5 : Int) < (xs.length : Int)) := by omega
  have hi1 : ¬ ((5 : Int) < (ys.length : Int)) := by omega
  have hi2 : ¬ ((5 : Int) < (zs.length : Int)) := by omega
  have lx : (nd (val xs)).length ≤ 10 := Nat.le_trans (nd_length_le_of ha.dg) (by omega)
  have ly : (nd (val ys)).length ≤ 10 := Nat.le_trans (nd_length_le_of hb.dg) (by omega)
  have lz : (nd (val zs)).length ≤ 10 := Nat.le_trans (nd_length_le_of hc.dg) (by omega)
  have hg := gcd_any aa ab ca cb xs ys w ha hb (by omega) (by omega) hT
  obtain ⟨G, hG⟩ : ∃ G, G = Nat.gcd (val xs) (val ys) := ⟨_, rfl⟩
  rw [← hG] at hg
  have lg : (nd G).length ≤ 11 := by
    rw [hG]
    by_cases h0 : val xs = 0
    · rw [h0, Nat.gcd_zero_left]; omega
    · exact Nat.le_trans (nd_length_mono (Nat.gcd_le_left _ (Nat.pos_of_ne_zero h0))) (by omega)
  have HG := hid hG
  have HR := hid (And.intro ha (And.intro hb (And.intro hc hT)))
  have l1 := len_mul lx lz
  have l2 := len_mul ly lz
  have l3 := len_mul lg lz
  clear hG ha hb hc hT
  by_cases h0 : G = 0
  · subst h0
    have e0 := HG.out.symm
    have ex : val xs = 0 := Nat.eq_zero_of_gcd_eq_zero_left e0
    have ey : val ys = 0 := Nat.eq_zero_of_gcd_eq_zero_right e0
    have HE := hid (show nd (val xs) = [] ∧ nd (val ys) = [] from ⟨by rw [ex, nd_zero], by rw [ey, nd_zero]⟩)
    rw [nd_zero] at hg
    clear e0 ex ey
    go_enter Tryd.func5, Tryd.ntmps5
    go_wp2_with fail
    refine hg.mono ?_
    rintro e w1 ⟨ag, cg, rfl, og, b1⟩
    go_wp2_with fail
    refine (awake_any w1).mono ?_
    rintro e w2 ⟨rfl, b2⟩
    have b02 := b1.trans (b2.mono b1.size)
    have ht := rtrim_any aa ca xs w2 (HR.out.1.below b02) (by omega)
    rw [HE.out.1] at ht
    go_wp2_with fail
    refine ht.mono ?_
    rintro e w3 ⟨a3, c3, rfl, o3, b3⟩
    have b03 := b02.trans (b3.mono b02.size)
    have ht2 := rtrim_any ab cb ys w3 (HR.out.2.1.below b03) (by omega)
    rw [HE.out.2] at ht2
    go_wp2_with fail
    refine ht2.mono ?_
    rintro e w4 ⟨a4, c4, rfl, o4, b4⟩
    have HB := hid (b03.trans (b4.mono b03.size))
    clear hg og b1 b2 b02 ht o3 b3 b03 ht2 o4 b4
    go_wp2
    go_ret
    exact ⟨rfl, HB.out⟩
  · have hgl : (nd G).length ≠ 0 := fun h => h0 (nd_eq_nil.1 (List.eq_nil_of_length_eq_zero h))
    have hgi : (((nd G).length : Int) == 0) = false := by rw [beq_eq_false_iff_ne]; omega
    have HD := hid (show val xs % G = 0 ∧ val ys % G = 0 ∧ G ≠ 0 from ⟨Nat.mod_eq_zero_of_dvd (by rw [HG.out]; exact Nat.gcd_dvd_left _ _), Nat.mod_eq_zero_of_dvd (by rw [HG.out]; exact Nat.gcd_dvd_right _ _), h0⟩)
    clear h0 hgl
    go_enter Tryd.func5, Tryd.ntmps5
    go_wp2_with fail
    refine hg.mono ?_
    rintro e w1 ⟨ag, cg, rfl, og, b1⟩
    have hd1 := divmod_any aa ag ca cg xs (nd G) w1 (HR.out.1.below b1) og.rd (by rw [val_nd]; exact HD.out.2.2) (by omega)
    rw [val_nd, HD.out.1, nd_zero] at hd1
    go_wp2_with fail
    refine hd1.mono ?_
    rintro e w2 ⟨aq, cq, ar, cr, rfl, oq, or2, b2⟩
    have b02 := b1.trans (b2.mono b1.size)
    have og2 := og.below b2
    have hd2 := divmod_any ab ag cb cg ys (nd G) w2 (HR.out.2.1.below b02) og2.rd (by rw [val_nd]; exact HD.out.2.2) (by omega)
    rw [val_nd, HD.out.2.1, nd_zero] at hd2
    clear hg hd1 oq or2 b1 b2 og
    go_wp2_with fail
    refine hd2.mono ?_
    rintro e w3 ⟨ap, cp, as_, cs, rfl, oq, or2, b3⟩
    have b03 := b02.trans (b3.mono b02.size)
    have og3 := og2.below b3
    clear hd2 oq or2 b02 b3 og2
    go_wp2_with fail
    refine (awake_any w3).mono ?_
    rintro e w4 ⟨rfl, b4⟩
    have b04 := b03.trans (b4.mono b03.size)
    have og4 := og3.below b4
    clear b03 b4 og3
    have hm1 := mul_any aa ac ca cc xs zs w4 (HR.out.1.below b04) (HR.out.2.2.1.below b04) (by omega) (by omega)
    go_wp2_with fail
    refine hm1.mono ?_
    rintro e w5 ⟨a5, c5, rfl, o5, b5⟩
    have b05 := b04.trans (b5.mono b04.size)
    have og5 := og4.below b5
    clear hm1 b04 b5 og4
    have hm2 := mul_any ab ac cb cc ys zs w5 (HR.out.2.1.below b05) (HR.out.2.2.1.below b05) (by omega) (by omega)
    go_wp2_with fail
    refine hm2.mono ?_
    rintro e w6 ⟨a6, c6, rfl, o6, b6⟩
    have b06 := b05.trans (b6.mono b05.size)
    have og6 := og5.below b6
    have o56 := o5.below b6
    clear hm2 b05 b6 og5 o5
    have hg2 := gcd_any a5 a6 c5 c6 (nd (val xs * val zs)) (nd (val ys * val zs)) w6 o56.rd o6.rd (by omega) (by omega) (HR.out.2.2.2.below b06)
    rw [val_nd, val_nd, gcd_grows, ← HG.out] at hg2
    go_wp2_with fail
    refine hg2.mono ?_
    rintro e w7 ⟨a7, c7, rfl, o7, b7⟩
    have b07 := b06.trans (b7.mono b06.size)
    have og7 := og6.below b7
    clear hg2 b06 b7 og6 o56 o6
    have hm3 := mul_any ag ac cg cc (nd G) zs w7 og7.rd (HR.out.2.2.1.below b07) (by omega) (by omega)
    rw [val_nd] at hm3
    go_wp2_with fail
    refine hm3.mono ?_
    rintro e w8 ⟨a8, c8, rfl, o8, b8⟩
    have b08 := b07.trans (b8.mono b07.size)
    have o78 := o7.below b8
    clear hm3 b07 b8 og7 o7
    have hs := same_any a7 a8 c7 c8 (nd (G * val zs)) (nd (G * val zs)) true w8 o78.rd o8.rd ⟨fun _ => rfl, fun _ => rfl⟩
    go_wp2_with fail
    refine hs.mono ?_
    rintro e w' ⟨rfl, qq, rfl⟩
    have HB := hid (b08.trans ((below_drewN w8 qq).mono b08.size))
    clear hs b08 o78 o8
    go_wp2
    go_ret
    exact ⟨rfl, HB.out⟩
end Go.Proofs.YtbcaigpdckencaaDoor
