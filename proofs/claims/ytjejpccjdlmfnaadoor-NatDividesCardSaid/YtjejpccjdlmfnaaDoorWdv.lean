/- The walk of NatDivides. -/
import Derived.Test.YtjejpccjdlmfnaaDoorAwk
namespace Go.Proofs.YtjejpccjdlmfnaaDoor
open Go.RowKit Num

set_option maxRecDepth 100000 in
set_option maxHeartbeats 1600000 in
theorem walkNatDivides (aa : Option Addr) (ca : Nat) (xs : List Nat) (ab : Option Addr) (cb : Nat) (ys : List Nat) (w : World) (ha : Rd w aa ca xs) (hb : Rd w ab cb ys) :
    Calls Tryd.prog 7 #[.slice aa xs.length ca, .slice ab ys.length cb] w (RetB (.bool true) w) := by
  have hla := ha.le
  have hla2 := ha.cm
  have hlb := hb.le
  have hlb2 := hb.cm
  by_cases hx : xs.length ≤ 10
  case neg =>
    have hd := digits_any aa xs.length ca false w (by omega) (by simp; omega)
    have hk := awake_any w
    clear ha hb
    go_enter Tryd.func7, Tryd.ntmps7
    go_wp2_with fail
    refine hd.mono ?_
    rintro e w' ⟨rfl, rfl⟩
    go_wp2_with fail
    refine hk.mono ?_
    rintro e w' ⟨rfl, hbel⟩
    go_wp2
    go_ret
    exact ⟨rfl, hbel⟩
  by_cases hy : ys.length ≤ 10
  case neg =>
    have hd := digits_any aa xs.length ca true w (by omega) (by simp; omega)
    have hd2 := digits_any ab ys.length cb false w (by omega) (by simp; omega)
    have hk := awake_any w
    clear ha hb
    go_enter Tryd.func7, Tryd.ntmps7
    go_wp2_with fail
    refine hd.mono ?_
    rintro e w' ⟨rfl, rfl⟩
    go_wp2_with fail
    refine hd2.mono ?_
    rintro e w' ⟨rfl, rfl⟩
    go_wp2_with fail
    refine hk.mono ?_
    rintro e w' ⟨rfl, hbel⟩
    go_wp2
    go_ret
    exact ⟨rfl, hbel⟩
  have hd := digits_any aa xs.length ca true w (by omega) (by simp; omega)
  have hd2 := digits_any ab ys.length cb true w (by omega) (by simp; omega)
  by_cases h0 : val ys = 0
  · have hq := divmod_zero aa ab ca cb xs ys w ha hb h0
    have hn : nd (val ys) = [] := by rw [h0, nd_zero]
    have H := hid hn
    clear hn h0 ha
    go_enter Tryd.func7, Tryd.ntmps7
    go_wp2_with fail
    refine hd.mono ?_
    rintro e w' ⟨rfl, rfl⟩
    go_wp2_with fail
    refine hd2.mono ?_
    rintro e w' ⟨rfl, rfl⟩
    go_wp2_with fail
    refine hq.mono ?_
    rintro e w1 ⟨ax, cx, ay, cy, rfl, hx1, hy1, hb1⟩
    clear hq hd hd2
    go_wp2_with fail
    refine (awake_any w1).mono ?_
    rintro e w2 ⟨rfl, hb2⟩
    have hb02 : Below w.heap.size w w2 := hb1.trans (hb2.mono hb1.size)
    have ht := rtrim_any ab cb ys w2 (hb.below hb02) (by omega)
    rw [H.out] at ht
    go_wp2_with fail
    refine ht.mono ?_
    rintro e w3 ⟨at_, ct, rfl, ht3, hb3⟩
    have hb03 : Below w.heap.size w w3 := hb02.trans (hb3.mono hb02.size)
    clear ht hb02 hb3
    go_wp2
    go_ret
    exact ⟨rfl, hb03⟩
  · have hdm := divmod_any aa ab ca cb xs ys w ha hb h0 (by omega)
    have HZ := hid h0
    clear h0
    go_enter Tryd.func7, Tryd.ntmps7
    go_wp2_with fail
    refine hd.mono ?_
    rintro e w' ⟨rfl, rfl⟩
    go_wp2_with fail
    refine hd2.mono ?_
    rintro e w' ⟨rfl, rfl⟩
    go_wp2_with fail
    refine hdm.mono ?_
    rintro e w1 ⟨aq, cq, ar, cr, rfl, hq1, hr1, hb1⟩
    clear hdm hd hd2
    go_wp2_with fail
    have hlq : (nd (val xs / val ys)).length ≤ xs.length := nd_length_le (Nat.lt_of_le_of_lt (Nat.div_le_self _ _) (val_lt ha.dg))
    have hm := mul_any aa ab ca cb xs ys w1 (ha.below hb1) (hb.below hb1) (by omega) (by omega)
    refine hm.mono ?_
    rintro e w2 ⟨am, cm, rfl, hm2, hb2⟩
    have hb02 := hb1.trans (hb2.mono hb1.size)
    have hq2 := hq1.below hb2
    have hr2 := hr1.below hb2
    have hlm : (nd (val xs * val ys)).length ≤ xs.length + ys.length := nd_length_mul (val_lt ha.dg) (val_lt hb.dg)
    have hdm := divmod_any am ab cm cb (nd (val xs * val ys)) ys w2 hm2.rd (hb.below hb02) HZ.out (by omega)
    rw [val_nd, Nat.mul_div_cancel _ (Nat.pos_of_ne_zero HZ.out), Nat.mul_mod_left, nd_zero] at hdm
    clear hm hq1 hr1 hb1 hb2
    go_wp2_with fail
    refine hdm.mono ?_
    rintro e w3 ⟨ak, ck, an, cn, rfl, hk3, hn3, hb3⟩
    have hb03 := hb02.trans (hb3.mono hb02.size)
    have hq3 := hq2.below hb3
    have hr3 := hr2.below hb3
    clear hdm hb02 hb3 hq2 hr2 hm2
    go_wp2_with fail
    refine (awake_any w3).mono ?_
    rintro e w4 ⟨rfl, hb4⟩
    have hb04 := hb03.trans (hb4.mono hb03.size)
    have hq4 := hq3.below hb4
    have hr4 := hr3.below hb4
    have hk4 := hk3.below hb4
    clear hb03 hb4 hq3 hr3 hk3 hn3
    have ht := rtrim_any ab cb ys w4 (hb.below hb04) (by omega)
    go_wp2_with fail
    refine ht.mono ?_
    rintro e w5 ⟨at_, ct, rfl, ht5, hb5⟩
    have hb05 := hb04.trans (hb5.mono hb04.size)
    have hq5 := hq4.below hb5
    have hr5 := hr4.below hb5
    have hk5 := hk4.below hb5
    have hpos : decide (((nd (val ys)).length : Int) > 0) = true := by
      have : nd (val ys) ≠ [] := fun h => HZ.out (by have := val_nd (val ys); rw [h] at this; simpa [val] using this.symm)
      have := List.length_pos_iff.2 this
      simp; omega
    have hpos2 : (0 : Int) < ((nd (val ys)).length : Int) := by simpa using hpos
    clear hpos ht hb04 hb5 hq4 hr4 hk4 ht5
    go_wp2_with fail
    have hlt : val xs % val ys < val ys := Nat.mod_lt _ (Nat.pos_of_ne_zero HZ.out)
    have hc := compare_any ar ab cr cb (nd (val xs % val ys)) ys w5 hr5.rd (hb.below hb05)
    rw [val_nd] at hc
    obtain ⟨v, hv⟩ : ∃ v, v = cmpN (val xs % val ys) (val ys) := ⟨_, rfl⟩
    have hv0 : v < 0 := by rw [hv, cmpN_neg]; exact hlt
    rw [← hv] at hc
    clear hv hlt
    refine hc.mono ?_
    rintro e w' ⟨rfl, q5, rfl⟩
    have hb06 := hb05.trans ((below_drewN w5 q5).mono hb05.size)
    have hq6 := hq5.drewN q5
    have hr6 := hr5.drewN q5
    have hk6 := hk5.drewN q5
    generalize w5.drewN q5 = w6 at hb06 hq6 hr6 hk6 ⊢
    clear hc hb05 hq5 hr5 hk5
    have hm := mul_any aq ab cq cb (nd (val xs / val ys)) ys w6 hq6.rd (hb.below hb06) (by omega) (by omega)
    rw [val_nd] at hm
    have hlb2 : (nd (val xs / val ys * val ys)).length ≤ xs.length := nd_length_le (Nat.lt_of_le_of_lt (Nat.div_mul_le_self _ _) (val_lt ha.dg))
    have hlr : (nd (val xs % val ys)).length ≤ xs.length := nd_length_le (Nat.lt_of_le_of_lt (Nat.mod_le _ _) (val_lt ha.dg))
    go_wp2_with fail
    refine hm.mono ?_
    rintro e w7 ⟨am, cm, rfl, hm7, hb7⟩
    have hb07 := hb06.trans (hb7.mono hb06.size)
    have hr7 := hr6.below hb7
    have hk7 := hk6.below hb7
    clear hm hb06 hb7 hq6 hr6 hk6
    have hadd := add_any am ar cm cr (nd (val xs / val ys * val ys)) (nd (val xs % val ys)) w7 hm7.rd hr7.rd (by omega) (by omega)
    rw [val_nd, val_nd, Nat.div_add_mod'] at hadd
    go_wp2_with fail
    refine hadd.mono ?_
    rintro e w8 ⟨as_, cs, rfl, hs8, hb8⟩
    have hb08 := hb07.trans (hb8.mono hb07.size)
    have hk8 := hk7.below hb8
    clear hadd hb07 hb8 hr7 hk7 hm7
    have ht := rtrim_any aa ca xs w8 (ha.below hb08) (by omega)
    go_wp2_with fail
    refine ht.mono ?_
    rintro e w9 ⟨at9, ct9, rfl, ht9, hb9⟩
    have hb09 := hb08.trans (hb9.mono hb08.size)
    have hk9 := hk8.below hb9
    have hs9 := hs8.below hb9
    clear ht hb08 hb9 hs8 hk8
    have hsame := same_any as_ at9 cs ct9 (nd (val xs)) (nd (val xs)) true w9 hs9.rd ht9.rd (by simp)
    go_wp2_with fail
    refine hsame.mono ?_
    rintro e w' ⟨rfl, q9, rfl⟩
    have hb10 := hb09.trans ((below_drewN w9 q9).mono hb09.size)
    have hk10 := hk9.drewN q9
    generalize w9.drewN q9 = w10 at hb10 hk10 ⊢
    clear hsame hb09 hk9 hs9 ht9
    have ht := rtrim_any aa ca xs w10 (ha.below hb10) (by omega)
    go_wp2_with fail
    refine ht.mono ?_
    rintro e w11 ⟨at11, ct11, rfl, ht11, hb11⟩
    have hb011 := hb10.trans (hb11.mono hb10.size)
    have hk11 := hk10.below hb11
    clear ht hb10 hb11 hk10
    have hsame := same_any ak at11 ck ct11 (nd (val xs)) (nd (val xs)) true w11 hk11.rd ht11.rd (by simp)
    go_wp2_with fail
    refine hsame.mono ?_
    rintro e w' ⟨rfl, q11, rfl⟩
    have hb12 := hb011.trans ((below_drewN w11 q11).mono hb011.size)
    clear hsame hb011 hk11 ht11
    go_wp2
    go_ret
    exact ⟨rfl, hb12⟩
end Go.Proofs.YtjejpccjdlmfnaaDoor
