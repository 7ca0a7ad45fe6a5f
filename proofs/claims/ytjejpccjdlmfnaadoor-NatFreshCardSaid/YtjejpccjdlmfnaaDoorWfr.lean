/- The walk of NatFresh. -/
import Derived.Test.YtjejpccjdlmfnaaDoorWri
namespace Go.Proofs.YtjejpccjdlmfnaaDoor
open Go.RowKit Num

set_option maxRecDepth 100000 in
set_option maxHeartbeats 3200000 in
theorem walkNatFresh (aa : Option Addr) (ca : Nat) (xs : List Nat) (ab : Option Addr) (cb : Nat) (ys : List Nat) (w : World) (ha : Rd w aa ca xs) (hb : Rd w ab cb ys) :
    Calls Tryd.prog 10 #[.slice aa xs.length ca, .slice ab ys.length cb] w (RetB (.bool true) w) := by
  have hla := ha.le
  have hla2 := ha.cm
  have hlb := hb.le
  have hlb2 := hb.cm
  by_cases hx0 : xs.length ≤ 10
  case neg =>
    have hd0 := digits_any aa xs.length ca false w (by omega) (by simp; omega)
    have hk := awake_any w
    clear ha hb
    go_enter Tryd.func10, Tryd.ntmps10
    go_wp2_with fail
    refine hd0.mono ?_
    rintro e w' ⟨rfl, rfl⟩
    go_wp2_with fail
    refine hk.mono ?_
    rintro e w' ⟨rfl, hbel⟩
    go_wp2
    go_ret
    exact ⟨rfl, hbel⟩
  by_cases hx1 : ys.length ≤ 10
  case neg =>
    have hd0 := digits_any aa xs.length ca true w (by omega) (by simp; omega)
    have hd1 := digits_any ab ys.length cb false w (by omega) (by simp; omega)
    have hk := awake_any w
    clear ha hb
    go_enter Tryd.func10, Tryd.ntmps10
    go_wp2_with fail
    refine hd0.mono ?_
    rintro e w' ⟨rfl, rfl⟩
    go_wp2_with fail
    refine hd1.mono ?_
    rintro e w' ⟨rfl, rfl⟩
    go_wp2_with fail
    refine hk.mono ?_
    rintro e w' ⟨rfl, hbel⟩
    go_wp2
    go_ret
    exact ⟨rfl, hbel⟩
  have hd0 := digits_any aa xs.length ca true w (by omega) (by simp; omega)
  have hd1 := digits_any ab ys.length cb true w (by omega) (by simp; omega)
  have lx : (nd (val xs)).length ≤ 10 := Nat.le_trans (nd_length_le_of ha.dg) hx0
  have ly : (nd (val ys)).length ≤ 10 := Nat.le_trans (nd_length_le_of hb.dg) hx1
  have l1 := len_add lx ly
  have l2 := len_mul l1 ly
  go_enter Tryd.func10, Tryd.ntmps10
  go_wp2_with fail
  refine hd0.mono ?_
  rintro e w' ⟨rfl, rfl⟩
  go_wp2_with fail
  refine hd1.mono ?_
  rintro e w' ⟨rfl, rfl⟩
  clear hd0 hd1
  have bx : 0 + xs.length ≤ 35184372088832 := by omega
  have by_ : 0 + ys.length ≤ 35184372088832 := by omega
  go_wp2_with (at_builtin; first
    | (refine wp_append w rfl _ _ rfl w.heap.size none aa 0 xs.length 0 ca [] xs rfl rfl rfl rfl (Own.nil _ _) ha bx (Nat.le_refl _) ?_; intro a5 c5 w1 ho1 hb1; rw [List.nil_append] at ho1)
    | (refine wp_append w1 rfl _ _ rfl w1.heap.size none ab 0 ys.length 0 cb [] ys rfl rfl rfl rfl (Own.nil _ _) (hb.below hb1) by_ (Nat.le_refl _) ?_; intro a6 c6 w2 ho2 hb2; rw [List.nil_append] at ho2))
  have hb02 := hb1.trans (hb2.mono hb1.size)
  have hx2 := ho1.below hb2
  clear ho1 hb1 hb2
  go_wp2_with fail
  have hc3 := add_any aa ab ca cb xs ys w2 (ha.below hb02) (hb.below hb02) (by omega) (by omega)
  refine hc3.mono ?_
  rintro e w3 ⟨as_, cs, rfl, hs3, hb3⟩
  have hb03 := hb02.trans (hb3.mono hb02.size)
  have hx3 := hx2.below hb3
  have hy3 := ho2.below hb3
  clear hc3 hb3 hx2 ho2 hb02
  have bs : 0 + (nd (val xs + val ys)).length ≤ 35184372088832 := by omega
  go_wp2_with (at_builtin; refine wp_append w3 rfl _ _ rfl w3.heap.size none as_ 0 (nd (val xs + val ys)).length 0 cs [] (nd (val xs + val ys)) rfl rfl rfl rfl (Own.nil _ _) hs3.rd bs (Nat.le_refl _) ?_; intro a8 c8 w4 hk4 hb4; rw [List.nil_append] at hk4)
  have hb04 := hb03.trans (hb4.mono hb03.size)
  have hx4 := hx3.below hb4
  have hy4 := hy3.below hb4
  have hs4 := hs3.below hb4
  clear hb4 hx3 hy3 hs3 hb03
  go_wp2_with fail
  have hc5 := trim_any aa ca xs w4 (ha.below hb04) (by omega)
  refine hc5.mono ?_
  rintro e w5 ⟨at_, ct, rfl, ht5, hb5⟩
  clear hc5
  obtain ⟨zs, hzs⟩ : ∃ zs, zs = nd (val xs) := ⟨_, rfl⟩
  have lz : zs.length ≤ 10 := by rw [hzs]; exact lx
  rw [← hzs] at ht5 ⊢
  clear hzs lx ly
  go_wp2_with fail
  go_loopw [35] (fun iv wr => ∃ k : Nat, ∃ us : List Nat, k ≤ zs.length ∧ iv = .int .i64 (k : Int) ∧ Hid (us.length = zs.length) ∧ Own w4.heap.size wr at_ ct us ∧ Below w4.heap.size w4 wr) (fun iv _ => zs.length - (intOf iv).toNat)
  case atStart => exact ⟨0, zs, Nat.zero_le _, rfl, rfl, ht5, hb5⟩
  case round =>
    obtain ⟨k, us, hk, rfl, HL, hown, hbel⟩ := hrel
    by_cases hlt : k < zs.length
    · have hku : k < us.length := by have := HL.out; omega
      rcases hown.cases with ⟨_, _, h3⟩ | ⟨g, cur, rfl, hg, _⟩
      · rw [h3] at hku; simp at hku
      have hcell := hown.cell k hku
      have hfr := hown.frozen k
      obtain ⟨x, hx⟩ : ∃ x, x = us.getD k 0 := ⟨_, rfl⟩
      rw [← hx] at hcell
      have hl1 : (k : Int) < (zs.length : Int) := by omega
      have HOWN := hid hown
      clear hown hx
      go_wp2
      refine ⟨⟨k + 1, us.set k ((x + 1) % 4294967296), by omega, by simp, ?_, HOWN.out.set k _ _ (by omega) (Nat.mod_lt _ (by omega)) hku, Below.setCell hbel hg _⟩, by simp [intOf]; omega⟩
      show _ = _
      rw [List.length_set]; exact HL.out
    · have hke : ¬ ((k : Int) < (zs.length : Int)) := by omega
      clear hown
      have hb06 := hb04.trans (hbel.mono hb04.size)
      have hx6 := hx4.below hbel
      have hy6 := hy4.below hbel
      have hs6 := hs4.below hbel
      have hk6 := hk4.below hbel
      clear hbel hb04 hx4 hy4 hs4 hk4 hb5
      have hc := mul_any as_ ab cs cb (nd (val xs + val ys)) ys wr hs6.rd (hb.below hb06) (by omega) (by omega)
      rw [val_nd] at hc
      go_wp2_with fail
      refine hc.mono ?_
      rintro e w7 ⟨am, cm, rfl, hm7, hb7⟩
      clear hc
      obtain ⟨zt, hzt⟩ : ∃ zt, zt = nd ((val xs + val ys) * val ys) := ⟨_, rfl⟩
      have lt : zt.length ≤ 31 := by rw [hzt]; exact l2
      rw [← hzt] at hm7 ⊢
      clear hzt l2 hke hlt
      have hB7 := hb7.size
      go_wp2_with fail
      go_loopw [50] (fun iv w8 => ∃ k : Nat, ∃ us : List Nat, k ≤ zt.length ∧ iv = .int .i64 (k : Int) ∧ Hid (us.length = zt.length) ∧ Own wr.heap.size w8 am cm us ∧ Below wr.heap.size wr w8) (fun iv _ => zt.length - (intOf iv).toNat)
      case atStart => exact ⟨0, zt, Nat.zero_le _, rfl, rfl, hm7, hb7⟩
      case round =>
        obtain ⟨k, us, hk, rfl, HL, hown, hbel⟩ := hrel
        by_cases hlt : k < zt.length
        · have hku : k < us.length := by have := HL.out; omega
          rcases hown.cases with ⟨_, _, h3⟩ | ⟨g, cur, rfl, hg, _⟩
          · rw [h3] at hku; simp at hku
          have hcell := hown.cell k hku
          have hfr := hown.frozen k
          obtain ⟨x, hx⟩ : ∃ x, x = us.getD k 0 := ⟨_, rfl⟩
          rw [← hx] at hcell
          have hl1 : (k : Int) < (zt.length : Int) := by omega
          have HOWN := hid hown
          clear hown hx
          go_wp2
          refine ⟨⟨k + 1, us.set k ((x + 1) % 4294967296), by omega, by simp, ?_, HOWN.out.set k _ _ (by omega) (Nat.mod_lt _ (by omega)) hku, Below.setCell hbel hg _⟩, by simp [intOf]; omega⟩
          show _ = _
          rw [List.length_set]; exact HL.out
        · have hke : ¬ ((k : Int) < (zt.length : Int)) := by omega
          have hb08 := hb06.trans (hbel.mono hb06.size)
          have hx8 := hx6.below hbel
          have hy8 := hy6.below hbel
          have hs8 := hs6.below hbel
          have hk8 := hk6.below hbel
          clear hown hbel hb06 hx6 hy6 hs6 hk6 hb7 hm7 hB7
          go_wp2_with fail
          refine (awake_any _).mono ?_
          rintro e w9 ⟨rfl, hb9⟩
          have hb09 := hb08.trans (hb9.mono hb08.size)
          have hx9 := hx8.below hb9
          have hy9 := hy8.below hb9
          have hs9 := hs8.below hb9
          have hk9 := hk8.below hb9
          clear hb9 hb08 hx8 hy8 hs8 hk8
          have hc := same_any aa a5 ca c5 xs xs true w9 (ha.below hb09) hx9.rd ⟨fun _ => rfl, fun _ => rfl⟩
          go_wp2_with fail
          refine hc.mono ?_
          rintro e w' ⟨rfl, q9, rfl⟩
          have hb10 := hb09.trans ((below_drewN w9 q9).mono hb09.size)
          have hy10 := hy9.drewN q9
          have hs10 := hs9.drewN q9
          have hk10 := hk9.drewN q9
          generalize w9.drewN q9 = w10 at hb10 hy10 hs10 hk10 ⊢
          clear hc hb09 hx9 hy9 hs9 hk9
          have hc := same_any ab a6 cb c6 ys ys true w10 (hb.below hb10) hy10.rd ⟨fun _ => rfl, fun _ => rfl⟩
          go_wp2_with fail
          refine hc.mono ?_
          rintro e w' ⟨rfl, q10, rfl⟩
          have hb11 := hb10.trans ((below_drewN w10 q10).mono hb10.size)
          have hs11 := hs10.drewN q10
          have hk11 := hk10.drewN q10
          generalize w10.drewN q10 = w11 at hb11 hs11 hk11 ⊢
          clear hc hb10 hy10 hs10 hk10
          have hc := same_any as_ a8 cs c8 (nd (val xs + val ys)) (nd (val xs + val ys)) true w11 hs11.rd hk11.rd ⟨fun _ => rfl, fun _ => rfl⟩
          go_wp2_with fail
          refine hc.mono ?_
          rintro e w' ⟨rfl, q11, rfl⟩
          have hb12 := hb11.trans ((below_drewN w11 q11).mono hb11.size)
          clear hc hb11 hs11 hk11
          go_wp2
          go_ret
          exact ⟨rfl, hb12⟩
end Go.Proofs.YtjejpccjdlmfnaaDoor
