/- The walk of NatRoots. -/
import Derived.Test.YtjejpccjdlmfnaaDoorWri
namespace Go.Proofs.YtjejpccjdlmfnaaDoor
open Go.RowKit Num

theorem cmp_le {a b : Nat} (h : a ≤ b) : cmpN a b ≤ 0 := by unfold cmpN; split <;> (try split) <;> omega
theorem root_le {n a r : Nat} (h : isRoot n a r) (hn : 1 ≤ n) : r ≤ a := Nat.le_trans (by
  cases r with
  | zero => exact Nat.zero_le _
  | succ r => exact Nat.le_trans (by simp) (Nat.pow_le_pow_right (by omega) hn : (r + 1) ^ 1 ≤ (r + 1) ^ n)) h.1
set_option maxRecDepth 100000 in
set_option maxHeartbeats 1600000 in
theorem walkNatRoots (aa : Option Addr) (ca : Nat) (xs : List Nat) (k : Int) (w : World) (ha : Rd w aa ca xs) (hkw : (Lit.int .u8 k).wf = true) :
    Calls Tryd.prog 9 #[.slice aa xs.length ca, .int .u8 k] w (RetB (.bool true) w) := by
  have hla := ha.le
  have hla2 := ha.cm
  by_cases hx0 : xs.length ≤ 10
  case neg =>
    have hd0 := digits_any aa xs.length ca false w (by omega) (by simp; omega)
    have hk := awake_any w
    clear ha hkw
    go_enter Tryd.func9, Tryd.ntmps9
    go_wp2_with fail
    refine hd0.mono ?_
    rintro e w' ⟨rfl, rfl⟩
    go_wp2_with fail
    refine hk.mono ?_
    rintro e w' ⟨rfl, hbel⟩
    go_wp2
    go_ret
    exact ⟨rfl, hbel⟩
  have hd0 := digits_any aa xs.length ca true w (by omega) (by simp; omega)
  have hkb : 0 ≤ k ∧ k < 256 := by
    have e1 : IntKind.u8.min = 0 := rfl
    have e2 : IntKind.u8.max = 255 := rfl
    simp only [Lit.wf, Bool.and_eq_true, decide_eq_true_eq] at hkw
    rw [e1, e2] at hkw
    omega
  obtain ⟨m, rfl⟩ : ∃ m : Nat, k = m := ⟨k.toNat, by omega⟩
  have hm : m < 256 := by omega
  obtain ⟨n, hn⟩ : ∃ n : Nat, n = 1 + m % 64 := ⟨_, rfl⟩
  have hn1 : 1 ≤ n := by omega
  have hn2 : n ≤ 64 := by omega
  have hni : 1 + (m : Int) % 64 = (n : Int) := by omega
  have lx : (nd (val xs)).length ≤ 10 := Nat.le_trans (nd_length_le_of ha.dg) hx0
  clear hkw hkb hn
  go_enter Tryd.func9, Tryd.ntmps9
  go_wp2_with fail
  refine hd0.mono ?_
  rintro e w' ⟨rfl, rfl⟩
  clear hd0
  go_wp2_with fail
  have hroot := Root_any aa ca n xs w ha (by omega) hn1 hn2
  clear hni
  refine hroot.mono ?_
  rintro e w1 ⟨r, ar, cr, hr, rfl, hr1, hb1⟩
  have hle := root_le hr hn1
  have HR := hid hr
  clear hroot hr
  have lr : (nd r).length ≤ 10 := Nat.le_trans (nd_length_mono hle) lx
  have hp := pow_any ar cr n (nd r) w1 hr1.rd (by omega) hn2
  rw [val_nd] at hp
  go_wp2_with fail
  refine hp.mono ?_
  rintro e w2 ⟨ap, cp, rfl, hp2, hb2⟩
  have hb02 := hb1.trans (hb2.mono hb1.size)
  have hr2 := hr1.below hb2
  clear hp hr1 hb1 hb2
  go_wp2_with fail
  have o3 : Own w2.heap.size (w2.alloc (.cells #[.int .u32 1] 43)) (some ⟨w2.heap.size, 0, none⟩) 1 [1] := Own.one w2 w2.heap.size 1 (Nat.le_refl _) (by omega)
  have hba := below_alloc w2 (.cells #[.int .u32 1] 43)
  have hb03 := hb02.trans (hba.mono hb02.size)
  have hr3 := hr2.below hba
  have hp3 := hp2.below hba
  generalize w2.alloc (.cells #[.int .u32 1] 43) = w3 at o3 hb03 hr3 hp3 ⊢
  clear hba hb02 hr2 hp2
  have l1 : (nd 1).length ≤ 1 := nd_length_le (by omega)
  have l2 := len_add lr l1
  have hadd := add_any ar _ cr 1 (nd r) [1] w3 hr3.rd o3.rd (by omega) (by simp)
  rw [val_nd, show val [1] = 1 from by simp [val]] at hadd
  refine hadd.mono ?_
  rintro e w4 ⟨as_, cs, rfl, hs4, hb4⟩
  have hb04 := hb03.trans (hb4.mono hb03.size)
  have hp4 := hp3.below hb4
  clear hadd o3 hb03 hr3 hp3 hb4
  have hpp := pow_any as_ cs n (nd (r + 1)) w4 hs4.rd (by omega) hn2
  rw [val_nd] at hpp
  go_wp2_with fail
  refine hpp.mono ?_
  rintro e w5 ⟨aq, cq, rfl, hq5, hb5⟩
  have hb05 := hb04.trans (hb5.mono hb04.size)
  have hp5 := hp4.below hb5
  clear hpp hs4 hb04 hp4 hb5
  go_wp2_with fail
  refine (awake_any w5).mono ?_
  rintro e w6 ⟨rfl, hb6⟩
  have hb06 := hb05.trans (hb6.mono hb05.size)
  have hp6 := hp5.below hb6
  have hq6 := hq5.below hb6
  clear hb05 hb6 hp5 hq5
  have hc := compare_any ap aa cp ca (nd (r ^ n)) xs w6 hp6.rd (ha.below hb06)
  rw [val_nd] at hc
  obtain ⟨v, hv⟩ : ∃ v, v = cmpN (r ^ n) (val xs) := ⟨_, rfl⟩
  have hv0 : v ≤ 0 := by rw [hv]; exact cmp_le HR.out.1
  rw [← hv] at hc
  clear hv
  go_wp2_with fail
  refine hc.mono ?_
  rintro e w' ⟨rfl, q6, rfl⟩
  have hb07 := hb06.trans ((below_drewN w6 q6).mono hb06.size)
  have hq7 := hq6.drewN q6
  generalize w6.drewN q6 = w7 at hb07 hq7 ⊢
  clear hc hb06 hp6 hq6
  have hc := compare_any aa aq ca cq xs (nd ((r + 1) ^ n)) w7 (ha.below hb07) hq7.rd
  rw [val_nd] at hc
  obtain ⟨u, hu⟩ : ∃ u, u = cmpN (val xs) ((r + 1) ^ n) := ⟨_, rfl⟩
  have hu0 : u < 0 := by rw [hu, cmpN_neg]; exact HR.out.2
  rw [← hu] at hc
  clear hu
  go_wp2_with fail
  refine hc.mono ?_
  rintro e w' ⟨rfl, q7, rfl⟩
  have hb08 := hb07.trans ((below_drewN w7 q7).mono hb07.size)
  clear hc hb07 hq7
  go_wp2
  go_ret
  exact ⟨rfl, hb08⟩
end Go.Proofs.YtjejpccjdlmfnaaDoor
