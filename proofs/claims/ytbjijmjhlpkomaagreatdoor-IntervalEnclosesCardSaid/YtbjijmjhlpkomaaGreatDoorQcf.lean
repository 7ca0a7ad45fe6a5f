/-  -/
import Derived.Test.YtbjijmjhlpkomaaGreatDoorQcd
import Derived.Test.YtbjijmjhlpkomaaGreatDoorQce

set_option linter.unusedVariables false
set_option linter.unusedSimpArgs false
set_option linter.unusedSectionVars false
set_option maxRecDepth 100000
set_option maxHeartbeats 3200000

namespace Go.Proofs.YtbjijmjhlpkomaaGreatDoor
open Go.RowKit Num

theorem r4_sameD {p q r s : Rat} {k m : Nat} {v0 : Value} {v1 : Value} {w : World}  (pf0 : (mP (mC p k) (mC q k)).S w v0) (pf1 : (mP (mC r m) (mC s m)).S w v1) :
   Calls Tryz.prog 30 #[v0, v1] w (RetS (mV (.bool ((true && decide (p = r)) && (true && decide (q = s))))).S w) := by
 obtain ⟨c0, rfl, n0, u0, o0⟩ := (mP.cv (fun _ h => (isC.cv h)) (fun _ h => (isC.cv h)) pf0)
 obtain ⟨c1, rfl, n1, u1, o1⟩ := (mP.cv (fun _ h => (isC.cv h)) (fun _ h => (isC.cv h)) pf1)
 refine calls_abs 17 Tryz.func30 rfl rfl (by simp) ?_
 intro a0 z0 d0 ha
 have s0_0 : sl a0 0 = .agg c0 := ha 0 (by simp)
 have s0_1 : sl a0 1 = .agg c1 := ha 1 (by simp)
 have B0 : Below w.heap.size w w := Below.refl _ _
 refine wp_seq ?_
 refine wp_region_seq 0 (mG []) (by rw [z0]; kernel_rfl) (mG_mono _) (ops_ok trivial) ?_
 intro a1 w2 ms3
 have B4 := B0.trans (ms3.b.mono B0.size)
 have z5 := ms3.sz.trans z0
 have d6 := ms3.df.trans d0
 have s7 := (ms3.fr 0 (out_of (by kernel_rfl))).trans s0_0
 have s8 := (ms3.fr 1 (out_of (by kernel_rfl))).trans s0_1
 refine tl_new rfl rfl (run_box_op rfl (ev s7)) (by rw [z5]; decide) ?_
 intro a9 w10 g11 z12 d13 s14 fr15 hg16 hc17 hb18
 have z19 := z12.trans z5
 have d20 := d13.trans d6
 have s22 := (fr15 1 (by decide)).trans s8
 have B23 := B4.trans (hb18.mono B4.size)
 have lw25 : w.heap.size ≤ g11 := by have := B4.size; omega
 have x24 : bx 44 6 (mP (mC p k) (mC q k)) w10 g11 := ⟨c0, hc17, n0, u0, o0, (mP (mC p k) (mC q k)).mono _ _ _ (Ext.of B23) pf0⟩
 refine tl_new rfl rfl (run_box_op rfl (ev s22)) (by rw [z19]; decide) ?_
 intro a26 w27 g28 z29 d30 s31 fr32 hg33 hc34 hb35
 have z36 := z29.trans z19
 have d37 := d30.trans d20
 have s40 := (fr32 2 (by decide)).trans s14
 have B41 := B23.trans (hb35.mono B23.size)
 have ne43 : g11 ≠ g28 := by have := x24.lt; omega
 have x42 := bx.below hb35 x24
 have lw45 : w.heap.size ≤ g28 := by have := B23.size; omega
 have x44 : bx 44 6 (mP (mC r m) (mC s m)) w27 g28 := ⟨c1, hc34, n1, u1, o1, (mP (mC r m) (mC s m)).mono _ _ _ (Ext.of B41) pf1⟩
 refine tl_set rfl rfl (run_assign rfl) (by rw [z36]; decide) ?_
 intro a46 z47 d48 s49 fr50
 have z52 := z47.trans z36
 have d53 := d48.trans d37
 have s56 := (fr50 2 (by decide)).trans s40
 have s57 := (fr50 3 (by decide)).trans s31
 refine wpList_nil (then_normal ?_)
 refine wp_seq ?_
 refine wp_region_seq 12 (mG [(mV (.pointer (some ⟨g11, 0, none⟩))).b, (mC p k).b, (mV (.pointer (some ⟨g28, 0, none⟩))).b, (mC r m).b, (mV (.bool (true && decide (p = r)))).b, (mV (.bool (true && decide (p = r)))).b, (mIf (true && decide (p = r)) (mV (.pointer (some ⟨g11, 3, none⟩)))).b, (mIf (true && decide (p = r)) (mC q k)).b, (mIf (true && decide (p = r)) (mV (.pointer (some ⟨g28, 3, none⟩)))).b, (mIf (true && decide (p = r)) (mC s m)).b, (mIf (true && decide (p = r)) (mV (.bool (true && decide (q = s))))).b, (mV (.bool ((true && decide (p = r)) && (true && decide (q = s))))).b]) (by rw [z52]; kernel_rfl) (mG_mono _) (ops_ok ⟨?_, ?_, ?_, ?_, ?_, ?_, ?_, ?_, ?_, ?_, ?_, ?_, trivial⟩) ?_
 · exact opk_pure rfl rfl fun a w hb hf hd => ⟨_, fa_Interval_0 rfl (ev ((hf 2 (out_of (by kernel_rfl))).trans s56)), fun _ _ => rfl⟩
 · refine opk_pure rfl rfl fun a w hb hf hd => ?_
   obtain ⟨x0, x1, x2, h1, h2⟩ := (bx.below hb x42).lo
   exact ⟨_, run_load_mid _ _ rfl (ev (hd.at 0 rfl rfl rfl rfl)) h1 Tryz.underlying26 rfl info_Rat, fun _ _ => h2⟩
 · exact opk_pure rfl rfl fun a w hb hf hd => ⟨_, fa_Interval_0 rfl (ev ((hf 3 (out_of (by kernel_rfl))).trans s57)), fun _ _ => rfl⟩
 · refine opk_pure rfl rfl fun a w hb hf hd => ?_
   obtain ⟨x0, x1, x2, h1, h2⟩ := (bx.below hb x44).lo
   exact ⟨_, run_load_mid _ _ rfl (ev (hd.at 0 rfl rfl rfl rfl)) h1 Tryz.underlying26 rfl info_Rat, fun _ _ => h2⟩
 · refine opk_call rfl rfl fun a w hb hf hd => ?_
   have e0 : a.eval (.tmp 6) = sl a 6 := rfl
   have e1 : a.eval (.tmp 8) = sl a 8 := rfl
   exact ⟨14, #[sl a 6, sl a 8], run_call rfl rfl (fun _ _ => by kernel_rfl) (args_2 e0 e1), (r_same (isC.k (hd.at 0 rfl rfl rfl rfl)) (hd.at 1 rfl rfl rfl rfl)).mono fun _ _ r => RetS.imp (fun _ _ h => fun _ _ => h) r⟩
 · exact opk_pure rfl rfl fun a w hb hf hd => ⟨_, run_move rfl, fun _ _ => (hd.at 0 rfl rfl rfl rfl)⟩
 · refine opk_guard (true && decide (p = r)) rfl rfl rfl rfl (by rw [z52]; decide) (fun a w hb hf hd => (hd.at 0 rfl rfl rfl rfl)) (fun hne _ hγ => absurd hγ hne) (fun hγ => ?_)
   exact opk_pure rfl rfl fun a w hb hf hd => ⟨_, fa_Interval_1 rfl (ev ((hf 2 (out_of (by kernel_rfl))).trans s56)), fun _ _ _ => rfl⟩
 · refine opk_guard (true && decide (p = r)) rfl rfl rfl rfl (by rw [z52]; decide) (fun a w hb hf hd => (hd.at 1 rfl rfl rfl rfl)) (fun hne _ hγ => absurd hγ hne) (fun hγ => ?_)
   refine opk_pure rfl rfl fun a w hb hf hd => ?_
   obtain ⟨x0, x1, x2, h1, h2⟩ := (bx.below hb x42).hi
   exact ⟨_, run_load_mid _ _ rfl (ev ((hd.at 0 rfl rfl rfl rfl) hγ)) h1 Tryz.underlying26 rfl info_Rat, fun _ _ _ => h2⟩
 · refine opk_guard (true && decide (p = r)) rfl rfl rfl rfl (by rw [z52]; decide) (fun a w hb hf hd => (hd.at 0 rfl rfl rfl rfl)) (fun hne _ hγ => absurd hγ hne) (fun hγ => ?_)
   exact opk_pure rfl rfl fun a w hb hf hd => ⟨_, fa_Interval_1 rfl (ev ((hf 3 (out_of (by kernel_rfl))).trans s57)), fun _ _ _ => rfl⟩
 · refine opk_guard (true && decide (p = r)) rfl rfl rfl rfl (by rw [z52]; decide) (fun a w hb hf hd => (hd.at 1 rfl rfl rfl rfl)) (fun hne _ hγ => absurd hγ hne) (fun hγ => ?_)
   refine opk_pure rfl rfl fun a w hb hf hd => ?_
   obtain ⟨x0, x1, x2, h1, h2⟩ := (bx.below hb x44).hi
   exact ⟨_, run_load_mid _ _ rfl (ev ((hd.at 0 rfl rfl rfl rfl) hγ)) h1 Tryz.underlying26 rfl info_Rat, fun _ _ _ => h2⟩
 · refine opk_guard (true && decide (p = r)) rfl rfl rfl rfl (by rw [z52]; decide) (fun a w hb hf hd => (hd.at 2 rfl rfl rfl rfl)) (fun hne _ hγ => absurd hγ hne) (fun hγ => ?_)
   refine opk_call rfl rfl fun a w hb hf hd => ?_
   have e0 : a.eval (.tmp 12) = sl a 12 := rfl
   have e1 : a.eval (.tmp 14) = sl a 14 := rfl
   exact ⟨14, #[sl a 12, sl a 14], run_call rfl rfl (fun _ _ => by kernel_rfl) (args_2 e0 e1), (r_same (isC.k ((hd.at 0 rfl rfl rfl rfl) hγ)) ((hd.at 1 rfl rfl rfl rfl) hγ)).mono fun _ _ r => RetS.imp (fun _ _ h => fun _ _ _ => h) r⟩
 · exact opk_pure rfl rfl fun a w hb hf hd => ⟨_, run_pick rfl (ev (hd.at 0 rfl rfl rfl rfl)), fun _ _ => pick_and (hd.at 1 rfl rfl rfl rfl)⟩
 intro a58 w59 ms60
 have B61 := B41.trans (ms60.b.mono B41.size)
 have z62 := ms60.sz.trans z52
 have d63 := ms60.df.trans d53
 have x65 := bx.below ms60.b x42
 have x66 := bx.below ms60.b x44
 have s67 : sl a58 16 = .bool ((true && decide (p = r)) && (true && decide (q = s))) := ms60.g 11 _ 16 rfl (by decide) trivial rfl
 refine tl_set rfl rfl (run_assign rfl) (by rw [z62]; decide) ?_
 intro a68 z69 d70 s71 fr72
 have s73 := s71.trans s67
 have d75 := d70.trans d63
 refine wpList_nil (then_normal ?_)
 refine wp_ret ?_
 exact end_tmp rfl d75 B61 s73

theorem awake4_any   {w : World}   (hT : Tb w) :
   Calls Tryz.prog 25 #[] w (RetS (mV (.bool true)).S w) := by
 refine calls_abs 40 Tryz.func25 rfl rfl (by simp) ?_
 intro a0 z0 d0 ha
 have B0 : Below w.heap.size w w := Below.refl _ _
 refine wp_seq ?_
 refine wp_region_seq 0 (mG []) (by rw [z0]; kernel_rfl) (mG_mono _) (ops_ok trivial) ?_
 intro a1 w2 ms3
 have B4 := B0.trans (ms3.b.mono B0.size)
 have z5 := ms3.sz.trans z0
 have d6 := ms3.df.trans d0
 refine tl_set rfl rfl (run_assign rfl) (by rw [z5]; decide) ?_
 intro a7 z8 d9 s10 fr11
 have z13 := z8.trans z5
 have d14 := d9.trans d6
 refine wpList_nil (then_normal ?_)
 refine wp_seq ?_
 refine wp_region_seq 7 (mG [(mC (((-1 : Int) : Rat)) 2).b, (mC (((2 : Int) : Rat)) 2).b, (mP (mC (mnQ (((-1 : Int) : Rat)) (((2 : Int) : Rat))) 9) (mC (mxQ (((-1 : Int) : Rat)) (((2 : Int) : Rat))) 9)).b, (mC (((3 : Int) : Rat)) 2).b, (mC (((4 : Int) : Rat)) 2).b, (mP (mC (mnQ (((3 : Int) : Rat)) (((4 : Int) : Rat))) 9) (mC (mxQ (((3 : Int) : Rat)) (((4 : Int) : Rat))) 9)).b, (mP (mC (mn4 ((mnQ (((-1 : Int) : Rat)) (((2 : Int) : Rat))) * (mnQ (((3 : Int) : Rat)) (((4 : Int) : Rat)))) ((mnQ (((-1 : Int) : Rat)) (((2 : Int) : Rat))) * (mxQ (((3 : Int) : Rat)) (((4 : Int) : Rat)))) ((mxQ (((-1 : Int) : Rat)) (((2 : Int) : Rat))) * (mnQ (((3 : Int) : Rat)) (((4 : Int) : Rat)))) ((mxQ (((-1 : Int) : Rat)) (((2 : Int) : Rat))) * (mxQ (((3 : Int) : Rat)) (((4 : Int) : Rat))))) 21) (mC (mx4 ((mnQ (((-1 : Int) : Rat)) (((2 : Int) : Rat))) * (mnQ (((3 : Int) : Rat)) (((4 : Int) : Rat)))) ((mnQ (((-1 : Int) : Rat)) (((2 : Int) : Rat))) * (mxQ (((3 : Int) : Rat)) (((4 : Int) : Rat)))) ((mxQ (((-1 : Int) : Rat)) (((2 : Int) : Rat))) * (mnQ (((3 : Int) : Rat)) (((4 : Int) : Rat)))) ((mxQ (((-1 : Int) : Rat)) (((2 : Int) : Rat))) * (mxQ (((3 : Int) : Rat)) (((4 : Int) : Rat))))) 21)).b]) (by rw [z13]; kernel_rfl) (mG_mono _) (ops_ok ⟨?_, ?_, ?_, ?_, ?_, ?_, ?_, trivial⟩) ?_
 · refine opk_call rfl rfl fun a w hb hf hd => ?_
   exact ⟨96, #[.int .i64 (-1)], run_call rfl rfl (fun _ _ => by kernel_rfl) (args_1 rfl), (r_of (-1) (by omega) (by omega)).mono fun _ _ r => RetS.imp (fun _ _ h => fun _ _ => (isC.mono h (by omega))) r⟩
 · refine opk_call rfl rfl fun a w hb hf hd => ?_
   exact ⟨96, #[.int .i64 2], run_call rfl rfl (fun _ _ => by kernel_rfl) (args_1 rfl), (r_of 2 (by omega) (by omega)).mono fun _ _ r => RetS.imp (fun _ _ h => fun _ _ => (isC.mono h (by omega))) r⟩
 · refine opk_call rfl rfl fun a w hb hf hd => ?_
   have e0 : a.eval (.tmp 5) = sl a 5 := rfl
   have e1 : a.eval (.tmp 6) = sl a 6 := rfl
   exact ⟨44, #[sl a 5, sl a 6], run_call rfl rfl (fun _ _ => by kernel_rfl) (args_2 e0 e1), (r4_make  (by omega) (by omega) (isC.r (hd.at 0 rfl rfl rfl rfl)) (isC.r (hd.at 1 rfl rfl rfl rfl))).mono fun _ _ r => RetS.imp (fun _ _ h => fun _ _ => (mP_imp (fun _ h => (isC.mono h (by omega))) (fun _ h => (isC.mono h (by omega))) h)) r⟩
 · refine opk_call rfl rfl fun a w hb hf hd => ?_
   exact ⟨96, #[.int .i64 3], run_call rfl rfl (fun _ _ => by kernel_rfl) (args_1 rfl), (r_of 3 (by omega) (by omega)).mono fun _ _ r => RetS.imp (fun _ _ h => fun _ _ => (isC.mono h (by omega))) r⟩
 · refine opk_call rfl rfl fun a w hb hf hd => ?_
   exact ⟨96, #[.int .i64 4], run_call rfl rfl (fun _ _ => by kernel_rfl) (args_1 rfl), (r_of 4 (by omega) (by omega)).mono fun _ _ r => RetS.imp (fun _ _ h => fun _ _ => (isC.mono h (by omega))) r⟩
 · refine opk_call rfl rfl fun a w hb hf hd => ?_
   have e0 : a.eval (.tmp 8) = sl a 8 := rfl
   have e1 : a.eval (.tmp 9) = sl a 9 := rfl
   exact ⟨44, #[sl a 8, sl a 9], run_call rfl rfl (fun _ _ => by kernel_rfl) (args_2 e0 e1), (r4_make  (by omega) (by omega) (isC.r (hd.at 0 rfl rfl rfl rfl)) (isC.r (hd.at 1 rfl rfl rfl rfl))).mono fun _ _ r => RetS.imp (fun _ _ h => fun _ _ => (mP_imp (fun _ h => (isC.mono h (by omega))) (fun _ h => (isC.mono h (by omega))) h)) r⟩
 · refine opk_call rfl rfl fun a w hb hf hd => ?_
   have e0 : a.eval (.tmp 7) = sl a 7 := rfl
   have e1 : a.eval (.tmp 10) = sl a 10 := rfl
   exact ⟨53, #[sl a 7, sl a 10], run_call rfl rfl (fun _ _ => by kernel_rfl) (args_2 e0 e1), (iv_mul  (by omega) (by omega) (mP_imp (m1' := (mR (mnQ (((-1 : Int) : Rat)) (((2 : Int) : Rat))) 9)) (m2' := (mR (mxQ (((-1 : Int) : Rat)) (((2 : Int) : Rat))) 9)) (fun _ h => (isC.r h)) (fun _ h => (isC.r h)) (hd.at 0 rfl rfl rfl rfl)) (mP_imp (m1' := (mR (mnQ (((3 : Int) : Rat)) (((4 : Int) : Rat))) 9)) (m2' := (mR (mxQ (((3 : Int) : Rat)) (((4 : Int) : Rat))) 9)) (fun _ h => (isC.r h)) (fun _ h => (isC.r h)) (hd.at 1 rfl rfl rfl rfl)) (hT.below (B4.trans (hb.mono B4.size)))).mono fun _ _ r => RetS.imp (fun _ _ h => fun _ _ => (mP_imp (fun _ h => (isC.mono h (by omega))) (fun _ h => (isC.mono h (by omega))) h)) r⟩
 intro a15 w16 ms17
 have B18 := B4.trans (ms17.b.mono B4.size)
 have z19 := ms17.sz.trans z13
 have d20 := ms17.df.trans d14
 have s22 : (mP (mC (mn4 ((mnQ (((-1 : Int) : Rat)) (((2 : Int) : Rat))) * (mnQ (((3 : Int) : Rat)) (((4 : Int) : Rat)))) ((mnQ (((-1 : Int) : Rat)) (((2 : Int) : Rat))) * (mxQ (((3 : Int) : Rat)) (((4 : Int) : Rat)))) ((mxQ (((-1 : Int) : Rat)) (((2 : Int) : Rat))) * (mnQ (((3 : Int) : Rat)) (((4 : Int) : Rat)))) ((mxQ (((-1 : Int) : Rat)) (((2 : Int) : Rat))) * (mxQ (((3 : Int) : Rat)) (((4 : Int) : Rat))))) 21) (mC (mx4 ((mnQ (((-1 : Int) : Rat)) (((2 : Int) : Rat))) * (mnQ (((3 : Int) : Rat)) (((4 : Int) : Rat)))) ((mnQ (((-1 : Int) : Rat)) (((2 : Int) : Rat))) * (mxQ (((3 : Int) : Rat)) (((4 : Int) : Rat)))) ((mxQ (((-1 : Int) : Rat)) (((2 : Int) : Rat))) * (mnQ (((3 : Int) : Rat)) (((4 : Int) : Rat)))) ((mxQ (((-1 : Int) : Rat)) (((2 : Int) : Rat))) * (mxQ (((3 : Int) : Rat)) (((4 : Int) : Rat))))) 21)).S w16 (sl a15 11) := ms17.g 6 _ 11 rfl (by decide) trivial rfl
 refine tl_new rfl rfl (run_alloc_op rfl zero_Interval) (by rw [z19]; decide) ?_
 intro a23 w24 g25 z26 d27 s28 fr29 hg30 hc31 hb32
 have z33 := z26.trans z19
 have d34 := d27.trans d20
 have s36 : (mP (mC (mn4 ((mnQ (((-1 : Int) : Rat)) (((2 : Int) : Rat))) * (mnQ (((3 : Int) : Rat)) (((4 : Int) : Rat)))) ((mnQ (((-1 : Int) : Rat)) (((2 : Int) : Rat))) * (mxQ (((3 : Int) : Rat)) (((4 : Int) : Rat)))) ((mxQ (((-1 : Int) : Rat)) (((2 : Int) : Rat))) * (mnQ (((3 : Int) : Rat)) (((4 : Int) : Rat)))) ((mxQ (((-1 : Int) : Rat)) (((2 : Int) : Rat))) * (mxQ (((3 : Int) : Rat)) (((4 : Int) : Rat))))) 21) (mC (mx4 ((mnQ (((-1 : Int) : Rat)) (((2 : Int) : Rat))) * (mnQ (((3 : Int) : Rat)) (((4 : Int) : Rat)))) ((mnQ (((-1 : Int) : Rat)) (((2 : Int) : Rat))) * (mxQ (((3 : Int) : Rat)) (((4 : Int) : Rat)))) ((mxQ (((-1 : Int) : Rat)) (((2 : Int) : Rat))) * (mnQ (((3 : Int) : Rat)) (((4 : Int) : Rat)))) ((mxQ (((-1 : Int) : Rat)) (((2 : Int) : Rat))) * (mxQ (((3 : Int) : Rat)) (((4 : Int) : Rat))))) 21)).S w16 (sl a23 11) := by rw [fr29 11 (by decide)]; exact s22
 have B37 := B18.trans (hb32.mono B18.size)
 have s38 := (mP (mC (mn4 ((mnQ (((-1 : Int) : Rat)) (((2 : Int) : Rat))) * (mnQ (((3 : Int) : Rat)) (((4 : Int) : Rat)))) ((mnQ (((-1 : Int) : Rat)) (((2 : Int) : Rat))) * (mxQ (((3 : Int) : Rat)) (((4 : Int) : Rat)))) ((mxQ (((-1 : Int) : Rat)) (((2 : Int) : Rat))) * (mnQ (((3 : Int) : Rat)) (((4 : Int) : Rat)))) ((mxQ (((-1 : Int) : Rat)) (((2 : Int) : Rat))) * (mxQ (((3 : Int) : Rat)) (((4 : Int) : Rat))))) 21) (mC (mx4 ((mnQ (((-1 : Int) : Rat)) (((2 : Int) : Rat))) * (mnQ (((3 : Int) : Rat)) (((4 : Int) : Rat)))) ((mnQ (((-1 : Int) : Rat)) (((2 : Int) : Rat))) * (mxQ (((3 : Int) : Rat)) (((4 : Int) : Rat)))) ((mxQ (((-1 : Int) : Rat)) (((2 : Int) : Rat))) * (mnQ (((3 : Int) : Rat)) (((4 : Int) : Rat)))) ((mxQ (((-1 : Int) : Rat)) (((2 : Int) : Rat))) * (mxQ (((3 : Int) : Rat)) (((4 : Int) : Rat))))) 21)).mono _ _ _ (Ext.of hb32) s36
 have lw40 : w.heap.size ≤ g25 := by have := B18.size; omega
 have x39 := bx_Interval hc31
 refine tl_put rfl rfl rfl (m' := (mP (mC (mn4 ((mnQ (((-1 : Int) : Rat)) (((2 : Int) : Rat))) * (mnQ (((3 : Int) : Rat)) (((4 : Int) : Rat)))) ((mnQ (((-1 : Int) : Rat)) (((2 : Int) : Rat))) * (mxQ (((3 : Int) : Rat)) (((4 : Int) : Rat)))) ((mxQ (((-1 : Int) : Rat)) (((2 : Int) : Rat))) * (mnQ (((3 : Int) : Rat)) (((4 : Int) : Rat)))) ((mxQ (((-1 : Int) : Rat)) (((2 : Int) : Rat))) * (mxQ (((3 : Int) : Rat)) (((4 : Int) : Rat))))) 21) (mC (mx4 ((mnQ (((-1 : Int) : Rat)) (((2 : Int) : Rat))) * (mnQ (((3 : Int) : Rat)) (((4 : Int) : Rat)))) ((mnQ (((-1 : Int) : Rat)) (((2 : Int) : Rat))) * (mxQ (((3 : Int) : Rat)) (((4 : Int) : Rat)))) ((mxQ (((-1 : Int) : Rat)) (((2 : Int) : Rat))) * (mnQ (((3 : Int) : Rat)) (((4 : Int) : Rat)))) ((mxQ (((-1 : Int) : Rat)) (((2 : Int) : Rat))) * (mxQ (((3 : Int) : Rat)) (((4 : Int) : Rat))))) 21))) x39 (ev s28) s38 (mP.cv (fun _ h => (isC.cv h)) (fun _ h => (isC.cv h)) s38) info_Interval ?_
 intro w41 x42 ex43 ot44 bl45
 have B46 := bl45 w (by omega) B37
 have s47 := (mP (mC (mn4 ((mnQ (((-1 : Int) : Rat)) (((2 : Int) : Rat))) * (mnQ (((3 : Int) : Rat)) (((4 : Int) : Rat)))) ((mnQ (((-1 : Int) : Rat)) (((2 : Int) : Rat))) * (mxQ (((3 : Int) : Rat)) (((4 : Int) : Rat)))) ((mxQ (((-1 : Int) : Rat)) (((2 : Int) : Rat))) * (mnQ (((3 : Int) : Rat)) (((4 : Int) : Rat)))) ((mxQ (((-1 : Int) : Rat)) (((2 : Int) : Rat))) * (mxQ (((3 : Int) : Rat)) (((4 : Int) : Rat))))) 21) (mC (mx4 ((mnQ (((-1 : Int) : Rat)) (((2 : Int) : Rat))) * (mnQ (((3 : Int) : Rat)) (((4 : Int) : Rat)))) ((mnQ (((-1 : Int) : Rat)) (((2 : Int) : Rat))) * (mxQ (((3 : Int) : Rat)) (((4 : Int) : Rat)))) ((mxQ (((-1 : Int) : Rat)) (((2 : Int) : Rat))) * (mnQ (((3 : Int) : Rat)) (((4 : Int) : Rat)))) ((mxQ (((-1 : Int) : Rat)) (((2 : Int) : Rat))) * (mxQ (((3 : Int) : Rat)) (((4 : Int) : Rat))))) 21)).mono _ _ _ ex43 s38
 refine wpList_nil (then_normal ?_)
 refine wp_seq ?_
 refine wp_region_seq 4 (mG [(mC (((-1 : Int) : Rat)) 2).b, (mC (((2 : Int) : Rat)) 2).b, (mP (mC (mnQ (((-1 : Int) : Rat)) (((2 : Int) : Rat))) 9) (mC (mxQ (((-1 : Int) : Rat)) (((2 : Int) : Rat))) 9)).b, (mP (mC (sqL (mnQ (((-1 : Int) : Rat)) (((2 : Int) : Rat))) (mxQ (((-1 : Int) : Rat)) (((2 : Int) : Rat)))) 23) (mC (mxQ ((mnQ (((-1 : Int) : Rat)) (((2 : Int) : Rat))) * (mnQ (((-1 : Int) : Rat)) (((2 : Int) : Rat)))) ((mxQ (((-1 : Int) : Rat)) (((2 : Int) : Rat))) * (mxQ (((-1 : Int) : Rat)) (((2 : Int) : Rat))))) 23)).b]) (by rw [z33]; kernel_rfl) (mG_mono _) (ops_ok ⟨?_, ?_, ?_, ?_, trivial⟩) ?_
 · refine opk_call rfl rfl fun a w hb hf hd => ?_
   exact ⟨96, #[.int .i64 (-1)], run_call rfl rfl (fun _ _ => by kernel_rfl) (args_1 rfl), (r_of (-1) (by omega) (by omega)).mono fun _ _ r => RetS.imp (fun _ _ h => fun _ _ => (isC.mono h (by omega))) r⟩
 · refine opk_call rfl rfl fun a w hb hf hd => ?_
   exact ⟨96, #[.int .i64 2], run_call rfl rfl (fun _ _ => by kernel_rfl) (args_1 rfl), (r_of 2 (by omega) (by omega)).mono fun _ _ r => RetS.imp (fun _ _ h => fun _ _ => (isC.mono h (by omega))) r⟩
 · refine opk_call rfl rfl fun a w hb hf hd => ?_
   have e0 : a.eval (.tmp 12) = sl a 12 := rfl
   have e1 : a.eval (.tmp 13) = sl a 13 := rfl
   exact ⟨44, #[sl a 12, sl a 13], run_call rfl rfl (fun _ _ => by kernel_rfl) (args_2 e0 e1), (r4_make  (by omega) (by omega) (isC.r (hd.at 0 rfl rfl rfl rfl)) (isC.r (hd.at 1 rfl rfl rfl rfl))).mono fun _ _ r => RetS.imp (fun _ _ h => fun _ _ => (mP_imp (fun _ h => (isC.mono h (by omega))) (fun _ h => (isC.mono h (by omega))) h)) r⟩
 · refine opk_call rfl rfl fun a w hb hf hd => ?_
   have e0 : a.eval (.tmp 14) = sl a 14 := rfl
   exact ⟨55, #[sl a 14], run_call rfl rfl (fun _ _ => by kernel_rfl) (args_1 e0), (iv_square  (by omega) (mP_imp (m1' := (mR (mnQ (((-1 : Int) : Rat)) (((2 : Int) : Rat))) 9)) (m2' := (mR (mxQ (((-1 : Int) : Rat)) (((2 : Int) : Rat))) 9)) (fun _ h => (isC.r h)) (fun _ h => (isC.r h)) (hd.at 0 rfl rfl rfl rfl)) (hT.below (B46.trans (hb.mono B46.size)))).mono fun _ _ r => RetS.imp (fun _ _ h => fun _ _ => (mP_imp (fun _ h => (isC.mono h (by omega))) (fun _ h => (isC.mono h (by omega))) h)) r⟩
 intro a48 w49 ms50
 have B51 := B46.trans (ms50.b.mono B46.size)
 have z52 := ms50.sz.trans z33
 have d53 := ms50.df.trans d34
 have s55 := (ms50.fr 1 (out_of (by kernel_rfl))).trans s28
 have x56 := bx.below ms50.b x42
 have s57 : (mP (mC (sqL (mnQ (((-1 : Int) : Rat)) (((2 : Int) : Rat))) (mxQ (((-1 : Int) : Rat)) (((2 : Int) : Rat)))) 23) (mC (mxQ ((mnQ (((-1 : Int) : Rat)) (((2 : Int) : Rat))) * (mnQ (((-1 : Int) : Rat)) (((2 : Int) : Rat)))) ((mxQ (((-1 : Int) : Rat)) (((2 : Int) : Rat))) * (mxQ (((-1 : Int) : Rat)) (((2 : Int) : Rat))))) 23)).S w49 (sl a48 15) := ms50.g 3 _ 15 rfl (by decide) trivial rfl
 refine tl_new rfl rfl (run_alloc_op rfl zero_Interval) (by rw [z52]; decide) ?_
 intro a58 w59 g60 z61 d62 s63 fr64 hg65 hc66 hb67
 have z68 := z61.trans z52
 have d69 := d62.trans d53
 have s71 := (fr64 1 (by decide)).trans s55
 have s72 : (mP (mC (sqL (mnQ (((-1 : Int) : Rat)) (((2 : Int) : Rat))) (mxQ (((-1 : Int) : Rat)) (((2 : Int) : Rat)))) 23) (mC (mxQ ((mnQ (((-1 : Int) : Rat)) (((2 : Int) : Rat))) * (mnQ (((-1 : Int) : Rat)) (((2 : Int) : Rat)))) ((mxQ (((-1 : Int) : Rat)) (((2 : Int) : Rat))) * (mxQ (((-1 : Int) : Rat)) (((2 : Int) : Rat))))) 23)).S w49 (sl a58 15) := by rw [fr64 15 (by decide)]; exact s57
 have B73 := B51.trans (hb67.mono B51.size)
 have ne75 : g25 ≠ g60 := by have := x56.lt; omega
 have x74 := bx.below hb67 x56
 have s76 := (mP (mC (sqL (mnQ (((-1 : Int) : Rat)) (((2 : Int) : Rat))) (mxQ (((-1 : Int) : Rat)) (((2 : Int) : Rat)))) 23) (mC (mxQ ((mnQ (((-1 : Int) : Rat)) (((2 : Int) : Rat))) * (mnQ (((-1 : Int) : Rat)) (((2 : Int) : Rat)))) ((mxQ (((-1 : Int) : Rat)) (((2 : Int) : Rat))) * (mxQ (((-1 : Int) : Rat)) (((2 : Int) : Rat))))) 23)).mono _ _ _ (Ext.of hb67) s72
 have lw78 : w.heap.size ≤ g60 := by have := B51.size; omega
 have x77 := bx_Interval hc66
 refine tl_put rfl rfl rfl (m' := (mP (mC (sqL (mnQ (((-1 : Int) : Rat)) (((2 : Int) : Rat))) (mxQ (((-1 : Int) : Rat)) (((2 : Int) : Rat)))) 23) (mC (mxQ ((mnQ (((-1 : Int) : Rat)) (((2 : Int) : Rat))) * (mnQ (((-1 : Int) : Rat)) (((2 : Int) : Rat)))) ((mxQ (((-1 : Int) : Rat)) (((2 : Int) : Rat))) * (mxQ (((-1 : Int) : Rat)) (((2 : Int) : Rat))))) 23))) x77 (ev s63) s76 (mP.cv (fun _ h => (isC.cv h)) (fun _ h => (isC.cv h)) s76) info_Interval ?_
 intro w79 x80 ex81 ot82 bl83
 have B84 := bl83 w (by omega) B73
 have x85 := ot82 (by omega) x74
 have s86 := (mP (mC (sqL (mnQ (((-1 : Int) : Rat)) (((2 : Int) : Rat))) (mxQ (((-1 : Int) : Rat)) (((2 : Int) : Rat)))) 23) (mC (mxQ ((mnQ (((-1 : Int) : Rat)) (((2 : Int) : Rat))) * (mnQ (((-1 : Int) : Rat)) (((2 : Int) : Rat)))) ((mxQ (((-1 : Int) : Rat)) (((2 : Int) : Rat))) * (mxQ (((-1 : Int) : Rat)) (((2 : Int) : Rat))))) 23)).mono _ _ _ ex81 s76
 refine wpList_nil (then_normal ?_)
 refine wp_seq ?_
 refine wp_region_mono 9 [7] (mG [(mP (mC (mn4 ((mnQ (((-1 : Int) : Rat)) (((2 : Int) : Rat))) * (mnQ (((3 : Int) : Rat)) (((4 : Int) : Rat)))) ((mnQ (((-1 : Int) : Rat)) (((2 : Int) : Rat))) * (mxQ (((3 : Int) : Rat)) (((4 : Int) : Rat)))) ((mxQ (((-1 : Int) : Rat)) (((2 : Int) : Rat))) * (mnQ (((3 : Int) : Rat)) (((4 : Int) : Rat)))) ((mxQ (((-1 : Int) : Rat)) (((2 : Int) : Rat))) * (mxQ (((3 : Int) : Rat)) (((4 : Int) : Rat))))) 21) (mC (mx4 ((mnQ (((-1 : Int) : Rat)) (((2 : Int) : Rat))) * (mnQ (((3 : Int) : Rat)) (((4 : Int) : Rat)))) ((mnQ (((-1 : Int) : Rat)) (((2 : Int) : Rat))) * (mxQ (((3 : Int) : Rat)) (((4 : Int) : Rat)))) ((mxQ (((-1 : Int) : Rat)) (((2 : Int) : Rat))) * (mnQ (((3 : Int) : Rat)) (((4 : Int) : Rat)))) ((mxQ (((-1 : Int) : Rat)) (((2 : Int) : Rat))) * (mxQ (((3 : Int) : Rat)) (((4 : Int) : Rat))))) 21)).b, (mC (((-1 : Int) : Rat)) 2).b, (mC (((1 : Int) : Rat)) 2).b, (mP (mC (mnQ (((-1 : Int) : Rat)) (((1 : Int) : Rat))) 9) (mC (mxQ (((-1 : Int) : Rat)) (((1 : Int) : Rat))) 9)).b, (mT (mP (mE (mn4 (mn4 ((mnQ (((-1 : Int) : Rat)) (((2 : Int) : Rat))) * (mnQ (((3 : Int) : Rat)) (((4 : Int) : Rat)))) ((mnQ (((-1 : Int) : Rat)) (((2 : Int) : Rat))) * (mxQ (((3 : Int) : Rat)) (((4 : Int) : Rat)))) ((mxQ (((-1 : Int) : Rat)) (((2 : Int) : Rat))) * (mnQ (((3 : Int) : Rat)) (((4 : Int) : Rat)))) ((mxQ (((-1 : Int) : Rat)) (((2 : Int) : Rat))) * (mxQ (((3 : Int) : Rat)) (((4 : Int) : Rat)))) * mnQ (((1 : Int) : Rat) / (mnQ (((-1 : Int) : Rat)) (((1 : Int) : Rat)))) (((1 : Int) : Rat) / (mxQ (((-1 : Int) : Rat)) (((1 : Int) : Rat))))) (mn4 ((mnQ (((-1 : Int) : Rat)) (((2 : Int) : Rat))) * (mnQ (((3 : Int) : Rat)) (((4 : Int) : Rat)))) ((mnQ (((-1 : Int) : Rat)) (((2 : Int) : Rat))) * (mxQ (((3 : Int) : Rat)) (((4 : Int) : Rat)))) ((mxQ (((-1 : Int) : Rat)) (((2 : Int) : Rat))) * (mnQ (((3 : Int) : Rat)) (((4 : Int) : Rat)))) ((mxQ (((-1 : Int) : Rat)) (((2 : Int) : Rat))) * (mxQ (((3 : Int) : Rat)) (((4 : Int) : Rat)))) * mxQ (((1 : Int) : Rat) / (mnQ (((-1 : Int) : Rat)) (((1 : Int) : Rat)))) (((1 : Int) : Rat) / (mxQ (((-1 : Int) : Rat)) (((1 : Int) : Rat))))) (mx4 ((mnQ (((-1 : Int) : Rat)) (((2 : Int) : Rat))) * (mnQ (((3 : Int) : Rat)) (((4 : Int) : Rat)))) ((mnQ (((-1 : Int) : Rat)) (((2 : Int) : Rat))) * (mxQ (((3 : Int) : Rat)) (((4 : Int) : Rat)))) ((mxQ (((-1 : Int) : Rat)) (((2 : Int) : Rat))) * (mnQ (((3 : Int) : Rat)) (((4 : Int) : Rat)))) ((mxQ (((-1 : Int) : Rat)) (((2 : Int) : Rat))) * (mxQ (((3 : Int) : Rat)) (((4 : Int) : Rat)))) * mnQ (((1 : Int) : Rat) / (mnQ (((-1 : Int) : Rat)) (((1 : Int) : Rat)))) (((1 : Int) : Rat) / (mxQ (((-1 : Int) : Rat)) (((1 : Int) : Rat))))) (mx4 ((mnQ (((-1 : Int) : Rat)) (((2 : Int) : Rat))) * (mnQ (((3 : Int) : Rat)) (((4 : Int) : Rat)))) ((mnQ (((-1 : Int) : Rat)) (((2 : Int) : Rat))) * (mxQ (((3 : Int) : Rat)) (((4 : Int) : Rat)))) ((mxQ (((-1 : Int) : Rat)) (((2 : Int) : Rat))) * (mnQ (((3 : Int) : Rat)) (((4 : Int) : Rat)))) ((mxQ (((-1 : Int) : Rat)) (((2 : Int) : Rat))) * (mxQ (((3 : Int) : Rat)) (((4 : Int) : Rat)))) * mxQ (((1 : Int) : Rat) / (mnQ (((-1 : Int) : Rat)) (((1 : Int) : Rat)))) (((1 : Int) : Rat) / (mxQ (((-1 : Int) : Rat)) (((1 : Int) : Rat)))))) (sgE (mnQ (((-1 : Int) : Rat)) (((1 : Int) : Rat))) (mxQ (((-1 : Int) : Rat)) (((1 : Int) : Rat)))) 38) (mE (mx4 (mn4 ((mnQ (((-1 : Int) : Rat)) (((2 : Int) : Rat))) * (mnQ (((3 : Int) : Rat)) (((4 : Int) : Rat)))) ((mnQ (((-1 : Int) : Rat)) (((2 : Int) : Rat))) * (mxQ (((3 : Int) : Rat)) (((4 : Int) : Rat)))) ((mxQ (((-1 : Int) : Rat)) (((2 : Int) : Rat))) * (mnQ (((3 : Int) : Rat)) (((4 : Int) : Rat)))) ((mxQ (((-1 : Int) : Rat)) (((2 : Int) : Rat))) * (mxQ (((3 : Int) : Rat)) (((4 : Int) : Rat)))) * mnQ (((1 : Int) : Rat) / (mnQ (((-1 : Int) : Rat)) (((1 : Int) : Rat)))) (((1 : Int) : Rat) / (mxQ (((-1 : Int) : Rat)) (((1 : Int) : Rat))))) (mn4 ((mnQ (((-1 : Int) : Rat)) (((2 : Int) : Rat))) * (mnQ (((3 : Int) : Rat)) (((4 : Int) : Rat)))) ((mnQ (((-1 : Int) : Rat)) (((2 : Int) : Rat))) * (mxQ (((3 : Int) : Rat)) (((4 : Int) : Rat)))) ((mxQ (((-1 : Int) : Rat)) (((2 : Int) : Rat))) * (mnQ (((3 : Int) : Rat)) (((4 : Int) : Rat)))) ((mxQ (((-1 : Int) : Rat)) (((2 : Int) : Rat))) * (mxQ (((3 : Int) : Rat)) (((4 : Int) : Rat)))) * mxQ (((1 : Int) : Rat) / (mnQ (((-1 : Int) : Rat)) (((1 : Int) : Rat)))) (((1 : Int) : Rat) / (mxQ (((-1 : Int) : Rat)) (((1 : Int) : Rat))))) (mx4 ((mnQ (((-1 : Int) : Rat)) (((2 : Int) : Rat))) * (mnQ (((3 : Int) : Rat)) (((4 : Int) : Rat)))) ((mnQ (((-1 : Int) : Rat)) (((2 : Int) : Rat))) * (mxQ (((3 : Int) : Rat)) (((4 : Int) : Rat)))) ((mxQ (((-1 : Int) : Rat)) (((2 : Int) : Rat))) * (mnQ (((3 : Int) : Rat)) (((4 : Int) : Rat)))) ((mxQ (((-1 : Int) : Rat)) (((2 : Int) : Rat))) * (mxQ (((3 : Int) : Rat)) (((4 : Int) : Rat)))) * mnQ (((1 : Int) : Rat) / (mnQ (((-1 : Int) : Rat)) (((1 : Int) : Rat)))) (((1 : Int) : Rat) / (mxQ (((-1 : Int) : Rat)) (((1 : Int) : Rat))))) (mx4 ((mnQ (((-1 : Int) : Rat)) (((2 : Int) : Rat))) * (mnQ (((3 : Int) : Rat)) (((4 : Int) : Rat)))) ((mnQ (((-1 : Int) : Rat)) (((2 : Int) : Rat))) * (mxQ (((3 : Int) : Rat)) (((4 : Int) : Rat)))) ((mxQ (((-1 : Int) : Rat)) (((2 : Int) : Rat))) * (mnQ (((3 : Int) : Rat)) (((4 : Int) : Rat)))) ((mxQ (((-1 : Int) : Rat)) (((2 : Int) : Rat))) * (mxQ (((3 : Int) : Rat)) (((4 : Int) : Rat)))) * mxQ (((1 : Int) : Rat) / (mnQ (((-1 : Int) : Rat)) (((1 : Int) : Rat)))) (((1 : Int) : Rat) / (mxQ (((-1 : Int) : Rat)) (((1 : Int) : Rat)))))) (sgE (mnQ (((-1 : Int) : Rat)) (((1 : Int) : Rat))) (mxQ (((-1 : Int) : Rat)) (((1 : Int) : Rat)))) 38)) (mV (.int .i64 (sgE (mnQ (((-1 : Int) : Rat)) (((1 : Int) : Rat))) (mxQ (((-1 : Int) : Rat)) (((1 : Int) : Rat))))))).b, (mT (mP (mE (mn4 (mn4 ((mnQ (((-1 : Int) : Rat)) (((2 : Int) : Rat))) * (mnQ (((3 : Int) : Rat)) (((4 : Int) : Rat)))) ((mnQ (((-1 : Int) : Rat)) (((2 : Int) : Rat))) * (mxQ (((3 : Int) : Rat)) (((4 : Int) : Rat)))) ((mxQ (((-1 : Int) : Rat)) (((2 : Int) : Rat))) * (mnQ (((3 : Int) : Rat)) (((4 : Int) : Rat)))) ((mxQ (((-1 : Int) : Rat)) (((2 : Int) : Rat))) * (mxQ (((3 : Int) : Rat)) (((4 : Int) : Rat)))) * mnQ (((1 : Int) : Rat) / (mnQ (((-1 : Int) : Rat)) (((1 : Int) : Rat)))) (((1 : Int) : Rat) / (mxQ (((-1 : Int) : Rat)) (((1 : Int) : Rat))))) (mn4 ((mnQ (((-1 : Int) : Rat)) (((2 : Int) : Rat))) * (mnQ (((3 : Int) : Rat)) (((4 : Int) : Rat)))) ((mnQ (((-1 : Int) : Rat)) (((2 : Int) : Rat))) * (mxQ (((3 : Int) : Rat)) (((4 : Int) : Rat)))) ((mxQ (((-1 : Int) : Rat)) (((2 : Int) : Rat))) * (mnQ (((3 : Int) : Rat)) (((4 : Int) : Rat)))) ((mxQ (((-1 : Int) : Rat)) (((2 : Int) : Rat))) * (mxQ (((3 : Int) : Rat)) (((4 : Int) : Rat)))) * mxQ (((1 : Int) : Rat) / (mnQ (((-1 : Int) : Rat)) (((1 : Int) : Rat)))) (((1 : Int) : Rat) / (mxQ (((-1 : Int) : Rat)) (((1 : Int) : Rat))))) (mx4 ((mnQ (((-1 : Int) : Rat)) (((2 : Int) : Rat))) * (mnQ (((3 : Int) : Rat)) (((4 : Int) : Rat)))) ((mnQ (((-1 : Int) : Rat)) (((2 : Int) : Rat))) * (mxQ (((3 : Int) : Rat)) (((4 : Int) : Rat)))) ((mxQ (((-1 : Int) : Rat)) (((2 : Int) : Rat))) * (mnQ (((3 : Int) : Rat)) (((4 : Int) : Rat)))) ((mxQ (((-1 : Int) : Rat)) (((2 : Int) : Rat))) * (mxQ (((3 : Int) : Rat)) (((4 : Int) : Rat)))) * mnQ (((1 : Int) : Rat) / (mnQ (((-1 : Int) : Rat)) (((1 : Int) : Rat)))) (((1 : Int) : Rat) / (mxQ (((-1 : Int) : Rat)) (((1 : Int) : Rat))))) (mx4 ((mnQ (((-1 : Int) : Rat)) (((2 : Int) : Rat))) * (mnQ (((3 : Int) : Rat)) (((4 : Int) : Rat)))) ((mnQ (((-1 : Int) : Rat)) (((2 : Int) : Rat))) * (mxQ (((3 : Int) : Rat)) (((4 : Int) : Rat)))) ((mxQ (((-1 : Int) : Rat)) (((2 : Int) : Rat))) * (mnQ (((3 : Int) : Rat)) (((4 : Int) : Rat)))) ((mxQ (((-1 : Int) : Rat)) (((2 : Int) : Rat))) * (mxQ (((3 : Int) : Rat)) (((4 : Int) : Rat)))) * mxQ (((1 : Int) : Rat) / (mnQ (((-1 : Int) : Rat)) (((1 : Int) : Rat)))) (((1 : Int) : Rat) / (mxQ (((-1 : Int) : Rat)) (((1 : Int) : Rat)))))) (sgE (mnQ (((-1 : Int) : Rat)) (((1 : Int) : Rat))) (mxQ (((-1 : Int) : Rat)) (((1 : Int) : Rat)))) 38) (mE (mx4 (mn4 ((mnQ (((-1 : Int) : Rat)) (((2 : Int) : Rat))) * (mnQ (((3 : Int) : Rat)) (((4 : Int) : Rat)))) ((mnQ (((-1 : Int) : Rat)) (((2 : Int) : Rat))) * (mxQ (((3 : Int) : Rat)) (((4 : Int) : Rat)))) ((mxQ (((-1 : Int) : Rat)) (((2 : Int) : Rat))) * (mnQ (((3 : Int) : Rat)) (((4 : Int) : Rat)))) ((mxQ (((-1 : Int) : Rat)) (((2 : Int) : Rat))) * (mxQ (((3 : Int) : Rat)) (((4 : Int) : Rat)))) * mnQ (((1 : Int) : Rat) / (mnQ (((-1 : Int) : Rat)) (((1 : Int) : Rat)))) (((1 : Int) : Rat) / (mxQ (((-1 : Int) : Rat)) (((1 : Int) : Rat))))) (mn4 ((mnQ (((-1 : Int) : Rat)) (((2 : Int) : Rat))) * (mnQ (((3 : Int) : Rat)) (((4 : Int) : Rat)))) ((mnQ (((-1 : Int) : Rat)) (((2 : Int) : Rat))) * (mxQ (((3 : Int) : Rat)) (((4 : Int) : Rat)))) ((mxQ (((-1 : Int) : Rat)) (((2 : Int) : Rat))) * (mnQ (((3 : Int) : Rat)) (((4 : Int) : Rat)))) ((mxQ (((-1 : Int) : Rat)) (((2 : Int) : Rat))) * (mxQ (((3 : Int) : Rat)) (((4 : Int) : Rat)))) * mxQ (((1 : Int) : Rat) / (mnQ (((-1 : Int) : Rat)) (((1 : Int) : Rat)))) (((1 : Int) : Rat) / (mxQ (((-1 : Int) : Rat)) (((1 : Int) : Rat))))) (mx4 ((mnQ (((-1 : Int) : Rat)) (((2 : Int) : Rat))) * (mnQ (((3 : Int) : Rat)) (((4 : Int) : Rat)))) ((mnQ (((-1 : Int) : Rat)) (((2 : Int) : Rat))) * (mxQ (((3 : Int) : Rat)) (((4 : Int) : Rat)))) ((mxQ (((-1 : Int) : Rat)) (((2 : Int) : Rat))) * (mnQ (((3 : Int) : Rat)) (((4 : Int) : Rat)))) ((mxQ (((-1 : Int) : Rat)) (((2 : Int) : Rat))) * (mxQ (((3 : Int) : Rat)) (((4 : Int) : Rat)))) * mnQ (((1 : Int) : Rat) / (mnQ (((-1 : Int) : Rat)) (((1 : Int) : Rat)))) (((1 : Int) : Rat) / (mxQ (((-1 : Int) : Rat)) (((1 : Int) : Rat))))) (mx4 ((mnQ (((-1 : Int) : Rat)) (((2 : Int) : Rat))) * (mnQ (((3 : Int) : Rat)) (((4 : Int) : Rat)))) ((mnQ (((-1 : Int) : Rat)) (((2 : Int) : Rat))) * (mxQ (((3 : Int) : Rat)) (((4 : Int) : Rat)))) ((mxQ (((-1 : Int) : Rat)) (((2 : Int) : Rat))) * (mnQ (((3 : Int) : Rat)) (((4 : Int) : Rat)))) ((mxQ (((-1 : Int) : Rat)) (((2 : Int) : Rat))) * (mxQ (((3 : Int) : Rat)) (((4 : Int) : Rat)))) * mxQ (((1 : Int) : Rat) / (mnQ (((-1 : Int) : Rat)) (((1 : Int) : Rat)))) (((1 : Int) : Rat) / (mxQ (((-1 : Int) : Rat)) (((1 : Int) : Rat)))))) (sgE (mnQ (((-1 : Int) : Rat)) (((1 : Int) : Rat))) (mxQ (((-1 : Int) : Rat)) (((1 : Int) : Rat)))) 38)) (mV (.int .i64 (sgE (mnQ (((-1 : Int) : Rat)) (((1 : Int) : Rat))) (mxQ (((-1 : Int) : Rat)) (((1 : Int) : Rat))))))).b, (mP (mE (mn4 (mn4 ((mnQ (((-1 : Int) : Rat)) (((2 : Int) : Rat))) * (mnQ (((3 : Int) : Rat)) (((4 : Int) : Rat)))) ((mnQ (((-1 : Int) : Rat)) (((2 : Int) : Rat))) * (mxQ (((3 : Int) : Rat)) (((4 : Int) : Rat)))) ((mxQ (((-1 : Int) : Rat)) (((2 : Int) : Rat))) * (mnQ (((3 : Int) : Rat)) (((4 : Int) : Rat)))) ((mxQ (((-1 : Int) : Rat)) (((2 : Int) : Rat))) * (mxQ (((3 : Int) : Rat)) (((4 : Int) : Rat)))) * mnQ (((1 : Int) : Rat) / (mnQ (((-1 : Int) : Rat)) (((1 : Int) : Rat)))) (((1 : Int) : Rat) / (mxQ (((-1 : Int) : Rat)) (((1 : Int) : Rat))))) (mn4 ((mnQ (((-1 : Int) : Rat)) (((2 : Int) : Rat))) * (mnQ (((3 : Int) : Rat)) (((4 : Int) : Rat)))) ((mnQ (((-1 : Int) : Rat)) (((2 : Int) : Rat))) * (mxQ (((3 : Int) : Rat)) (((4 : Int) : Rat)))) ((mxQ (((-1 : Int) : Rat)) (((2 : Int) : Rat))) * (mnQ (((3 : Int) : Rat)) (((4 : Int) : Rat)))) ((mxQ (((-1 : Int) : Rat)) (((2 : Int) : Rat))) * (mxQ (((3 : Int) : Rat)) (((4 : Int) : Rat)))) * mxQ (((1 : Int) : Rat) / (mnQ (((-1 : Int) : Rat)) (((1 : Int) : Rat)))) (((1 : Int) : Rat) / (mxQ (((-1 : Int) : Rat)) (((1 : Int) : Rat))))) (mx4 ((mnQ (((-1 : Int) : Rat)) (((2 : Int) : Rat))) * (mnQ (((3 : Int) : Rat)) (((4 : Int) : Rat)))) ((mnQ (((-1 : Int) : Rat)) (((2 : Int) : Rat))) * (mxQ (((3 : Int) : Rat)) (((4 : Int) : Rat)))) ((mxQ (((-1 : Int) : Rat)) (((2 : Int) : Rat))) * (mnQ (((3 : Int) : Rat)) (((4 : Int) : Rat)))) ((mxQ (((-1 : Int) : Rat)) (((2 : Int) : Rat))) * (mxQ (((3 : Int) : Rat)) (((4 : Int) : Rat)))) * mnQ (((1 : Int) : Rat) / (mnQ (((-1 : Int) : Rat)) (((1 : Int) : Rat)))) (((1 : Int) : Rat) / (mxQ (((-1 : Int) : Rat)) (((1 : Int) : Rat))))) (mx4 ((mnQ (((-1 : Int) : Rat)) (((2 : Int) : Rat))) * (mnQ (((3 : Int) : Rat)) (((4 : Int) : Rat)))) ((mnQ (((-1 : Int) : Rat)) (((2 : Int) : Rat))) * (mxQ (((3 : Int) : Rat)) (((4 : Int) : Rat)))) ((mxQ (((-1 : Int) : Rat)) (((2 : Int) : Rat))) * (mnQ (((3 : Int) : Rat)) (((4 : Int) : Rat)))) ((mxQ (((-1 : Int) : Rat)) (((2 : Int) : Rat))) * (mxQ (((3 : Int) : Rat)) (((4 : Int) : Rat)))) * mxQ (((1 : Int) : Rat) / (mnQ (((-1 : Int) : Rat)) (((1 : Int) : Rat)))) (((1 : Int) : Rat) / (mxQ (((-1 : Int) : Rat)) (((1 : Int) : Rat)))))) (sgE (mnQ (((-1 : Int) : Rat)) (((1 : Int) : Rat))) (mxQ (((-1 : Int) : Rat)) (((1 : Int) : Rat)))) 38) (mE (mx4 (mn4 ((mnQ (((-1 : Int) : Rat)) (((2 : Int) : Rat))) * (mnQ (((3 : Int) : Rat)) (((4 : Int) : Rat)))) ((mnQ (((-1 : Int) : Rat)) (((2 : Int) : Rat))) * (mxQ (((3 : Int) : Rat)) (((4 : Int) : Rat)))) ((mxQ (((-1 : Int) : Rat)) (((2 : Int) : Rat))) * (mnQ (((3 : Int) : Rat)) (((4 : Int) : Rat)))) ((mxQ (((-1 : Int) : Rat)) (((2 : Int) : Rat))) * (mxQ (((3 : Int) : Rat)) (((4 : Int) : Rat)))) * mnQ (((1 : Int) : Rat) / (mnQ (((-1 : Int) : Rat)) (((1 : Int) : Rat)))) (((1 : Int) : Rat) / (mxQ (((-1 : Int) : Rat)) (((1 : Int) : Rat))))) (mn4 ((mnQ (((-1 : Int) : Rat)) (((2 : Int) : Rat))) * (mnQ (((3 : Int) : Rat)) (((4 : Int) : Rat)))) ((mnQ (((-1 : Int) : Rat)) (((2 : Int) : Rat))) * (mxQ (((3 : Int) : Rat)) (((4 : Int) : Rat)))) ((mxQ (((-1 : Int) : Rat)) (((2 : Int) : Rat))) * (mnQ (((3 : Int) : Rat)) (((4 : Int) : Rat)))) ((mxQ (((-1 : Int) : Rat)) (((2 : Int) : Rat))) * (mxQ (((3 : Int) : Rat)) (((4 : Int) : Rat)))) * mxQ (((1 : Int) : Rat) / (mnQ (((-1 : Int) : Rat)) (((1 : Int) : Rat)))) (((1 : Int) : Rat) / (mxQ (((-1 : Int) : Rat)) (((1 : Int) : Rat))))) (mx4 ((mnQ (((-1 : Int) : Rat)) (((2 : Int) : Rat))) * (mnQ (((3 : Int) : Rat)) (((4 : Int) : Rat)))) ((mnQ (((-1 : Int) : Rat)) (((2 : Int) : Rat))) * (mxQ (((3 : Int) : Rat)) (((4 : Int) : Rat)))) ((mxQ (((-1 : Int) : Rat)) (((2 : Int) : Rat))) * (mnQ (((3 : Int) : Rat)) (((4 : Int) : Rat)))) ((mxQ (((-1 : Int) : Rat)) (((2 : Int) : Rat))) * (mxQ (((3 : Int) : Rat)) (((4 : Int) : Rat)))) * mnQ (((1 : Int) : Rat) / (mnQ (((-1 : Int) : Rat)) (((1 : Int) : Rat)))) (((1 : Int) : Rat) / (mxQ (((-1 : Int) : Rat)) (((1 : Int) : Rat))))) (mx4 ((mnQ (((-1 : Int) : Rat)) (((2 : Int) : Rat))) * (mnQ (((3 : Int) : Rat)) (((4 : Int) : Rat)))) ((mnQ (((-1 : Int) : Rat)) (((2 : Int) : Rat))) * (mxQ (((3 : Int) : Rat)) (((4 : Int) : Rat)))) ((mxQ (((-1 : Int) : Rat)) (((2 : Int) : Rat))) * (mnQ (((3 : Int) : Rat)) (((4 : Int) : Rat)))) ((mxQ (((-1 : Int) : Rat)) (((2 : Int) : Rat))) * (mxQ (((3 : Int) : Rat)) (((4 : Int) : Rat)))) * mxQ (((1 : Int) : Rat) / (mnQ (((-1 : Int) : Rat)) (((1 : Int) : Rat)))) (((1 : Int) : Rat) / (mxQ (((-1 : Int) : Rat)) (((1 : Int) : Rat)))))) (sgE (mnQ (((-1 : Int) : Rat)) (((1 : Int) : Rat))) (mxQ (((-1 : Int) : Rat)) (((1 : Int) : Rat)))) 38)).b, (mV (.int .i64 (sgE (mnQ (((-1 : Int) : Rat)) (((1 : Int) : Rat))) (mxQ (((-1 : Int) : Rat)) (((1 : Int) : Rat)))))).b, (mNew w79.heap.size 44 6)]) (by kernel_rfl) (by rw [z68]; kernel_rfl) (fun _ => ⟨by kernel_rfl, fun c a d v w h => by cases d <;> exact h, ?_⟩) (mG_mono _) (ops_ok ⟨?_, ?_, ?_, ?_, ?_, ?_, ?_, ?_, ?_, trivial⟩) ?_
 · intro i o hi ho a w hb hs hf hd
   obtain rfl : i = 7 := by simpa using hi
   have ho2 := Option.some.inj (show some _ = some o from ho)
   subst ho2
   replace hd : Deps _ _ _ a w := hd
   obtain ⟨x, y, h1, h2, h3⟩ := (hd.at 0 rfl rfl rfl rfl)
   exact ⟨_, Or.inl ⟨wanted_none rfl _, fun _ => run_extract_op rfl (ev h1) rfl⟩, fun _ _ => h3⟩
 · refine opk_pure rfl rfl fun a w hb hf hd => ?_
   obtain ⟨cs, h1, h2, h3, h4, h5⟩ := bx.below hb x85
   exact ⟨_, run_load_row _ _ rfl (ev ((hf 1 (out_of (by kernel_rfl))).trans s71)) h1 Tryz.underlying44 rfl (by rw [h2]; exact info_Interval), fun _ _ => h5⟩
 · refine opk_call rfl rfl fun a w hb hf hd => ?_
   exact ⟨96, #[.int .i64 (-1)], run_call rfl rfl (fun _ _ => by kernel_rfl) (args_1 rfl), (r_of (-1) (by omega) (by omega)).mono fun _ _ r => RetS.imp (fun _ _ h => fun _ _ => (isC.mono h (by omega))) r⟩
 · refine opk_call rfl rfl fun a w hb hf hd => ?_
   exact ⟨96, #[.int .i64 1], run_call rfl rfl (fun _ _ => by kernel_rfl) (args_1 rfl), (r_of 1 (by omega) (by omega)).mono fun _ _ r => RetS.imp (fun _ _ h => fun _ _ => (isC.mono h (by omega))) r⟩
 · refine opk_call rfl rfl fun a w hb hf hd => ?_
   have e0 : a.eval (.tmp 18) = sl a 18 := rfl
   have e1 : a.eval (.tmp 19) = sl a 19 := rfl
   exact ⟨44, #[sl a 18, sl a 19], run_call rfl rfl (fun _ _ => by kernel_rfl) (args_2 e0 e1), (r4_make  (by omega) (by omega) (isC.r (hd.at 0 rfl rfl rfl rfl)) (isC.r (hd.at 1 rfl rfl rfl rfl))).mono fun _ _ r => RetS.imp (fun _ _ h => fun _ _ => (mP_imp (fun _ h => (isC.mono h (by omega))) (fun _ h => (isC.mono h (by omega))) h)) r⟩
 · refine opk_call rfl rfl fun a w hb hf hd => ?_
   have e0 : a.eval (.tmp 17) = sl a 17 := rfl
   have e1 : a.eval (.tmp 20) = sl a 20 := rfl
   exact ⟨26, #[sl a 17, sl a 20], run_call rfl rfl (fun _ _ => by kernel_rfl) (args_2 e0 e1), (iv_div  (by omega) (by omega) (mP_imp (m1' := (mR (mn4 ((mnQ (((-1 : Int) : Rat)) (((2 : Int) : Rat))) * (mnQ (((3 : Int) : Rat)) (((4 : Int) : Rat)))) ((mnQ (((-1 : Int) : Rat)) (((2 : Int) : Rat))) * (mxQ (((3 : Int) : Rat)) (((4 : Int) : Rat)))) ((mxQ (((-1 : Int) : Rat)) (((2 : Int) : Rat))) * (mnQ (((3 : Int) : Rat)) (((4 : Int) : Rat)))) ((mxQ (((-1 : Int) : Rat)) (((2 : Int) : Rat))) * (mxQ (((3 : Int) : Rat)) (((4 : Int) : Rat))))) 21)) (m2' := (mR (mx4 ((mnQ (((-1 : Int) : Rat)) (((2 : Int) : Rat))) * (mnQ (((3 : Int) : Rat)) (((4 : Int) : Rat)))) ((mnQ (((-1 : Int) : Rat)) (((2 : Int) : Rat))) * (mxQ (((3 : Int) : Rat)) (((4 : Int) : Rat)))) ((mxQ (((-1 : Int) : Rat)) (((2 : Int) : Rat))) * (mnQ (((3 : Int) : Rat)) (((4 : Int) : Rat)))) ((mxQ (((-1 : Int) : Rat)) (((2 : Int) : Rat))) * (mxQ (((3 : Int) : Rat)) (((4 : Int) : Rat))))) 21)) (fun _ h => (isC.r h)) (fun _ h => (isC.r h)) (hd.at 0 rfl rfl rfl rfl)) (mP_imp (m1' := (mR (mnQ (((-1 : Int) : Rat)) (((1 : Int) : Rat))) 9)) (m2' := (mR (mxQ (((-1 : Int) : Rat)) (((1 : Int) : Rat))) 9)) (fun _ h => (isC.r h)) (fun _ h => (isC.r h)) (hd.at 1 rfl rfl rfl rfl)) (hT.below (B84.trans (hb.mono B84.size)))).mono fun _ _ r => RetS.imp (fun _ _ h => fun _ _ => (mT_imp (fun _ h => (mP_imp (fun _ h => (isE.mono h (by omega))) (fun _ h => (isE.mono h (by omega))) h)) (fun _ h => h) h)) r⟩
 · exact opk_pure rfl rfl fun a w hb hf hd => ⟨_, run_move rfl, fun _ _ => (hd.at 0 rfl rfl rfl rfl)⟩
 · refine opk_pure rfl rfl fun a w hb hf hd => ?_
   obtain ⟨x, y, h1, h2, h3⟩ := (hd.at 0 rfl rfl rfl rfl)
   exact ⟨_, run_extract_op rfl (ev h1) rfl, fun _ _ => h2⟩
 · refine opk_pure rfl rfl fun a w hb hf hd => ?_
   obtain ⟨x, y, h1, h2, h3⟩ := (hd.at 0 rfl rfl rfl rfl)
   exact ⟨_, run_extract_op rfl (ev h1) rfl, fun _ _ => h3⟩
 · refine opk_alloc rfl fun a w hb hf hd => ⟨_, _, run_alloc_op rfl zero_Interval, below_alloc _ _, fun _ _ => ⟨_, rfl, hb.size, bx_Interval (heap_alloc_at _ _)⟩, fun _ => ⟨_, rfl, Nat.le_refl _, by simp⟩⟩
 intro a87 w88 ms89
 have B90 := B84.trans (ms89.b.mono B84.size)
 have z91 := ms89.sz.trans z68
 have d92 := ms89.df.trans d69
 have s94 := (ms89.fr 1 (out_of (by kernel_rfl))).trans s71
 have s95 := (ms89.fr 2 (out_of (by kernel_rfl))).trans s63
 have x96 := bx.below ms89.b x80
 have x97 := bx.below ms89.b x85
 have s98 : (mP (mE (mn4 (mn4 ((mnQ (((-1 : Int) : Rat)) (((2 : Int) : Rat))) * (mnQ (((3 : Int) : Rat)) (((4 : Int) : Rat)))) ((mnQ (((-1 : Int) : Rat)) (((2 : Int) : Rat))) * (mxQ (((3 : Int) : Rat)) (((4 : Int) : Rat)))) ((mxQ (((-1 : Int) : Rat)) (((2 : Int) : Rat))) * (mnQ (((3 : Int) : Rat)) (((4 : Int) : Rat)))) ((mxQ (((-1 : Int) : Rat)) (((2 : Int) : Rat))) * (mxQ (((3 : Int) : Rat)) (((4 : Int) : Rat)))) * mnQ (((1 : Int) : Rat) / (mnQ (((-1 : Int) : Rat)) (((1 : Int) : Rat)))) (((1 : Int) : Rat) / (mxQ (((-1 : Int) : Rat)) (((1 : Int) : Rat))))) (mn4 ((mnQ (((-1 : Int) : Rat)) (((2 : Int) : Rat))) * (mnQ (((3 : Int) : Rat)) (((4 : Int) : Rat)))) ((mnQ (((-1 : Int) : Rat)) (((2 : Int) : Rat))) * (mxQ (((3 : Int) : Rat)) (((4 : Int) : Rat)))) ((mxQ (((-1 : Int) : Rat)) (((2 : Int) : Rat))) * (mnQ (((3 : Int) : Rat)) (((4 : Int) : Rat)))) ((mxQ (((-1 : Int) : Rat)) (((2 : Int) : Rat))) * (mxQ (((3 : Int) : Rat)) (((4 : Int) : Rat)))) * mxQ (((1 : Int) : Rat) / (mnQ (((-1 : Int) : Rat)) (((1 : Int) : Rat)))) (((1 : Int) : Rat) / (mxQ (((-1 : Int) : Rat)) (((1 : Int) : Rat))))) (mx4 ((mnQ (((-1 : Int) : Rat)) (((2 : Int) : Rat))) * (mnQ (((3 : Int) : Rat)) (((4 : Int) : Rat)))) ((mnQ (((-1 : Int) : Rat)) (((2 : Int) : Rat))) * (mxQ (((3 : Int) : Rat)) (((4 : Int) : Rat)))) ((mxQ (((-1 : Int) : Rat)) (((2 : Int) : Rat))) * (mnQ (((3 : Int) : Rat)) (((4 : Int) : Rat)))) ((mxQ (((-1 : Int) : Rat)) (((2 : Int) : Rat))) * (mxQ (((3 : Int) : Rat)) (((4 : Int) : Rat)))) * mnQ (((1 : Int) : Rat) / (mnQ (((-1 : Int) : Rat)) (((1 : Int) : Rat)))) (((1 : Int) : Rat) / (mxQ (((-1 : Int) : Rat)) (((1 : Int) : Rat))))) (mx4 ((mnQ (((-1 : Int) : Rat)) (((2 : Int) : Rat))) * (mnQ (((3 : Int) : Rat)) (((4 : Int) : Rat)))) ((mnQ (((-1 : Int) : Rat)) (((2 : Int) : Rat))) * (mxQ (((3 : Int) : Rat)) (((4 : Int) : Rat)))) ((mxQ (((-1 : Int) : Rat)) (((2 : Int) : Rat))) * (mnQ (((3 : Int) : Rat)) (((4 : Int) : Rat)))) ((mxQ (((-1 : Int) : Rat)) (((2 : Int) : Rat))) * (mxQ (((3 : Int) : Rat)) (((4 : Int) : Rat)))) * mxQ (((1 : Int) : Rat) / (mnQ (((-1 : Int) : Rat)) (((1 : Int) : Rat)))) (((1 : Int) : Rat) / (mxQ (((-1 : Int) : Rat)) (((1 : Int) : Rat)))))) (sgE (mnQ (((-1 : Int) : Rat)) (((1 : Int) : Rat))) (mxQ (((-1 : Int) : Rat)) (((1 : Int) : Rat)))) 38) (mE (mx4 (mn4 ((mnQ (((-1 : Int) : Rat)) (((2 : Int) : Rat))) * (mnQ (((3 : Int) : Rat)) (((4 : Int) : Rat)))) ((mnQ (((-1 : Int) : Rat)) (((2 : Int) : Rat))) * (mxQ (((3 : Int) : Rat)) (((4 : Int) : Rat)))) ((mxQ (((-1 : Int) : Rat)) (((2 : Int) : Rat))) * (mnQ (((3 : Int) : Rat)) (((4 : Int) : Rat)))) ((mxQ (((-1 : Int) : Rat)) (((2 : Int) : Rat))) * (mxQ (((3 : Int) : Rat)) (((4 : Int) : Rat)))) * mnQ (((1 : Int) : Rat) / (mnQ (((-1 : Int) : Rat)) (((1 : Int) : Rat)))) (((1 : Int) : Rat) / (mxQ (((-1 : Int) : Rat)) (((1 : Int) : Rat))))) (mn4 ((mnQ (((-1 : Int) : Rat)) (((2 : Int) : Rat))) * (mnQ (((3 : Int) : Rat)) (((4 : Int) : Rat)))) ((mnQ (((-1 : Int) : Rat)) (((2 : Int) : Rat))) * (mxQ (((3 : Int) : Rat)) (((4 : Int) : Rat)))) ((mxQ (((-1 : Int) : Rat)) (((2 : Int) : Rat))) * (mnQ (((3 : Int) : Rat)) (((4 : Int) : Rat)))) ((mxQ (((-1 : Int) : Rat)) (((2 : Int) : Rat))) * (mxQ (((3 : Int) : Rat)) (((4 : Int) : Rat)))) * mxQ (((1 : Int) : Rat) / (mnQ (((-1 : Int) : Rat)) (((1 : Int) : Rat)))) (((1 : Int) : Rat) / (mxQ (((-1 : Int) : Rat)) (((1 : Int) : Rat))))) (mx4 ((mnQ (((-1 : Int) : Rat)) (((2 : Int) : Rat))) * (mnQ (((3 : Int) : Rat)) (((4 : Int) : Rat)))) ((mnQ (((-1 : Int) : Rat)) (((2 : Int) : Rat))) * (mxQ (((3 : Int) : Rat)) (((4 : Int) : Rat)))) ((mxQ (((-1 : Int) : Rat)) (((2 : Int) : Rat))) * (mnQ (((3 : Int) : Rat)) (((4 : Int) : Rat)))) ((mxQ (((-1 : Int) : Rat)) (((2 : Int) : Rat))) * (mxQ (((3 : Int) : Rat)) (((4 : Int) : Rat)))) * mnQ (((1 : Int) : Rat) / (mnQ (((-1 : Int) : Rat)) (((1 : Int) : Rat)))) (((1 : Int) : Rat) / (mxQ (((-1 : Int) : Rat)) (((1 : Int) : Rat))))) (mx4 ((mnQ (((-1 : Int) : Rat)) (((2 : Int) : Rat))) * (mnQ (((3 : Int) : Rat)) (((4 : Int) : Rat)))) ((mnQ (((-1 : Int) : Rat)) (((2 : Int) : Rat))) * (mxQ (((3 : Int) : Rat)) (((4 : Int) : Rat)))) ((mxQ (((-1 : Int) : Rat)) (((2 : Int) : Rat))) * (mnQ (((3 : Int) : Rat)) (((4 : Int) : Rat)))) ((mxQ (((-1 : Int) : Rat)) (((2 : Int) : Rat))) * (mxQ (((3 : Int) : Rat)) (((4 : Int) : Rat)))) * mxQ (((1 : Int) : Rat) / (mnQ (((-1 : Int) : Rat)) (((1 : Int) : Rat)))) (((1 : Int) : Rat) / (mxQ (((-1 : Int) : Rat)) (((1 : Int) : Rat)))))) (sgE (mnQ (((-1 : Int) : Rat)) (((1 : Int) : Rat))) (mxQ (((-1 : Int) : Rat)) (((1 : Int) : Rat)))) 38)).S w88 (sl a87 22) := ms89.g 6 _ 22 rfl (by decide) trivial rfl
 have s99 : sl a87 23 = .int .i64 (sgE (mnQ (((-1 : Int) : Rat)) (((1 : Int) : Rat))) (mxQ (((-1 : Int) : Rat)) (((1 : Int) : Rat)))) := ms89.g 7 _ 23 rfl (by decide) trivial rfl
 obtain ⟨g101, s100, e103, x102⟩ := ms89.g 8 _ 3 rfl (by decide) trivial rfl
 have ne104 : g25 ≠ g101 := by have := x85.lt; omega
 have ne105 : g60 ≠ g101 := by have := x80.lt; omega
 have lw106 : w.heap.size ≤ g101 := by have := B84.size; omega
 refine tl_put rfl rfl rfl (m' := (mP (mE (mn4 (mn4 ((mnQ (((-1 : Int) : Rat)) (((2 : Int) : Rat))) * (mnQ (((3 : Int) : Rat)) (((4 : Int) : Rat)))) ((mnQ (((-1 : Int) : Rat)) (((2 : Int) : Rat))) * (mxQ (((3 : Int) : Rat)) (((4 : Int) : Rat)))) ((mxQ (((-1 : Int) : Rat)) (((2 : Int) : Rat))) * (mnQ (((3 : Int) : Rat)) (((4 : Int) : Rat)))) ((mxQ (((-1 : Int) : Rat)) (((2 : Int) : Rat))) * (mxQ (((3 : Int) : Rat)) (((4 : Int) : Rat)))) * mnQ (((1 : Int) : Rat) / (mnQ (((-1 : Int) : Rat)) (((1 : Int) : Rat)))) (((1 : Int) : Rat) / (mxQ (((-1 : Int) : Rat)) (((1 : Int) : Rat))))) (mn4 ((mnQ (((-1 : Int) : Rat)) (((2 : Int) : Rat))) * (mnQ (((3 : Int) : Rat)) (((4 : Int) : Rat)))) ((mnQ (((-1 : Int) : Rat)) (((2 : Int) : Rat))) * (mxQ (((3 : Int) : Rat)) (((4 : Int) : Rat)))) ((mxQ (((-1 : Int) : Rat)) (((2 : Int) : Rat))) * (mnQ (((3 : Int) : Rat)) (((4 : Int) : Rat)))) ((mxQ (((-1 : Int) : Rat)) (((2 : Int) : Rat))) * (mxQ (((3 : Int) : Rat)) (((4 : Int) : Rat)))) * mxQ (((1 : Int) : Rat) / (mnQ (((-1 : Int) : Rat)) (((1 : Int) : Rat)))) (((1 : Int) : Rat) / (mxQ (((-1 : Int) : Rat)) (((1 : Int) : Rat))))) (mx4 ((mnQ (((-1 : Int) : Rat)) (((2 : Int) : Rat))) * (mnQ (((3 : Int) : Rat)) (((4 : Int) : Rat)))) ((mnQ (((-1 : Int) : Rat)) (((2 : Int) : Rat))) * (mxQ (((3 : Int) : Rat)) (((4 : Int) : Rat)))) ((mxQ (((-1 : Int) : Rat)) (((2 : Int) : Rat))) * (mnQ (((3 : Int) : Rat)) (((4 : Int) : Rat)))) ((mxQ (((-1 : Int) : Rat)) (((2 : Int) : Rat))) * (mxQ (((3 : Int) : Rat)) (((4 : Int) : Rat)))) * mnQ (((1 : Int) : Rat) / (mnQ (((-1 : Int) : Rat)) (((1 : Int) : Rat)))) (((1 : Int) : Rat) / (mxQ (((-1 : Int) : Rat)) (((1 : Int) : Rat))))) (mx4 ((mnQ (((-1 : Int) : Rat)) (((2 : Int) : Rat))) * (mnQ (((3 : Int) : Rat)) (((4 : Int) : Rat)))) ((mnQ (((-1 : Int) : Rat)) (((2 : Int) : Rat))) * (mxQ (((3 : Int) : Rat)) (((4 : Int) : Rat)))) ((mxQ (((-1 : Int) : Rat)) (((2 : Int) : Rat))) * (mnQ (((3 : Int) : Rat)) (((4 : Int) : Rat)))) ((mxQ (((-1 : Int) : Rat)) (((2 : Int) : Rat))) * (mxQ (((3 : Int) : Rat)) (((4 : Int) : Rat)))) * mxQ (((1 : Int) : Rat) / (mnQ (((-1 : Int) : Rat)) (((1 : Int) : Rat)))) (((1 : Int) : Rat) / (mxQ (((-1 : Int) : Rat)) (((1 : Int) : Rat)))))) (sgE (mnQ (((-1 : Int) : Rat)) (((1 : Int) : Rat))) (mxQ (((-1 : Int) : Rat)) (((1 : Int) : Rat)))) 38) (mE (mx4 (mn4 ((mnQ (((-1 : Int) : Rat)) (((2 : Int) : Rat))) * (mnQ (((3 : Int) : Rat)) (((4 : Int) : Rat)))) ((mnQ (((-1 : Int) : Rat)) (((2 : Int) : Rat))) * (mxQ (((3 : Int) : Rat)) (((4 : Int) : Rat)))) ((mxQ (((-1 : Int) : Rat)) (((2 : Int) : Rat))) * (mnQ (((3 : Int) : Rat)) (((4 : Int) : Rat)))) ((mxQ (((-1 : Int) : Rat)) (((2 : Int) : Rat))) * (mxQ (((3 : Int) : Rat)) (((4 : Int) : Rat)))) * mnQ (((1 : Int) : Rat) / (mnQ (((-1 : Int) : Rat)) (((1 : Int) : Rat)))) (((1 : Int) : Rat) / (mxQ (((-1 : Int) : Rat)) (((1 : Int) : Rat))))) (mn4 ((mnQ (((-1 : Int) : Rat)) (((2 : Int) : Rat))) * (mnQ (((3 : Int) : Rat)) (((4 : Int) : Rat)))) ((mnQ (((-1 : Int) : Rat)) (((2 : Int) : Rat))) * (mxQ (((3 : Int) : Rat)) (((4 : Int) : Rat)))) ((mxQ (((-1 : Int) : Rat)) (((2 : Int) : Rat))) * (mnQ (((3 : Int) : Rat)) (((4 : Int) : Rat)))) ((mxQ (((-1 : Int) : Rat)) (((2 : Int) : Rat))) * (mxQ (((3 : Int) : Rat)) (((4 : Int) : Rat)))) * mxQ (((1 : Int) : Rat) / (mnQ (((-1 : Int) : Rat)) (((1 : Int) : Rat)))) (((1 : Int) : Rat) / (mxQ (((-1 : Int) : Rat)) (((1 : Int) : Rat))))) (mx4 ((mnQ (((-1 : Int) : Rat)) (((2 : Int) : Rat))) * (mnQ (((3 : Int) : Rat)) (((4 : Int) : Rat)))) ((mnQ (((-1 : Int) : Rat)) (((2 : Int) : Rat))) * (mxQ (((3 : Int) : Rat)) (((4 : Int) : Rat)))) ((mxQ (((-1 : Int) : Rat)) (((2 : Int) : Rat))) * (mnQ (((3 : Int) : Rat)) (((4 : Int) : Rat)))) ((mxQ (((-1 : Int) : Rat)) (((2 : Int) : Rat))) * (mxQ (((3 : Int) : Rat)) (((4 : Int) : Rat)))) * mnQ (((1 : Int) : Rat) / (mnQ (((-1 : Int) : Rat)) (((1 : Int) : Rat)))) (((1 : Int) : Rat) / (mxQ (((-1 : Int) : Rat)) (((1 : Int) : Rat))))) (mx4 ((mnQ (((-1 : Int) : Rat)) (((2 : Int) : Rat))) * (mnQ (((3 : Int) : Rat)) (((4 : Int) : Rat)))) ((mnQ (((-1 : Int) : Rat)) (((2 : Int) : Rat))) * (mxQ (((3 : Int) : Rat)) (((4 : Int) : Rat)))) ((mxQ (((-1 : Int) : Rat)) (((2 : Int) : Rat))) * (mnQ (((3 : Int) : Rat)) (((4 : Int) : Rat)))) ((mxQ (((-1 : Int) : Rat)) (((2 : Int) : Rat))) * (mxQ (((3 : Int) : Rat)) (((4 : Int) : Rat)))) * mxQ (((1 : Int) : Rat) / (mnQ (((-1 : Int) : Rat)) (((1 : Int) : Rat)))) (((1 : Int) : Rat) / (mxQ (((-1 : Int) : Rat)) (((1 : Int) : Rat)))))) (sgE (mnQ (((-1 : Int) : Rat)) (((1 : Int) : Rat))) (mxQ (((-1 : Int) : Rat)) (((1 : Int) : Rat)))) 38))) x102 (ev s100) s98 (mP.cv (fun _ h => (isE.cv h)) (fun _ h => (isE.cv h)) s98) info_Interval ?_
 intro w107 x108 ex109 ot110 bl111
 have B112 := bl111 w (by omega) B90
 have x113 := ot110 (by omega) x96
 have x114 := ot110 (by omega) x97
 have s115 := (mP (mE (mn4 (mn4 ((mnQ (((-1 : Int) : Rat)) (((2 : Int) : Rat))) * (mnQ (((3 : Int) : Rat)) (((4 : Int) : Rat)))) ((mnQ (((-1 : Int) : Rat)) (((2 : Int) : Rat))) * (mxQ (((3 : Int) : Rat)) (((4 : Int) : Rat)))) ((mxQ (((-1 : Int) : Rat)) (((2 : Int) : Rat))) * (mnQ (((3 : Int) : Rat)) (((4 : Int) : Rat)))) ((mxQ (((-1 : Int) : Rat)) (((2 : Int) : Rat))) * (mxQ (((3 : Int) : Rat)) (((4 : Int) : Rat)))) * mnQ (((1 : Int) : Rat) / (mnQ (((-1 : Int) : Rat)) (((1 : Int) : Rat)))) (((1 : Int) : Rat) / (mxQ (((-1 : Int) : Rat)) (((1 : Int) : Rat))))) (mn4 ((mnQ (((-1 : Int) : Rat)) (((2 : Int) : Rat))) * (mnQ (((3 : Int) : Rat)) (((4 : Int) : Rat)))) ((mnQ (((-1 : Int) : Rat)) (((2 : Int) : Rat))) * (mxQ (((3 : Int) : Rat)) (((4 : Int) : Rat)))) ((mxQ (((-1 : Int) : Rat)) (((2 : Int) : Rat))) * (mnQ (((3 : Int) : Rat)) (((4 : Int) : Rat)))) ((mxQ (((-1 : Int) : Rat)) (((2 : Int) : Rat))) * (mxQ (((3 : Int) : Rat)) (((4 : Int) : Rat)))) * mxQ (((1 : Int) : Rat) / (mnQ (((-1 : Int) : Rat)) (((1 : Int) : Rat)))) (((1 : Int) : Rat) / (mxQ (((-1 : Int) : Rat)) (((1 : Int) : Rat))))) (mx4 ((mnQ (((-1 : Int) : Rat)) (((2 : Int) : Rat))) * (mnQ (((3 : Int) : Rat)) (((4 : Int) : Rat)))) ((mnQ (((-1 : Int) : Rat)) (((2 : Int) : Rat))) * (mxQ (((3 : Int) : Rat)) (((4 : Int) : Rat)))) ((mxQ (((-1 : Int) : Rat)) (((2 : Int) : Rat))) * (mnQ (((3 : Int) : Rat)) (((4 : Int) : Rat)))) ((mxQ (((-1 : Int) : Rat)) (((2 : Int) : Rat))) * (mxQ (((3 : Int) : Rat)) (((4 : Int) : Rat)))) * mnQ (((1 : Int) : Rat) / (mnQ (((-1 : Int) : Rat)) (((1 : Int) : Rat)))) (((1 : Int) : Rat) / (mxQ (((-1 : Int) : Rat)) (((1 : Int) : Rat))))) (mx4 ((mnQ (((-1 : Int) : Rat)) (((2 : Int) : Rat))) * (mnQ (((3 : Int) : Rat)) (((4 : Int) : Rat)))) ((mnQ (((-1 : Int) : Rat)) (((2 : Int) : Rat))) * (mxQ (((3 : Int) : Rat)) (((4 : Int) : Rat)))) ((mxQ (((-1 : Int) : Rat)) (((2 : Int) : Rat))) * (mnQ (((3 : Int) : Rat)) (((4 : Int) : Rat)))) ((mxQ (((-1 : Int) : Rat)) (((2 : Int) : Rat))) * (mxQ (((3 : Int) : Rat)) (((4 : Int) : Rat)))) * mxQ (((1 : Int) : Rat) / (mnQ (((-1 : Int) : Rat)) (((1 : Int) : Rat)))) (((1 : Int) : Rat) / (mxQ (((-1 : Int) : Rat)) (((1 : Int) : Rat)))))) (sgE (mnQ (((-1 : Int) : Rat)) (((1 : Int) : Rat))) (mxQ (((-1 : Int) : Rat)) (((1 : Int) : Rat)))) 38) (mE (mx4 (mn4 ((mnQ (((-1 : Int) : Rat)) (((2 : Int) : Rat))) * (mnQ (((3 : Int) : Rat)) (((4 : Int) : Rat)))) ((mnQ (((-1 : Int) : Rat)) (((2 : Int) : Rat))) * (mxQ (((3 : Int) : Rat)) (((4 : Int) : Rat)))) ((mxQ (((-1 : Int) : Rat)) (((2 : Int) : Rat))) * (mnQ (((3 : Int) : Rat)) (((4 : Int) : Rat)))) ((mxQ (((-1 : Int) : Rat)) (((2 : Int) : Rat))) * (mxQ (((3 : Int) : Rat)) (((4 : Int) : Rat)))) * mnQ (((1 : Int) : Rat) / (mnQ (((-1 : Int) : Rat)) (((1 : Int) : Rat)))) (((1 : Int) : Rat) / (mxQ (((-1 : Int) : Rat)) (((1 : Int) : Rat))))) (mn4 ((mnQ (((-1 : Int) : Rat)) (((2 : Int) : Rat))) * (mnQ (((3 : Int) : Rat)) (((4 : Int) : Rat)))) ((mnQ (((-1 : Int) : Rat)) (((2 : Int) : Rat))) * (mxQ (((3 : Int) : Rat)) (((4 : Int) : Rat)))) ((mxQ (((-1 : Int) : Rat)) (((2 : Int) : Rat))) * (mnQ (((3 : Int) : Rat)) (((4 : Int) : Rat)))) ((mxQ (((-1 : Int) : Rat)) (((2 : Int) : Rat))) * (mxQ (((3 : Int) : Rat)) (((4 : Int) : Rat)))) * mxQ (((1 : Int) : Rat) / (mnQ (((-1 : Int) : Rat)) (((1 : Int) : Rat)))) (((1 : Int) : Rat) / (mxQ (((-1 : Int) : Rat)) (((1 : Int) : Rat))))) (mx4 ((mnQ (((-1 : Int) : Rat)) (((2 : Int) : Rat))) * (mnQ (((3 : Int) : Rat)) (((4 : Int) : Rat)))) ((mnQ (((-1 : Int) : Rat)) (((2 : Int) : Rat))) * (mxQ (((3 : Int) : Rat)) (((4 : Int) : Rat)))) ((mxQ (((-1 : Int) : Rat)) (((2 : Int) : Rat))) * (mnQ (((3 : Int) : Rat)) (((4 : Int) : Rat)))) ((mxQ (((-1 : Int) : Rat)) (((2 : Int) : Rat))) * (mxQ (((3 : Int) : Rat)) (((4 : Int) : Rat)))) * mnQ (((1 : Int) : Rat) / (mnQ (((-1 : Int) : Rat)) (((1 : Int) : Rat)))) (((1 : Int) : Rat) / (mxQ (((-1 : Int) : Rat)) (((1 : Int) : Rat))))) (mx4 ((mnQ (((-1 : Int) : Rat)) (((2 : Int) : Rat))) * (mnQ (((3 : Int) : Rat)) (((4 : Int) : Rat)))) ((mnQ (((-1 : Int) : Rat)) (((2 : Int) : Rat))) * (mxQ (((3 : Int) : Rat)) (((4 : Int) : Rat)))) ((mxQ (((-1 : Int) : Rat)) (((2 : Int) : Rat))) * (mnQ (((3 : Int) : Rat)) (((4 : Int) : Rat)))) ((mxQ (((-1 : Int) : Rat)) (((2 : Int) : Rat))) * (mxQ (((3 : Int) : Rat)) (((4 : Int) : Rat)))) * mxQ (((1 : Int) : Rat) / (mnQ (((-1 : Int) : Rat)) (((1 : Int) : Rat)))) (((1 : Int) : Rat) / (mxQ (((-1 : Int) : Rat)) (((1 : Int) : Rat)))))) (sgE (mnQ (((-1 : Int) : Rat)) (((1 : Int) : Rat))) (mxQ (((-1 : Int) : Rat)) (((1 : Int) : Rat)))) 38)).mono _ _ _ ex109 s98
 refine tl_set rfl rfl (run_assign rfl) (by rw [z91]; decide) ?_
 intro a116 z117 d118 s119 fr120
 have s121 := s119.trans s99
 have z122 := z117.trans z91
 have d123 := d118.trans d92
 have s125 := (fr120 1 (by decide)).trans s94
 have s126 := (fr120 2 (by decide)).trans s95
 refine wpList_nil (then_normal ?_)
 refine wp_seq ?_
 refine wp_region_mono 16 [] (mG [(mV (.int .i64 (sgE (mnQ (((-1 : Int) : Rat)) (((1 : Int) : Rat))) (mxQ (((-1 : Int) : Rat)) (((1 : Int) : Rat)))))).b, (mV (.bool true)).b, (mV (.bool true)).b, (mP (mC (mn4 ((mnQ (((-1 : Int) : Rat)) (((2 : Int) : Rat))) * (mnQ (((3 : Int) : Rat)) (((4 : Int) : Rat)))) ((mnQ (((-1 : Int) : Rat)) (((2 : Int) : Rat))) * (mxQ (((3 : Int) : Rat)) (((4 : Int) : Rat)))) ((mxQ (((-1 : Int) : Rat)) (((2 : Int) : Rat))) * (mnQ (((3 : Int) : Rat)) (((4 : Int) : Rat)))) ((mxQ (((-1 : Int) : Rat)) (((2 : Int) : Rat))) * (mxQ (((3 : Int) : Rat)) (((4 : Int) : Rat))))) 21) (mC (mx4 ((mnQ (((-1 : Int) : Rat)) (((2 : Int) : Rat))) * (mnQ (((3 : Int) : Rat)) (((4 : Int) : Rat)))) ((mnQ (((-1 : Int) : Rat)) (((2 : Int) : Rat))) * (mxQ (((3 : Int) : Rat)) (((4 : Int) : Rat)))) ((mxQ (((-1 : Int) : Rat)) (((2 : Int) : Rat))) * (mnQ (((3 : Int) : Rat)) (((4 : Int) : Rat)))) ((mxQ (((-1 : Int) : Rat)) (((2 : Int) : Rat))) * (mxQ (((3 : Int) : Rat)) (((4 : Int) : Rat))))) 21)).b, (mC (((-4 : Int) : Rat)) 2).b, (mC (((8 : Int) : Rat)) 2).b, (mP (mC (mnQ (((-4 : Int) : Rat)) (((8 : Int) : Rat))) 9) (mC (mxQ (((-4 : Int) : Rat)) (((8 : Int) : Rat))) 9)).b, (mV (.bool true)).b, (mV (.bool true)).b, (mV (.bool true)).b, (mP (mC (sqL (mnQ (((-1 : Int) : Rat)) (((2 : Int) : Rat))) (mxQ (((-1 : Int) : Rat)) (((2 : Int) : Rat)))) 23) (mC (mxQ ((mnQ (((-1 : Int) : Rat)) (((2 : Int) : Rat))) * (mnQ (((-1 : Int) : Rat)) (((2 : Int) : Rat)))) ((mxQ (((-1 : Int) : Rat)) (((2 : Int) : Rat))) * (mxQ (((-1 : Int) : Rat)) (((2 : Int) : Rat))))) 23)).b, (mC (((0 : Int) : Rat)) 2).b, (mC (((4 : Int) : Rat)) 2).b, (mP (mC (mnQ (((0 : Int) : Rat)) (((4 : Int) : Rat))) 9) (mC (mxQ (((0 : Int) : Rat)) (((4 : Int) : Rat))) 9)).b, (mV (.bool true)).b, (mV (.bool true)).b]) (by kernel_rfl) (by rw [z122]; kernel_rfl) (fun h => absurd rfl h) (mG_mono _) (ops_ok ⟨?_, ?_, ?_, ?_, ?_, ?_, ?_, ?_, ?_, ?_, ?_, ?_, ?_, ?_, ?_, ?_, trivial⟩) ?_
 · exact opk_pure rfl rfl fun a w hb hf hd => ⟨_, run_move rfl, fun _ _ => ((hf 4 (out_of (by kernel_rfl))).trans s121)⟩
 · exact opk_pure rfl rfl fun a w hb hf hd => ⟨_, run_eql rfl (ev (hd.at 0 rfl rfl rfl rfl)) rfl, fun _ _ => (Eq.trans (b := Value.bool (decide ((sgE (mnQ (((-1 : Int) : Rat)) (((1 : Int) : Rat))) (mxQ (((-1 : Int) : Rat)) (((1 : Int) : Rat)))) = 3))) rfl (congrArg Value.bool (by decide +kernel)))⟩
 · exact opk_pure rfl rfl fun a w hb hf hd => ⟨_, run_move rfl, fun _ _ => (hd.at 0 rfl rfl rfl rfl)⟩
 · refine opk_guard true rfl rfl rfl rfl (by rw [z122]; decide) (fun a w hb hf hd => (hd.at 0 rfl rfl rfl rfl)) (fun h => absurd rfl h) (fun _ => ?_)
   refine opk_pure rfl rfl fun a w hb hf hd => ?_
   obtain ⟨cs, h1, h2, h3, h4, h5⟩ := bx.below hb x114
   exact ⟨_, run_load_row _ _ rfl (ev ((hf 1 (out_of (by kernel_rfl))).trans s125)) h1 Tryz.underlying44 rfl (by rw [h2]; exact info_Interval), fun _ _ => h5⟩
 · refine opk_guard true rfl rfl rfl rfl (by rw [z122]; decide) (fun a w hb hf hd => (hd.at 0 rfl rfl rfl rfl)) (fun h => absurd rfl h) (fun _ => ?_)
   refine opk_call rfl rfl fun a w hb hf hd => ?_
   exact ⟨96, #[.int .i64 (-4)], run_call rfl rfl (fun _ _ => by kernel_rfl) (args_1 rfl), (r_of (-4) (by omega) (by omega)).mono fun _ _ r => RetS.imp (fun _ _ h => fun _ _ => (isC.mono h (by omega))) r⟩
 · refine opk_guard true rfl rfl rfl rfl (by rw [z122]; decide) (fun a w hb hf hd => (hd.at 1 rfl rfl rfl rfl)) (fun h => absurd rfl h) (fun _ => ?_)
   refine opk_call rfl rfl fun a w hb hf hd => ?_
   exact ⟨96, #[.int .i64 8], run_call rfl rfl (fun _ _ => by kernel_rfl) (args_1 rfl), (r_of 8 (by omega) (by omega)).mono fun _ _ r => RetS.imp (fun _ _ h => fun _ _ => (isC.mono h (by omega))) r⟩
 · refine opk_guard true rfl rfl rfl rfl (by rw [z122]; decide) (fun a w hb hf hd => (hd.at 3 rfl rfl rfl rfl)) (fun h => absurd rfl h) (fun _ => ?_)
   refine opk_call rfl rfl fun a w hb hf hd => ?_
   have e0 : a.eval (.tmp 28) = sl a 28 := rfl
   have e1 : a.eval (.tmp 29) = sl a 29 := rfl
   exact ⟨44, #[sl a 28, sl a 29], run_call rfl rfl (fun _ _ => by kernel_rfl) (args_2 e0 e1), (r4_make  (by omega) (by omega) (isC.r (hd.at 0 rfl rfl rfl rfl)) (isC.r (hd.at 1 rfl rfl rfl rfl))).mono fun _ _ r => RetS.imp (fun _ _ h => fun _ _ => (mP_imp (fun _ h => (isC.mono h (by omega))) (fun _ h => (isC.mono h (by omega))) h)) r⟩
 · refine opk_guard true rfl rfl rfl rfl (by rw [z122]; decide) (fun a w hb hf hd => (hd.at 3 rfl rfl rfl rfl)) (fun h => absurd rfl h) (fun _ => ?_)
   refine opk_call rfl rfl fun a w hb hf hd => ?_
   have e0 : a.eval (.tmp 27) = sl a 27 := rfl
   have e1 : a.eval (.tmp 30) = sl a 30 := rfl
   exact ⟨30, #[sl a 27, sl a 30], run_call rfl rfl (fun _ _ => by kernel_rfl) (args_2 e0 e1), (r4_sameD (hd.at 0 rfl rfl rfl rfl) (hd.at 1 rfl rfl rfl rfl)).mono fun _ _ r => RetS.imp (fun _ _ h => fun _ _ => (h.trans (congrArg Value.bool (by decide +kernel)))) r⟩
 · exact opk_pure rfl rfl fun a w hb hf hd => ⟨_, run_pick rfl (ev (hd.at 0 rfl rfl rfl rfl)), fun _ _ => pick_and (fun _ => (hd.at 1 rfl rfl rfl rfl))⟩
 · exact opk_pure rfl rfl fun a w hb hf hd => ⟨_, run_move rfl, fun _ _ => (hd.at 0 rfl rfl rfl rfl)⟩
 · refine opk_guard true rfl rfl rfl rfl (by rw [z122]; decide) (fun a w hb hf hd => (hd.at 0 rfl rfl rfl rfl)) (fun h => absurd rfl h) (fun _ => ?_)
   refine opk_pure rfl rfl fun a w hb hf hd => ?_
   obtain ⟨cs, h1, h2, h3, h4, h5⟩ := bx.below hb x113
   exact ⟨_, run_load_row _ _ rfl (ev ((hf 2 (out_of (by kernel_rfl))).trans s126)) h1 Tryz.underlying44 rfl (by rw [h2]; exact info_Interval), fun _ _ => h5⟩
 · refine opk_guard true rfl rfl rfl rfl (by rw [z122]; decide) (fun a w hb hf hd => (hd.at 0 rfl rfl rfl rfl)) (fun h => absurd rfl h) (fun _ => ?_)
   refine opk_call rfl rfl fun a w hb hf hd => ?_
   exact ⟨96, #[.int .i64 0], run_call rfl rfl (fun _ _ => by kernel_rfl) (args_1 rfl), (r_of 0 (by omega) (by omega)).mono fun _ _ r => RetS.imp (fun _ _ h => fun _ _ => (isC.mono h (by omega))) r⟩
 · refine opk_guard true rfl rfl rfl rfl (by rw [z122]; decide) (fun a w hb hf hd => (hd.at 1 rfl rfl rfl rfl)) (fun h => absurd rfl h) (fun _ => ?_)
   refine opk_call rfl rfl fun a w hb hf hd => ?_
   exact ⟨96, #[.int .i64 4], run_call rfl rfl (fun _ _ => by kernel_rfl) (args_1 rfl), (r_of 4 (by omega) (by omega)).mono fun _ _ r => RetS.imp (fun _ _ h => fun _ _ => (isC.mono h (by omega))) r⟩
 · refine opk_guard true rfl rfl rfl rfl (by rw [z122]; decide) (fun a w hb hf hd => (hd.at 3 rfl rfl rfl rfl)) (fun h => absurd rfl h) (fun _ => ?_)
   refine opk_call rfl rfl fun a w hb hf hd => ?_
   have e0 : a.eval (.tmp 35) = sl a 35 := rfl
   have e1 : a.eval (.tmp 36) = sl a 36 := rfl
   exact ⟨44, #[sl a 35, sl a 36], run_call rfl rfl (fun _ _ => by kernel_rfl) (args_2 e0 e1), (r4_make  (by omega) (by omega) (isC.r (hd.at 0 rfl rfl rfl rfl)) (isC.r (hd.at 1 rfl rfl rfl rfl))).mono fun _ _ r => RetS.imp (fun _ _ h => fun _ _ => (mP_imp (fun _ h => (isC.mono h (by omega))) (fun _ h => (isC.mono h (by omega))) h)) r⟩
 · refine opk_guard true rfl rfl rfl rfl (by rw [z122]; decide) (fun a w hb hf hd => (hd.at 3 rfl rfl rfl rfl)) (fun h => absurd rfl h) (fun _ => ?_)
   refine opk_call rfl rfl fun a w hb hf hd => ?_
   have e0 : a.eval (.tmp 34) = sl a 34 := rfl
   have e1 : a.eval (.tmp 37) = sl a 37 := rfl
   exact ⟨30, #[sl a 34, sl a 37], run_call rfl rfl (fun _ _ => by kernel_rfl) (args_2 e0 e1), (r4_sameD (hd.at 0 rfl rfl rfl rfl) (hd.at 1 rfl rfl rfl rfl)).mono fun _ _ r => RetS.imp (fun _ _ h => fun _ _ => (h.trans (congrArg Value.bool (by decide +kernel)))) r⟩
 · exact opk_pure rfl rfl fun a w hb hf hd => ⟨_, run_pick rfl (ev (hd.at 0 rfl rfl rfl rfl)), fun _ _ => pick_and (fun _ => (hd.at 1 rfl rfl rfl rfl))⟩
 intro a130 w131 ms132
 have B133 := B112.trans (ms132.b.mono B112.size)
 have z134 := ms132.sz.trans z122
 have d135 := ms132.df.trans d123
 have x139 := bx.below ms132.b x113
 have x140 := bx.below ms132.b x114
 have s141 : sl a130 39 = .bool true := ms132.g 15 _ 39 rfl (by decide) trivial rfl
 refine tl_set rfl rfl (run_assign rfl) (by rw [z134]; decide) ?_
 intro a142 z143 d144 s145 fr146
 have s147 := s145.trans s141
 have d149 := d144.trans d135
 refine wpList_nil (then_normal ?_)
 refine wp_ret ?_
 exact end_tmp rfl d149 B133 s147
end Go.Proofs.YtbjijmjhlpkomaaGreatDoor

namespace Go.Proofs.YtbjijmjhlpkomaaGreatDoor
open Go.RowKit Num

theorem insG {l1 h1 l2 h2 : Rat} (o1 : l1 ≤ h1) (a : l2 ≤ l1) (b : h1 ≤ h2) : ((decide (cmpQ (mnQ l2 h2) (mnQ l1 h1) ≤ 0)) && (decide (cmpQ (mxQ l1 h1) (mxQ l2 h2) ≤ 0))) = true := by
 rw [mn_eq o1, mx_eq o1, mn_eq (Rat.le_trans a (Rat.le_trans o1 b)), mx_eq (Rat.le_trans a (Rat.le_trans o1 b)), dle, dle]
 simp [Rat.not_lt.2 a, Rat.not_lt.2 b]
structure Sub (p q r s : Rat) : Prop where
 lo : mnQ r s ≤ mnQ p q
 hi : mxQ p q ≤ mxQ r s
theorem Sub.hull (p q r s : Rat) : Sub p q (mnQ (mnQ p q) (mnQ r s)) (mxQ (mxQ p q) (mxQ r s)) := by
 refine ⟨?_, ?_⟩
 · rw [mn_eq hull_le]; exact mn_le_l _ _
 · rw [mx_eq hull_le]; exact le_mx_l _ _
theorem Sub.b {p q r s : Rat} (h : Sub p q r s) : ((decide (cmpQ (mnQ r s) (mnQ p q) ≤ 0)) && (decide (cmpQ (mxQ p q) (mxQ r s) ≤ 0))) = true := by
 rw [dle, dle]
 simp [Rat.not_lt.2 h.lo, Rat.not_lt.2 h.hi]
theorem Sub.l {p q r s : Rat} (h : Sub p q r s) : inQ p (mnQ r s) (mxQ r s) := ⟨Rat.le_trans h.lo (mn_le_l _ _), Rat.le_trans (le_mx_l _ _) h.hi⟩
theorem Sub.r {p q r s : Rat} (h : Sub p q r s) : inQ q (mnQ r s) (mxQ r s) := ⟨Rat.le_trans h.lo (mn_le_r _ _), Rat.le_trans (le_mx_r _ _) h.hi⟩
theorem Sub.add {p q r s p' q' r' s' : Rat} (h : Sub p q p' q') (g : Sub r s r' s') :
   ((decide (cmpQ (mnQ (mnQ p' q' + mnQ r' s') (mxQ p' q' + mxQ r' s')) (mnQ (mnQ p q + mnQ r s) (mxQ p q + mxQ r s)) ≤ 0)) && (decide (cmpQ (mxQ (mnQ p q + mnQ r s) (mxQ p q + mxQ r s)) (mxQ (mnQ p' q' + mnQ r' s') (mxQ p' q' + mxQ r' s')) ≤ 0))) = true := by
 have h1 := mn_le_mx p q
 have h2 := mn_le_mx r s
 obtain ⟨a, b⟩ := h
 obtain ⟨c, d⟩ := g
 exact insG (by grind) (by grind) (by grind)
theorem Sub.sub {p q r s p' q' r' s' : Rat} (h : Sub p q p' q') (g : Sub r s r' s') :
   ((decide (cmpQ (mnQ (mnQ p' q' - mxQ r' s') (mxQ p' q' - mnQ r' s')) (mnQ (mnQ p q - mxQ r s) (mxQ p q - mnQ r s)) ≤ 0)) && (decide (cmpQ (mxQ (mnQ p q - mxQ r s) (mxQ p q - mnQ r s)) (mxQ (mnQ p' q' - mxQ r' s') (mxQ p' q' - mnQ r' s')) ≤ 0))) = true := by
 have h1 := mn_le_mx p q
 have h2 := mn_le_mx r s
 obtain ⟨a, b⟩ := h
 obtain ⟨c, d⟩ := g
 exact insG (by grind) (by grind) (by grind)
theorem le_mn4 {x a b c d : Rat} (ha : x ≤ a) (hb : x ≤ b) (hc : x ≤ c) (hd : x ≤ d) : x ≤ mn4 a b c d := le_mnQ.2 ⟨le_mnQ.2 ⟨ha, hb⟩, le_mnQ.2 ⟨hc, hd⟩⟩
theorem mx4_le {x a b c d : Rat} (ha : a ≤ x) (hb : b ≤ x) (hc : c ≤ x) (hd : d ≤ x) : mx4 a b c d ≤ x := mxQ_le.2 ⟨mxQ_le.2 ⟨ha, hb⟩, mxQ_le.2 ⟨hc, hd⟩⟩
theorem mn4_mx4 (a b c d : Rat) : mn4 a b c d ≤ mx4 a b c d := Rat.le_trans (Rat.le_trans (mn_le_l _ _) (mn_le_l _ _)) (Rat.le_trans (le_mx_l a b) (le_mx_l _ _))
theorem Sub.mul {p q r s p' q' r' s' : Rat} (h : Sub p q p' q') (g : Sub r s r' s') :
   ((decide (cmpQ (mnQ (mn4 (p' * r') (p' * s') (q' * r') (q' * s')) (mx4 (p' * r') (p' * s') (q' * r') (q' * s'))) (mnQ (mn4 (p * r) (p * s) (q * r) (q * s)) (mx4 (p * r) (p * s) (q * r) (q * s))) ≤ 0)) && (decide (cmpQ (mxQ (mn4 (p * r) (p * s) (q * r) (q * s)) (mx4 (p * r) (p * s) (q * r) (q * s))) (mxQ (mn4 (p' * r') (p' * s') (q' * r') (q' * s')) (mx4 (p' * r') (p' * s') (q' * r') (q' * s'))) ≤ 0))) = true :=
 insG (mn4_mx4 _ _ _ _) (le_mn4 (mulI h.l g.l).1 (mulI h.l g.r).1 (mulI h.r g.l).1 (mulI h.r g.r).1) (mx4_le (mulI h.l g.l).2 (mulI h.l g.r).2 (mulI h.r g.l).2 (mulI h.r g.r).2)
theorem zero_in {p q : Rat} (h : sgI p q = 0) : inQ 0 (mnQ p q) (mxQ p q) := by
 refine ⟨Rat.not_lt.1 fun h1 => ?_, Rat.not_lt.1 fun h1 => ?_⟩
 · have := sgI_pos (sgn_pos.2 h1); omega
 · have := sgI_neg (sgn_neg.2 h1); omega
theorem sqL_is (p q : Rat) : ∃ x, inQ x (mnQ p q) (mxQ p q) ∧ sqL p q = x * x := by
 unfold sqL
 split
 · rename_i h
   exact ⟨0, zero_in h, by grind⟩
 · rcases mnmx (p * p) (q * q) with ⟨e, _⟩ | ⟨e, _⟩ <;> rw [e]
   · exact ⟨p, ⟨mn_le_l _ _, le_mx_l _ _⟩, rfl⟩
   · exact ⟨q, ⟨mn_le_r _ _, le_mx_r _ _⟩, rfl⟩
theorem Sub.trans_in {p q r s x : Rat} (h : Sub p q r s) (hx : inQ x (mnQ p q) (mxQ p q)) : inQ x (mnQ r s) (mxQ r s) := ⟨Rat.le_trans h.lo hx.1, Rat.le_trans hx.2 h.hi⟩
theorem Sub.square {p q p' q' : Rat} (h : Sub p q p' q') :
   ((decide (cmpQ (mnQ (sqL p' q') (mxQ (p' * p') (q' * q'))) (mnQ (sqL p q) (mxQ (p * p) (q * q))) ≤ 0)) && (decide (cmpQ (mxQ (sqL p q) (mxQ (p * p) (q * q))) (mxQ (sqL p' q') (mxQ (p' * p') (q' * q'))) ≤ 0))) = true := by
 obtain ⟨x, hx, e⟩ := sqL_is p q
 have h1 := squareI hx
 refine insG ?_ ?_ ?_
 · rw [e]; exact h1.2
 · rw [e]; exact (squareI (h.trans_in hx)).1
 · exact mxQ_le.2 ⟨(squareI h.l).2, (squareI h.r).2⟩
end Go.Proofs.YtbjijmjhlpkomaaGreatDoor
