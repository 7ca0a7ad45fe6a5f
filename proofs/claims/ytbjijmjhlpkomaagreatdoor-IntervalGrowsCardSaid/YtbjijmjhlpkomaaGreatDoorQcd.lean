/-  -/
import Derived.Test.YtbjijmjhlpkomaaGreatDoorQcc

set_option linter.unusedVariables false
set_option linter.unusedSimpArgs false
set_option linter.unusedSectionVars false
set_option maxRecDepth 100000
set_option maxHeartbeats 3200000

namespace Go.Proofs.YtbjijmjhlpkomaaGreatDoor
open Go.RowKit Num

theorem iv_sign {p0 q0 : Rat} {k0 : Nat} {v0 : Value} {w : World} (hk0 : k0 ≤ 99999) (pf0 : (mP (mR p0 k0) (mR q0 k0)).S w v0) :
   Calls Tryz.prog 37 #[v0] w (RetS (mV (.int .i64 (sgI p0 q0))).S w) := by
 obtain ⟨c0, rfl, n0, u0, o0⟩ := (mP.cv (fun _ h => (isR.cv h)) (fun _ h => (isR.cv h)) pf0)
 refine calls_abs 13 Tryz.func37 rfl rfl (by simp) ?_
 intro a0 z0 d0 ha
 have s0_0 : sl a0 0 = .agg c0 := ha 0 (by simp)
 have B0 : Below w.heap.size w w := Below.refl _ _
 refine wp_seq ?_
 refine wp_region_seq 0 (mG []) (by rw [z0]; kernel_rfl) (mG_mono _) (ops_ok trivial) ?_
 intro a1 w2 ms3
 have B4 := B0.trans (ms3.b.mono B0.size)
 have z5 := ms3.sz.trans z0
 have d6 := ms3.df.trans d0
 have s7 := (ms3.fr 0 (out_of (by kernel_rfl))).trans s0_0
 refine tl_new rfl rfl (run_box_op rfl (ev s7)) (by rw [z5]; decide) ?_
 intro a8 w9 g10 z11 d12 s13 fr14 hg15 hc16 hb17
 have z18 := z11.trans z5
 have d19 := d12.trans d6
 have B21 := B4.trans (hb17.mono B4.size)
 have lw23 : w.heap.size ≤ g10 := by have := B4.size; omega
 have x22 : bx 44 6 (mP (mR p0 k0) (mR q0 k0)) w9 g10 := ⟨c0, hc16, n0, u0, o0, (mP (mR p0 k0) (mR q0 k0)).mono _ _ _ (Ext.of B21) pf0⟩
 refine tl_set rfl rfl (run_assign rfl) (by rw [z18]; decide) ?_
 intro a24 z25 d26 s27 fr28
 have z30 := z25.trans z18
 have d31 := d26.trans d19
 have s33 := (fr28 1 (by decide)).trans s13
 refine wpList_nil (then_normal ?_)
 refine wp_seq ?_
 refine wp_region_seq 3 (mG [(mV (.pointer (some ⟨g10, 0, none⟩))).b, (mR p0 k0).b, (mV (.int .i64 (sgnQ p0))).b]) (by rw [z30]; kernel_rfl) (mG_mono _) (ops_ok ⟨?_, ?_, ?_, trivial⟩) ?_
 · exact opk_pure rfl rfl fun a w hb hf hd => ⟨_, fa_Interval_0 rfl (ev ((hf 1 (out_of (by kernel_rfl))).trans s33)), fun _ _ => rfl⟩
 · refine opk_pure rfl rfl fun a w hb hf hd => ?_
   obtain ⟨x0, x1, x2, h1, h2⟩ := (bx.below hb x22).lo
   exact ⟨_, run_load_mid _ _ rfl (ev (hd.at 0 rfl rfl rfl rfl)) h1 Tryz.underlying26 rfl info_Rat, fun _ _ => h2⟩
 · refine opk_call rfl rfl fun a w hb hf hd => ?_
   have e0 : a.eval (.tmp 5) = sl a 5 := rfl
   exact ⟨104, #[sl a 5], run_call rfl rfl (fun _ _ => by kernel_rfl) (args_1 e0), (c_sign (by omega) (hd.at 0 rfl rfl rfl rfl)).mono fun _ _ r => RetS.imp (fun _ _ h => fun _ _ => h) r⟩
 intro a34 w35 ms36
 have B37 := B21.trans (ms36.b.mono B21.size)
 have z38 := ms36.sz.trans z30
 have d39 := ms36.df.trans d31
 have s40 := (ms36.fr 1 (out_of (by kernel_rfl))).trans s33
 have x42 := bx.below ms36.b x22
 have s43 : sl a34 6 = .int .i64 (sgnQ p0) := ms36.g 2 _ 6 rfl (by decide) trivial rfl
 refine tl_set rfl rfl (run_assign rfl) (by rw [z38]; decide) ?_
 intro a44 z45 d46 s47 fr48
 have s49 := s47.trans s43
 have z50 := z45.trans z38
 have d51 := d46.trans d39
 have s52 := (fr48 1 (by decide)).trans s40
 refine wpList_nil (then_normal ?_)
 refine wp_seq ?_
 refine wp_seq ?_
 refine wp_region_seq 5 (mG [(mV (.int .i64 (sgnQ p0))).b, (mV (.pointer (some ⟨g10, 3, none⟩))).b, (mR q0 k0).b, (mV (.int .i64 (sgnQ q0))).b, (mV (.bool (decide ((sgnQ p0) ≠ (sgnQ q0))))).b]) (by rw [z50]; kernel_rfl) (mG_mono _) (ops_ok ⟨?_, ?_, ?_, ?_, ?_, trivial⟩) ?_
 · exact opk_pure rfl rfl fun a w hb hf hd => ⟨_, run_move rfl, fun _ _ => ((hf 3 (out_of (by kernel_rfl))).trans s49)⟩
 · exact opk_pure rfl rfl fun a w hb hf hd => ⟨_, fa_Interval_1 rfl (ev ((hf 1 (out_of (by kernel_rfl))).trans s52)), fun _ _ => rfl⟩
 · refine opk_pure rfl rfl fun a w hb hf hd => ?_
   obtain ⟨x0, x1, x2, h1, h2⟩ := (bx.below hb x42).hi
   exact ⟨_, run_load_mid _ _ rfl (ev (hd.at 0 rfl rfl rfl rfl)) h1 Tryz.underlying26 rfl info_Rat, fun _ _ => h2⟩
 · refine opk_call rfl rfl fun a w hb hf hd => ?_
   have e0 : a.eval (.tmp 9) = sl a 9 := rfl
   exact ⟨104, #[sl a 9], run_call rfl rfl (fun _ _ => by kernel_rfl) (args_1 e0), (c_sign (by omega) (hd.at 0 rfl rfl rfl rfl)).mono fun _ _ r => RetS.imp (fun _ _ h => fun _ _ => h) r⟩
 · exact opk_pure rfl rfl fun a w hb hf hd => ⟨_, run_neq rfl (ev (hd.at 0 rfl rfl rfl rfl)) (ev (hd.at 1 rfl rfl rfl rfl)), fun _ _ => rfl⟩
 intro a55 w56 ms57
 have B58 := B37.trans (ms57.b.mono B37.size)
 have z59 := ms57.sz.trans z50
 have d60 := ms57.df.trans d51
 have s63 := (ms57.fr 3 (out_of (by kernel_rfl))).trans s49
 have x64 := bx.below ms57.b x42
 have s65 : sl a55 11 = .bool (decide ((sgnQ p0) ≠ (sgnQ q0))) := ms57.g 4 _ 11 rfl (by decide) trivial rfl
 refine wpList_nil (then_normal ?_)
 refine cond_b (decide ((sgnQ p0) ≠ (sgnQ q0))) (ev s65) (fun hb66 => ?_) (fun hb66 => ?_)
 · skip
   have hb66p := of_decide_eq_true hb66
   refine wp_seq ?_
   refine wp_region_seq 0 (mG []) (by rw [z59]; kernel_rfl) (mG_mono _) (ops_ok trivial) ?_
   intro a67 w68 ms69
   have B70 := B58.trans (ms69.b.mono B58.size)
   have z71 := ms69.sz.trans z59
   have d72 := ms69.df.trans d60
   have x77 := bx.below ms69.b x64
   refine tl_set rfl rfl (run_assign rfl) (by rw [z71]; decide) ?_
   intro a78 z79 d80 s81 fr82
   have s83 : sl a78 2 = .int .i64 0 := s81.trans rfl
   have d85 := d80.trans d72
   refine wpList_nil (then_normal ?_)
   refine wp_ret ?_
   exact end_tmp rfl d85 B70 ((s83).trans (by first | rw [← sg_t (by assumption)] | rw [← sg_f (by assumption)]))
 · skip
   have hb66p := of_decide_eq_false hb66
   refine wp_skip (then_normal ?_)
   refine wp_seq ?_
   refine wp_region_seq 1 (mG [(mV (.int .i64 (sgnQ p0))).b]) (by rw [z59]; kernel_rfl) (mG_mono _) (ops_ok ⟨?_, trivial⟩) ?_
   · exact opk_pure rfl rfl fun a w hb hf hd => ⟨_, run_move rfl, fun _ _ => ((hf 3 (out_of (by kernel_rfl))).trans s63)⟩
   intro a89 w90 ms91
   have B92 := B58.trans (ms91.b.mono B58.size)
   have z93 := ms91.sz.trans z59
   have d94 := ms91.df.trans d60
   have x99 := bx.below ms91.b x64
   have s100 : sl a89 12 = .int .i64 (sgnQ p0) := ms91.g 0 _ 12 rfl (by decide) trivial rfl
   refine tl_set rfl rfl (run_assign rfl) (by rw [z93]; decide) ?_
   intro a101 z102 d103 s104 fr105
   have s106 := s104.trans s100
   have d108 := d103.trans d94
   refine wpList_nil (then_normal ?_)
   refine wp_ret ?_
   exact end_tmp rfl d108 B92 ((s106).trans (by first | rw [← sg_t (by assumption)] | rw [← sg_f (by assumption)]))

theorem iv_inverse {p0 : Rat} {k0 : Nat} {v0 : Value} {w : World} (hk0 : k0 ≤ 99999) (pf0 : (mR p0 k0).S w v0) (hT : Tb w) :
   Calls Tryz.prog 97 #[v0] w (RetS (mR (((1 : Int) : Rat) / p0) (k0 + 5)).S w) := by
 obtain ⟨c0, rfl, n0, u0, o0⟩ := (isR.cv pf0)
 refine calls_abs 12 Tryz.func97 rfl rfl (by simp) ?_
 intro a0 z0 d0 ha
 have s0_0 : sl a0 0 = .agg c0 := ha 0 (by simp)
 have B0 : Below w.heap.size w w := Below.refl _ _
 refine wp_seq ?_
 refine wp_region_seq 0 (mG []) (by rw [z0]; kernel_rfl) (mG_mono _) (ops_ok trivial) ?_
 intro a1 w2 ms3
 have B4 := B0.trans (ms3.b.mono B0.size)
 have z5 := ms3.sz.trans z0
 have d6 := ms3.df.trans d0
 have s7 := (ms3.fr 0 (out_of (by kernel_rfl))).trans s0_0
 refine tl_new rfl rfl (run_box_op rfl (ev s7)) (by rw [z5]; decide) ?_
 intro a8 w9 g10 z11 d12 s13 fr14 hg15 hc16 hb17
 have z18 := z11.trans z5
 have d19 := d12.trans d6
 have B21 := B4.trans (hb17.mono B4.size)
 have lw23 : w.heap.size ≤ g10 := by have := B4.size; omega
 have x22 : bx 26 3 (mR p0 k0) w9 g10 := ⟨c0, hc16, n0, u0, o0, (mR p0 k0).mono _ _ _ (Ext.of B21) pf0⟩
 refine tl_new rfl rfl (run_alloc_op rfl zero_Rat) (by rw [z18]; decide) ?_
 intro a24 w25 g26 z27 d28 s29 fr30 hg31 hc32 hb33
 have z34 := z27.trans z18
 have d35 := d28.trans d19
 have s37 := (fr30 1 (by decide)).trans s13
 have B38 := B21.trans (hb33.mono B21.size)
 have ne40 : g10 ≠ g26 := by have := x22.lt; omega
 have x39 := bx.below hb33 x22
 have lw42 : w.heap.size ≤ g26 := by have := B21.size; omega
 have x41 := bx_Rat hc32
 refine wpList_nil (then_normal ?_)
 refine wp_seq ?_
 refine wp_region_mono 7 [5] (mG [(mC (((1 : Int) : Rat)) 2).b, (mR p0 k0).b, (mT (mE ((((1 : Int) : Rat)) / p0) (zeq p0) (k0 + 5)) (mV (.int .i64 (zeq p0)))).b, (mT (mE ((((1 : Int) : Rat)) / p0) (zeq p0) (k0 + 5)) (mV (.int .i64 (zeq p0)))).b, (mE ((((1 : Int) : Rat)) / p0) (zeq p0) (k0 + 5)).b, (mV (.int .i64 (zeq p0))).b, (mNew w25.heap.size 26 3)]) (by kernel_rfl) (by rw [z34]; kernel_rfl) (fun _ => ⟨by kernel_rfl, fun c a d v w h => by cases d <;> exact h, ?_⟩) (mG_mono _) (ops_ok ⟨?_, ?_, ?_, ?_, ?_, ?_, ?_, trivial⟩) ?_
 · intro i o hi ho a w hb hs hf hd
   obtain rfl : i = 5 := by simpa using hi
   have ho2 := Option.some.inj (show some _ = some o from ho)
   subst ho2
   replace hd : Deps _ _ _ a w := hd
   obtain ⟨x, y, h1, h2, h3⟩ := (hd.at 0 rfl rfl rfl rfl)
   exact ⟨_, Or.inl ⟨wanted_none rfl _, fun _ => run_extract_op rfl (ev h1) rfl⟩, fun _ _ => h3⟩
 · refine opk_call rfl rfl fun a w hb hf hd => ?_
   exact ⟨70, #[.int .i64 1], run_call rfl rfl (fun _ _ => by kernel_rfl) (args_1 rfl), (c_of 1 (by omega) (by omega)).mono fun _ _ r => RetS.imp (fun _ _ h => fun _ _ => (isC.mono h (by omega))) r⟩
 · refine opk_pure rfl rfl fun a w hb hf hd => ?_
   obtain ⟨cs, h1, h2, h3, h4, h5⟩ := bx.below hb x39
   exact ⟨_, run_load_row _ _ rfl (ev ((hf 1 (out_of (by kernel_rfl))).trans s37)) h1 Tryz.underlying26 rfl (by rw [h2]; exact info_Rat), fun _ _ => h5⟩
 · refine opk_call rfl rfl fun a w hb hf hd => ?_
   have e0 : a.eval (.tmp 6) = sl a 6 := rfl
   have e1 : a.eval (.tmp 7) = sl a 7 := rfl
   exact ⟨155, #[sl a 6, sl a 7], run_call rfl rfl (fun _ _ => by kernel_rfl) (args_2 e0 e1), (c_div (by omega) (by omega) (isC.r (hd.at 0 rfl rfl rfl rfl)) (hd.at 1 rfl rfl rfl rfl) (hT.below (B38.trans (hb.mono B38.size)))).mono fun _ _ r => RetS.imp (fun _ _ h => fun _ _ => (mT_imp (fun _ h => (isE.mono h (by omega))) (fun _ h => h) h)) r⟩
 · exact opk_pure rfl rfl fun a w hb hf hd => ⟨_, run_move rfl, fun _ _ => (hd.at 0 rfl rfl rfl rfl)⟩
 · refine opk_pure rfl rfl fun a w hb hf hd => ?_
   obtain ⟨x, y, h1, h2, h3⟩ := (hd.at 0 rfl rfl rfl rfl)
   exact ⟨_, run_extract_op rfl (ev h1) rfl, fun _ _ => h2⟩
 · refine opk_pure rfl rfl fun a w hb hf hd => ?_
   obtain ⟨x, y, h1, h2, h3⟩ := (hd.at 0 rfl rfl rfl rfl)
   exact ⟨_, run_extract_op rfl (ev h1) rfl, fun _ _ => h3⟩
 · refine opk_alloc rfl fun a w hb hf hd => ⟨_, _, run_alloc_op rfl zero_Rat, below_alloc _ _, fun _ _ => ⟨_, rfl, hb.size, bx_Rat (heap_alloc_at _ _)⟩, fun _ => ⟨_, rfl, Nat.le_refl _, by simp⟩⟩
 intro a43 w44 ms45
 have B46 := B38.trans (ms45.b.mono B38.size)
 have z47 := ms45.sz.trans z34
 have d48 := ms45.df.trans d35
 have s49 := (ms45.fr 2 (out_of (by kernel_rfl))).trans s29
 have x50 := bx.below ms45.b x39
 have x51 := bx.below ms45.b x41
 have s52 : (mE ((((1 : Int) : Rat)) / p0) (zeq p0) (k0 + 5)).S w44 (sl a43 9) := ms45.g 4 _ 9 rfl (by decide) trivial rfl
 obtain ⟨g55, s54, e57, x56⟩ := ms45.g 6 _ 3 rfl (by decide) trivial rfl
 have ne58 : g10 ≠ g55 := by have := x39.lt; omega
 have ne59 : g26 ≠ g55 := by have := x41.lt; omega
 have lw60 : w.heap.size ≤ g55 := by have := B38.size; omega
 refine tl_put rfl rfl rfl (m' := (mE ((((1 : Int) : Rat)) / p0) (zeq p0) (k0 + 5))) x56 (ev s54) s52 (isE.cv s52) info_Rat ?_
 intro w61 x62 ex63 ot64 bl65
 have B66 := bl65 w (by omega) B46
 have x67 := ot64 (by omega) x50
 have x68 := ot64 (by omega) x51
 have s69 := (mE ((((1 : Int) : Rat)) / p0) (zeq p0) (k0 + 5)).mono _ _ _ ex63 s52
 refine tl_set rfl rfl (run_assign rfl) (by rw [z47]; decide) ?_
 intro a70 z71 d72 s73 fr74
 have z76 := z71.trans z47
 have d77 := d72.trans d48
 have s78 := (fr74 2 (by decide)).trans s49
 have s81 := (fr74 3 (by decide)).trans s54
 refine wpList_nil (then_normal ?_)
 refine wp_seq ?_
 refine wp_region_seq 1 (mG [(mE ((((1 : Int) : Rat)) / p0) (zeq p0) (k0 + 5)).b]) (by rw [z76]; kernel_rfl) (mG_mono _) (ops_ok ⟨?_, trivial⟩) ?_
 · refine opk_pure rfl rfl fun a w hb hf hd => ?_
   obtain ⟨cs, h1, h2, h3, h4, h5⟩ := bx.below hb x62
   exact ⟨_, run_load_row _ _ rfl (ev ((hf 3 (out_of (by kernel_rfl))).trans s81)) h1 Tryz.underlying26 rfl (by rw [h2]; exact info_Rat), fun _ _ => h5⟩
 intro a82 w83 ms84
 have B85 := B66.trans (ms84.b.mono B66.size)
 have d87 := ms84.df.trans d77
 have s88 := (ms84.fr 2 (out_of (by kernel_rfl))).trans s78
 have x90 := bx.below ms84.b x62
 have x91 := bx.below ms84.b x68
 have s92 : (mE ((((1 : Int) : Rat)) / p0) (zeq p0) (k0 + 5)).S w83 (sl a82 11) := ms84.g 0 _ 11 rfl (by decide) trivial rfl
 refine tl_put rfl rfl rfl (m' := (mE ((((1 : Int) : Rat)) / p0) (zeq p0) (k0 + 5))) x91 (ev s88) s92 (isE.cv s92) info_Rat ?_
 intro w93 x94 ex95 ot96 bl97
 have B98 := bl97 w (by omega) B85
 have x99 := ot96 (by omega) x90
 have s100 := (mE ((((1 : Int) : Rat)) / p0) (zeq p0) (k0 + 5)).mono _ _ _ ex95 s92
 refine wpList_nil (then_normal ?_)
 refine wp_ret ?_
 exact end_cell rfl d87 s88 x94 Tryz.underlying26 rfl info_Rat B98 (fun v h => (isE.rdiv h))

theorem iv_square {p0 q0 : Rat} {k0 : Nat} {v0 : Value} {w : World} (hk0 : k0 ≤ 9999) (pf0 : (mP (mR p0 k0) (mR q0 k0)).S w v0) (hT : Tb w) :
   Calls Tryz.prog 55 #[v0] w (RetS (mP (mC (sqL p0 q0) (k0 + k0 + 5)) (mC (mxQ (p0 * p0) (q0 * q0)) (k0 + k0 + 5))).S w) := by
 obtain ⟨c0, rfl, n0, u0, o0⟩ := (mP.cv (fun _ h => (isR.cv h)) (fun _ h => (isR.cv h)) pf0)
 refine calls_abs 22 Tryz.func55 rfl rfl (by simp) ?_
 intro a0 z0 d0 ha
 have s0_0 : sl a0 0 = .agg c0 := ha 0 (by simp)
 have B0 : Below w.heap.size w w := Below.refl _ _
 refine wp_seq ?_
 refine wp_region_seq 0 (mG []) (by rw [z0]; kernel_rfl) (mG_mono _) (ops_ok trivial) ?_
 intro a1 w2 ms3
 have B4 := B0.trans (ms3.b.mono B0.size)
 have z5 := ms3.sz.trans z0
 have d6 := ms3.df.trans d0
 have s7 := (ms3.fr 0 (out_of (by kernel_rfl))).trans s0_0
 refine tl_new rfl rfl (run_box_op rfl (ev s7)) (by rw [z5]; decide) ?_
 intro a8 w9 g10 z11 d12 s13 fr14 hg15 hc16 hb17
 have z18 := z11.trans z5
 have d19 := d12.trans d6
 have B21 := B4.trans (hb17.mono B4.size)
 have lw23 : w.heap.size ≤ g10 := by have := B4.size; omega
 have x22 : bx 44 6 (mP (mR p0 k0) (mR q0 k0)) w9 g10 := ⟨c0, hc16, n0, u0, o0, (mP (mR p0 k0) (mR q0 k0)).mono _ _ _ (Ext.of B21) pf0⟩
 refine tl_new rfl rfl (run_alloc_op rfl zero_Interval) (by rw [z18]; decide) ?_
 intro a24 w25 g26 z27 d28 s29 fr30 hg31 hc32 hb33
 have z34 := z27.trans z18
 have d35 := d28.trans d19
 have s37 := (fr30 1 (by decide)).trans s13
 have B38 := B21.trans (hb33.mono B21.size)
 have ne40 : g10 ≠ g26 := by have := x22.lt; omega
 have x39 := bx.below hb33 x22
 have lw42 : w.heap.size ≤ g26 := by have := B21.size; omega
 have x41 := bx_Interval hc32
 refine wpList_nil (then_normal ?_)
 refine wp_seq ?_
 refine wp_region_mono 13 [] (mG [(mV (.pointer (some ⟨g10, 0, none⟩))).b, (mR p0 k0).b, (mV (.pointer (some ⟨g10, 0, none⟩))).b, (mR p0 k0).b, (mC (p0 * p0) (k0 + k0 + 3)).b, (mV (.pointer (some ⟨g10, 3, none⟩))).b, (mR q0 k0).b, (mV (.pointer (some ⟨g10, 3, none⟩))).b, (mR q0 k0).b, (mC (q0 * q0) (k0 + k0 + 3)).b, (mP (mC (p0 * p0) (k0 + k0 + 3)) (mC (q0 * q0) (k0 + k0 + 3))).b, (mP (mC (mnQ (p0 * p0) (q0 * q0)) (k0 + k0 + 3)) (mC (mxQ (p0 * p0) (q0 * q0)) (k0 + k0 + 3))).b, (mNew w25.heap.size 44 6)]) (by kernel_rfl) (by rw [z34]; kernel_rfl) (fun h => absurd rfl h) (mG_mono _) (ops_ok ⟨?_, ?_, ?_, ?_, ?_, ?_, ?_, ?_, ?_, ?_, ?_, ?_, ?_, trivial⟩) ?_
 · exact opk_pure rfl rfl fun a w hb hf hd => ⟨_, fa_Interval_0 rfl (ev ((hf 1 (out_of (by kernel_rfl))).trans s37)), fun _ _ => rfl⟩
 · refine opk_pure rfl rfl fun a w hb hf hd => ?_
   obtain ⟨x0, x1, x2, h1, h2⟩ := (bx.below hb x39).lo
   exact ⟨_, run_load_mid _ _ rfl (ev (hd.at 0 rfl rfl rfl rfl)) h1 Tryz.underlying26 rfl info_Rat, fun _ _ => h2⟩
 · exact opk_pure rfl rfl fun a w hb hf hd => ⟨_, fa_Interval_0 rfl (ev ((hf 1 (out_of (by kernel_rfl))).trans s37)), fun _ _ => rfl⟩
 · refine opk_pure rfl rfl fun a w hb hf hd => ?_
   obtain ⟨x0, x1, x2, h1, h2⟩ := (bx.below hb x39).lo
   exact ⟨_, run_load_mid _ _ rfl (ev (hd.at 0 rfl rfl rfl rfl)) h1 Tryz.underlying26 rfl info_Rat, fun _ _ => h2⟩
 · refine opk_call rfl rfl fun a w hb hf hd => ?_
   have e0 : a.eval (.tmp 5) = sl a 5 := rfl
   have e1 : a.eval (.tmp 7) = sl a 7 := rfl
   exact ⟨110, #[sl a 5, sl a 7], run_call rfl rfl (fun _ _ => by kernel_rfl) (args_2 e0 e1), (c_mul (by omega) (by omega) (hd.at 0 rfl rfl rfl rfl) (hd.at 1 rfl rfl rfl rfl) (hT.below (B38.trans (hb.mono B38.size)))).mono fun _ _ r => RetS.imp (fun _ _ h => fun _ _ => (isC.mono h (by omega))) r⟩
 · exact opk_pure rfl rfl fun a w hb hf hd => ⟨_, fa_Interval_1 rfl (ev ((hf 1 (out_of (by kernel_rfl))).trans s37)), fun _ _ => rfl⟩
 · refine opk_pure rfl rfl fun a w hb hf hd => ?_
   obtain ⟨x0, x1, x2, h1, h2⟩ := (bx.below hb x39).hi
   exact ⟨_, run_load_mid _ _ rfl (ev (hd.at 0 rfl rfl rfl rfl)) h1 Tryz.underlying26 rfl info_Rat, fun _ _ => h2⟩
 · exact opk_pure rfl rfl fun a w hb hf hd => ⟨_, fa_Interval_1 rfl (ev ((hf 1 (out_of (by kernel_rfl))).trans s37)), fun _ _ => rfl⟩
 · refine opk_pure rfl rfl fun a w hb hf hd => ?_
   obtain ⟨x0, x1, x2, h1, h2⟩ := (bx.below hb x39).hi
   exact ⟨_, run_load_mid _ _ rfl (ev (hd.at 0 rfl rfl rfl rfl)) h1 Tryz.underlying26 rfl info_Rat, fun _ _ => h2⟩
 · refine opk_call rfl rfl fun a w hb hf hd => ?_
   have e0 : a.eval (.tmp 10) = sl a 10 := rfl
   have e1 : a.eval (.tmp 12) = sl a 12 := rfl
   exact ⟨110, #[sl a 10, sl a 12], run_call rfl rfl (fun _ _ => by kernel_rfl) (args_2 e0 e1), (c_mul (by omega) (by omega) (hd.at 0 rfl rfl rfl rfl) (hd.at 1 rfl rfl rfl rfl) (hT.below (B38.trans (hb.mono B38.size)))).mono fun _ _ r => RetS.imp (fun _ _ h => fun _ _ => (isC.mono h (by omega))) r⟩
 · refine opk_pure rfl rfl fun a w hb hf hd => ?_
   have kk1 : (mC (p0 * p0) (k0 + k0 + 3)).S w (sl a 8) := (hd.at 0 rfl rfl rfl rfl)
   have kk2 : (mC (q0 * q0) (k0 + k0 + 3)).S w (sl a 13) := (hd.at 1 rfl rfl rfl rfl)
   obtain ⟨x0, x1, x2, qq1⟩ := cv3 (isC.cv kk1)
   obtain ⟨y0, y1, y2, qq2⟩ := cv3 (isC.cv kk2)
   rw [qq1] at kk1; rw [qq2] at kk2
   exact ⟨_, run_build_op _ _ rfl (built_pair qq1 qq2), fun _ _ => ⟨x0, x1, x2, y0, y1, y2, rfl, kk1, kk2⟩⟩
 · refine opk_call rfl rfl fun a w hb hf hd => ?_
   have e0 : a.eval (.tmp 14) = sl a 14 := rfl
   exact ⟨98, #[sl a 14], run_call rfl rfl (fun _ _ => by kernel_rfl) (args_1 e0), (iv_orderedC (by omega) (hd.at 0 rfl rfl rfl rfl) (hT.below (B38.trans (hb.mono B38.size)))).mono fun _ _ r => RetS.imp (fun _ _ h => fun _ _ => (mP_imp (fun _ h => (isC.mono h (by omega))) (fun _ h => (isC.mono h (by omega))) h)) r⟩
 · refine opk_alloc rfl fun a w hb hf hd => ⟨_, _, run_alloc_op rfl zero_Interval, below_alloc _ _, fun _ _ => ⟨_, rfl, hb.size, bx_Interval (heap_alloc_at _ _)⟩, fun _ => ⟨_, rfl, Nat.le_refl _, by simp⟩⟩
 intro a43 w44 ms45
 have B46 := B38.trans (ms45.b.mono B38.size)
 have z47 := ms45.sz.trans z34
 have d48 := ms45.df.trans d35
 have s49 := (ms45.fr 1 (out_of (by kernel_rfl))).trans s37
 have s50 := (ms45.fr 2 (out_of (by kernel_rfl))).trans s29
 have x51 := bx.below ms45.b x39
 have x52 := bx.below ms45.b x41
 have s53 : (mP (mC (mnQ (p0 * p0) (q0 * q0)) (k0 + k0 + 3)) (mC (mxQ (p0 * p0) (q0 * q0)) (k0 + k0 + 3))).S w44 (sl a43 15) := ms45.g 11 _ 15 rfl (by decide) trivial rfl
 obtain ⟨g55, s54, e57, x56⟩ := ms45.g 12 _ 3 rfl (by decide) trivial rfl
 have ne58 : g10 ≠ g55 := by have := x39.lt; omega
 have ne59 : g26 ≠ g55 := by have := x41.lt; omega
 have lw60 : w.heap.size ≤ g55 := by have := B38.size; omega
 refine tl_put rfl rfl rfl (m' := (mP (mC (mnQ (p0 * p0) (q0 * q0)) (k0 + k0 + 3)) (mC (mxQ (p0 * p0) (q0 * q0)) (k0 + k0 + 3)))) x56 (ev s54) s53 (mP.cv (fun _ h => (isC.cv h)) (fun _ h => (isC.cv h)) s53) info_Interval ?_
 intro w61 x62 ex63 ot64 bl65
 have B66 := bl65 w (by omega) B46
 have x67 := ot64 (by omega) x51
 have x68 := ot64 (by omega) x52
 have s69 := (mP (mC (mnQ (p0 * p0) (q0 * q0)) (k0 + k0 + 3)) (mC (mxQ (p0 * p0) (q0 * q0)) (k0 + k0 + 3))).mono _ _ _ ex63 s53
 refine wpList_nil (then_normal ?_)
 refine wp_seq ?_
 refine wp_seq ?_
 refine wp_region_seq 3 (mG [(mP (mR p0 k0) (mR q0 k0)).b, (mV (.int .i64 (sgI p0 q0))).b, (mV (.bool (decide ((sgI p0 q0) = 0)))).b]) (by rw [z47]; kernel_rfl) (mG_mono _) (ops_ok ⟨?_, ?_, ?_, trivial⟩) ?_
 · refine opk_pure rfl rfl fun a w hb hf hd => ?_
   obtain ⟨cs, h1, h2, h3, h4, h5⟩ := bx.below hb x67
   exact ⟨_, run_load_row _ _ rfl (ev ((hf 1 (out_of (by kernel_rfl))).trans s49)) h1 Tryz.underlying44 rfl (by rw [h2]; exact info_Interval), fun _ _ => h5⟩
 · refine opk_call rfl rfl fun a w hb hf hd => ?_
   have e0 : a.eval (.tmp 16) = sl a 16 := rfl
   exact ⟨37, #[sl a 16], run_call rfl rfl (fun _ _ => by kernel_rfl) (args_1 e0), (iv_sign  (by omega) (mP_imp (m1' := (mR p0 k0)) (m2' := (mR q0 k0)) (fun _ h => h) (fun _ h => h) (hd.at 0 rfl rfl rfl rfl))).mono fun _ _ r => RetS.imp (fun _ _ h => fun _ _ => h) r⟩
 · exact opk_pure rfl rfl fun a w hb hf hd => ⟨_, run_eql rfl (ev (hd.at 0 rfl rfl rfl rfl)) rfl, fun _ _ => rfl⟩
 intro a70 w71 ms72
 have B73 := B66.trans (ms72.b.mono B66.size)
 have z74 := ms72.sz.trans z47
 have d75 := ms72.df.trans d48
 have s77 := (ms72.fr 2 (out_of (by kernel_rfl))).trans s50
 have s78 := (ms72.fr 3 (out_of (by kernel_rfl))).trans s54
 have x79 := bx.below ms72.b x62
 have x80 := bx.below ms72.b x67
 have x81 := bx.below ms72.b x68
 have s82 : sl a70 18 = .bool (decide ((sgI p0 q0) = 0)) := ms72.g 2 _ 18 rfl (by decide) trivial rfl
 refine wpList_nil (then_normal ?_)
 refine cond_b (decide ((sgI p0 q0) = 0)) (ev s82) (fun hb83 => ?_) (fun hb83 => ?_)
 · skip
   have hb83p := of_decide_eq_true hb83
   refine wp_region_seq 2 (mG [(mC (((0 : Int) : Rat)) 2).b, (mV (.pointer (some ⟨g55, 0, none⟩))).b]) (by rw [z74]; kernel_rfl) (mG_mono _) (ops_ok ⟨?_, ?_, trivial⟩) ?_
   · refine opk_call rfl rfl fun a w hb hf hd => ?_
     exact ⟨70, #[.int .i64 0], run_call rfl rfl (fun _ _ => by kernel_rfl) (args_1 rfl), (c_of 0 (by omega) (by omega)).mono fun _ _ r => RetS.imp (fun _ _ h => fun _ _ => (isC.mono h (by omega))) r⟩
   · exact opk_pure rfl rfl fun a w hb hf hd => ⟨_, fa_Interval_0 rfl (ev ((hf 3 (out_of (by kernel_rfl))).trans s78)), fun _ _ => rfl⟩
   intro a84 w85 ms86
   have B87 := B73.trans (ms86.b.mono B73.size)
   have z88 := ms86.sz.trans z74
   have d89 := ms86.df.trans d75
   have s91 := (ms86.fr 2 (out_of (by kernel_rfl))).trans s77
   have s92 := (ms86.fr 3 (out_of (by kernel_rfl))).trans s78
   have x94 := bx.below ms86.b x79
   have x95 := bx.below ms86.b x80
   have x96 := bx.below ms86.b x81
   have s97 : (mC (((0 : Int) : Rat)) 2).S w85 (sl a84 19) := ms86.g 0 _ 19 rfl (by decide) trivial rfl
   have s98 : sl a84 20 = .pointer (some ⟨g55, 0, none⟩) := ms86.g 1 _ 20 rfl (by decide) trivial rfl
   refine tl_put_lo rfl rfl rfl (m' := (mC (((0 : Int) : Rat)) 2)) x94 (ev s98) s97 (isC.cv s97) info_Rat ?_
   intro w99 x100 ex101 ot102 bl103
   have B104 := bl103 w (by omega) B87
   have x105 := ot102 (by omega) x95
   have x106 := ot102 (by omega) x96
   have s107 := (mC (((0 : Int) : Rat)) 2).mono _ _ _ ex101 s97
   refine wpList_nil (then_normal ?_)
   refine wp_seq ?_
   refine wp_region_seq 1 (mG [(mP (mC (((0 : Int) : Rat)) 2) (mC (mxQ (p0 * p0) (q0 * q0)) (k0 + k0 + 3))).b]) (by rw [z88]; kernel_rfl) (mG_mono _) (ops_ok ⟨?_, trivial⟩) ?_
   · refine opk_pure rfl rfl fun a w hb hf hd => ?_
     obtain ⟨cs, h1, h2, h3, h4, h5⟩ := bx.below hb x100
     exact ⟨_, run_load_row _ _ rfl (ev ((hf 3 (out_of (by kernel_rfl))).trans s92)) h1 Tryz.underlying44 rfl (by rw [h2]; exact info_Interval), fun _ _ => h5⟩
   intro a108 w109 ms110
   have B111 := B104.trans (ms110.b.mono B104.size)
   have d113 := ms110.df.trans d89
   have s115 := (ms110.fr 2 (out_of (by kernel_rfl))).trans s91
   have x118 := bx.below ms110.b x100
   have x119 := bx.below ms110.b x105
   have x120 := bx.below ms110.b x106
   have s121 : (mP (mC (((0 : Int) : Rat)) 2) (mC (mxQ (p0 * p0) (q0 * q0)) (k0 + k0 + 3))).S w109 (sl a108 21) := ms110.g 0 _ 21 rfl (by decide) trivial rfl
   refine tl_put rfl rfl rfl (m' := (mP (mC (((0 : Int) : Rat)) 2) (mC (mxQ (p0 * p0) (q0 * q0)) (k0 + k0 + 3)))) x120 (ev s115) s121 (mP.cv (fun _ h => (isC.cv h)) (fun _ h => (isC.cv h)) s121) info_Interval ?_
   intro w122 x123 ex124 ot125 bl126
   have B127 := bl126 w (by omega) B111
   have x128 := ot125 (by omega) x118
   have x129 := ot125 (by omega) x119
   have s130 := (mP (mC (((0 : Int) : Rat)) 2) (mC (mxQ (p0 * p0) (q0 * q0)) (k0 + k0 + 3))).mono _ _ _ ex124 s121
   refine wpList_nil (then_normal ?_)
   refine wp_ret ?_
   exact end_cell rfl d113 s115 x123 Tryz.underlying44 rfl info_Interval B127 (fun v h => (by first | (rw [sq_t (by assumption)]; exact mP_imp (fun _ h => isC.mono h (by omega)) (fun _ h => isC.mono h (by omega)) h) | (rw [sq_f (by assumption)]; exact mP_imp (fun _ h => isC.mono h (by omega)) (fun _ h => isC.mono h (by omega)) h)))
 · skip
   have hb83p := of_decide_eq_false hb83
   refine wp_skip (then_normal ?_)
   refine wp_seq ?_
   refine wp_region_seq 1 (mG [(mP (mC (mnQ (p0 * p0) (q0 * q0)) (k0 + k0 + 3)) (mC (mxQ (p0 * p0) (q0 * q0)) (k0 + k0 + 3))).b]) (by rw [z74]; kernel_rfl) (mG_mono _) (ops_ok ⟨?_, trivial⟩) ?_
   · refine opk_pure rfl rfl fun a w hb hf hd => ?_
     obtain ⟨cs, h1, h2, h3, h4, h5⟩ := bx.below hb x79
     exact ⟨_, run_load_row _ _ rfl (ev ((hf 3 (out_of (by kernel_rfl))).trans s78)) h1 Tryz.underlying44 rfl (by rw [h2]; exact info_Interval), fun _ _ => h5⟩
   intro a131 w132 ms133
   have B134 := B73.trans (ms133.b.mono B73.size)
   have d136 := ms133.df.trans d75
   have s138 := (ms133.fr 2 (out_of (by kernel_rfl))).trans s77
   have x141 := bx.below ms133.b x79
   have x142 := bx.below ms133.b x80
   have x143 := bx.below ms133.b x81
   have s144 : (mP (mC (mnQ (p0 * p0) (q0 * q0)) (k0 + k0 + 3)) (mC (mxQ (p0 * p0) (q0 * q0)) (k0 + k0 + 3))).S w132 (sl a131 21) := ms133.g 0 _ 21 rfl (by decide) trivial rfl
   refine tl_put rfl rfl rfl (m' := (mP (mC (mnQ (p0 * p0) (q0 * q0)) (k0 + k0 + 3)) (mC (mxQ (p0 * p0) (q0 * q0)) (k0 + k0 + 3)))) x143 (ev s138) s144 (mP.cv (fun _ h => (isC.cv h)) (fun _ h => (isC.cv h)) s144) info_Interval ?_
   intro w145 x146 ex147 ot148 bl149
   have B150 := bl149 w (by omega) B134
   have x151 := ot148 (by omega) x141
   have x152 := ot148 (by omega) x142
   have s153 := (mP (mC (mnQ (p0 * p0) (q0 * q0)) (k0 + k0 + 3)) (mC (mxQ (p0 * p0) (q0 * q0)) (k0 + k0 + 3))).mono _ _ _ ex147 s144
   refine wpList_nil (then_normal ?_)
   refine wp_ret ?_
   exact end_cell rfl d136 s138 x146 Tryz.underlying44 rfl info_Interval B150 (fun v h => (by first | (rw [sq_t (by assumption)]; exact mP_imp (fun _ h => isC.mono h (by omega)) (fun _ h => isC.mono h (by omega)) h) | (rw [sq_f (by assumption)]; exact mP_imp (fun _ h => isC.mono h (by omega)) (fun _ h => isC.mono h (by omega)) h)))

theorem iv_hull {p0 q0 : Rat} {k0 : Nat} {p1 q1 : Rat} {k1 : Nat} {v0 : Value} {v1 : Value} {w : World} (hk0 : k0 ≤ 9999) (hk1 : k1 ≤ 9999) (pf0 : (mP (mR p0 k0) (mR q0 k0)).S w v0) (pf1 : (mP (mR p1 k1) (mR q1 k1)).S w v1) (hT : Tb w) :
   Calls Tryz.prog 57 #[v0, v1] w (RetS (mP (mC (mnQ (mnQ p0 q0) (mnQ p1 q1)) (k0 + k1 + k0 + k1 + 1)) (mC (mxQ (mxQ p0 q0) (mxQ p1 q1)) (k0 + k1 + k0 + k1 + 1))).S w) := by
 obtain ⟨c0, rfl, n0, u0, o0⟩ := (mP.cv (fun _ h => (isR.cv h)) (fun _ h => (isR.cv h)) pf0)
 obtain ⟨c1, rfl, n1, u1, o1⟩ := (mP.cv (fun _ h => (isR.cv h)) (fun _ h => (isR.cv h)) pf1)
 refine calls_abs 20 Tryz.func57 rfl rfl (by simp) ?_
 intro a0 z0 d0 ha
 have s0_0 : sl a0 0 = .agg c0 := ha 0 (by simp)
 have s0_1 : sl a0 1 = .agg c1 := ha 1 (by simp)
 have B0 : Below w.heap.size w w := Below.refl _ _
 refine wp_seq ?_
 refine wp_region_seq 0 (mG []) (by rw [z0]; kernel_rfl) (mG_mono _) (ops_ok trivial) ?_
 intro a1 w2 ms3
 have B4 := B0.trans (ms3.b.mono B0.size)
 have z5 := ms3.sz.trans z0
 have d6 := ms3.df.trans d0
 have s7 := (ms3.fr 0 (out_of (by kernel_rfl))).trans s0_0
 have s8 := (ms3.fr 1 (out_of (by kernel_rfl))).trans s0_1
 refine tl_new rfl rfl (run_box_op rfl (ev s7)) (by rw [z5]; decide) ?_
 intro a9 w10 g11 z12 d13 s14 fr15 hg16 hc17 hb18
 have z19 := z12.trans z5
 have d20 := d13.trans d6
 have s22 := (fr15 1 (by decide)).trans s8
 have B23 := B4.trans (hb18.mono B4.size)
 have lw25 : w.heap.size ≤ g11 := by have := B4.size; omega
 have x24 : bx 44 6 (mP (mR p0 k0) (mR q0 k0)) w10 g11 := ⟨c0, hc17, n0, u0, o0, (mP (mR p0 k0) (mR q0 k0)).mono _ _ _ (Ext.of B23) pf0⟩
 refine tl_new rfl rfl (run_box_op rfl (ev s22)) (by rw [z19]; decide) ?_
 intro a26 w27 g28 z29 d30 s31 fr32 hg33 hc34 hb35
 have z36 := z29.trans z19
 have d37 := d30.trans d20
 have s40 := (fr32 2 (by decide)).trans s14
 have B41 := B23.trans (hb35.mono B23.size)
 have ne43 : g11 ≠ g28 := by have := x24.lt; omega
 have x42 := bx.below hb35 x24
 have lw45 : w.heap.size ≤ g28 := by have := B23.size; omega
 have x44 : bx 44 6 (mP (mR p1 k1) (mR q1 k1)) w27 g28 := ⟨c1, hc34, n1, u1, o1, (mP (mR p1 k1) (mR q1 k1)).mono _ _ _ (Ext.of B41) pf1⟩
 refine tl_new rfl rfl (run_alloc_op rfl zero_Interval) (by rw [z36]; decide) ?_
 intro a46 w47 g48 z49 d50 s51 fr52 hg53 hc54 hb55
 have z56 := z49.trans z36
 have d57 := d50.trans d37
 have s60 := (fr52 2 (by decide)).trans s40
 have s61 := (fr52 3 (by decide)).trans s31
 have B62 := B41.trans (hb55.mono B41.size)
 have ne64 : g11 ≠ g48 := by have := x42.lt; omega
 have x63 := bx.below hb55 x42
 have ne66 : g28 ≠ g48 := by have := x44.lt; omega
 have x65 := bx.below hb55 x44
 have lw68 : w.heap.size ≤ g48 := by have := B41.size; omega
 have x67 := bx_Interval hc54
 refine wpList_nil (then_normal ?_)
 refine wp_seq ?_
 refine wp_region_mono 4 [] (mG [(mP (mR p0 k0) (mR q0 k0)).b, (mP (mR (mnQ p0 q0) k0) (mR (mxQ p0 q0) k0)).b, (mP (mR p1 k1) (mR q1 k1)).b, (mP (mR (mnQ p1 q1) k1) (mR (mxQ p1 q1) k1)).b]) (by kernel_rfl) (by rw [z56]; kernel_rfl) (fun h => absurd rfl h) (mG_mono _) (ops_ok ⟨?_, ?_, ?_, ?_, trivial⟩) ?_
 · refine opk_pure rfl rfl fun a w hb hf hd => ?_
   obtain ⟨cs, h1, h2, h3, h4, h5⟩ := bx.below hb x63
   exact ⟨_, run_load_row _ _ rfl (ev ((hf 2 (out_of (by kernel_rfl))).trans s60)) h1 Tryz.underlying44 rfl (by rw [h2]; exact info_Interval), fun _ _ => h5⟩
 · refine opk_call rfl rfl fun a w hb hf hd => ?_
   have e0 : a.eval (.tmp 5) = sl a 5 := rfl
   exact ⟨98, #[sl a 5], run_call rfl rfl (fun _ _ => by kernel_rfl) (args_1 e0), (iv_ordered  (by omega) (mP_imp (m1' := (mR p0 k0)) (m2' := (mR q0 k0)) (fun _ h => h) (fun _ h => h) (hd.at 0 rfl rfl rfl rfl)) (hT.below (B62.trans (hb.mono B62.size)))).mono fun _ _ r => RetS.imp (fun _ _ h => fun _ _ => (mP_imp (fun _ h => (isR.mono h (by omega))) (fun _ h => (isR.mono h (by omega))) h)) r⟩
 · refine opk_pure rfl rfl fun a w hb hf hd => ?_
   obtain ⟨cs, h1, h2, h3, h4, h5⟩ := bx.below hb x65
   exact ⟨_, run_load_row _ _ rfl (ev ((hf 3 (out_of (by kernel_rfl))).trans s61)) h1 Tryz.underlying44 rfl (by rw [h2]; exact info_Interval), fun _ _ => h5⟩
 · refine opk_call rfl rfl fun a w hb hf hd => ?_
   have e0 : a.eval (.tmp 7) = sl a 7 := rfl
   exact ⟨98, #[sl a 7], run_call rfl rfl (fun _ _ => by kernel_rfl) (args_1 e0), (iv_ordered  (by omega) (mP_imp (m1' := (mR p1 k1)) (m2' := (mR q1 k1)) (fun _ h => h) (fun _ h => h) (hd.at 0 rfl rfl rfl rfl)) (hT.below (B62.trans (hb.mono B62.size)))).mono fun _ _ r => RetS.imp (fun _ _ h => fun _ _ => (mP_imp (fun _ h => (isR.mono h (by omega))) (fun _ h => (isR.mono h (by omega))) h)) r⟩
 intro a69 w70 ms71
 have B72 := B62.trans (ms71.b.mono B62.size)
 have z73 := ms71.sz.trans z56
 have d74 := ms71.df.trans d57
 have s75 := (ms71.fr 2 (out_of (by kernel_rfl))).trans s60
 have s76 := (ms71.fr 3 (out_of (by kernel_rfl))).trans s61
 have s77 := (ms71.fr 4 (out_of (by kernel_rfl))).trans s51
 have x78 := bx.below ms71.b x63
 have x79 := bx.below ms71.b x65
 have x80 := bx.below ms71.b x67
 have s81 : (mP (mR (mnQ p0 q0) k0) (mR (mxQ p0 q0) k0)).S w70 (sl a69 6) := ms71.g 1 _ 6 rfl (by decide) trivial rfl
 have s82 : (mP (mR (mnQ p1 q1) k1) (mR (mxQ p1 q1) k1)).S w70 (sl a69 8) := ms71.g 3 _ 8 rfl (by decide) trivial rfl
 refine tl_put rfl rfl rfl (m' := (mP (mR (mnQ p0 q0) k0) (mR (mxQ p0 q0) k0))) x78 (ev s75) s81 (mP.cv (fun _ h => (isR.cv h)) (fun _ h => (isR.cv h)) s81) info_Interval ?_
 intro w83 x84 ex85 ot86 bl87
 have B88 := bl87 w (by omega) B72
 have x89 := ot86 (by omega) x79
 have x90 := ot86 (by omega) x80
 have s91 := (mP (mR (mnQ p0 q0) k0) (mR (mxQ p0 q0) k0)).mono _ _ _ ex85 s81
 have s92 := (mP (mR (mnQ p1 q1) k1) (mR (mxQ p1 q1) k1)).mono _ _ _ ex85 s82
 refine tl_put rfl rfl rfl (m' := (mP (mR (mnQ p1 q1) k1) (mR (mxQ p1 q1) k1))) x89 (ev s76) s92 (mP.cv (fun _ h => (isR.cv h)) (fun _ h => (isR.cv h)) s92) info_Interval ?_
 intro w93 x94 ex95 ot96 bl97
 have B98 := bl97 w (by omega) B88
 have x99 := ot96 (by omega) x84
 have x100 := ot96 (by omega) x90
 have s101 := (mP (mR (mnQ p0 q0) k0) (mR (mxQ p0 q0) k0)).mono _ _ _ ex95 s91
 have s102 := (mP (mR (mnQ p1 q1) k1) (mR (mxQ p1 q1) k1)).mono _ _ _ ex95 s92
 refine wpList_nil (then_normal ?_)
 refine wp_seq ?_
 refine wp_region_mono 11 [] (mG [(mV (.pointer (some ⟨g11, 0, none⟩))).b, (mR (mnQ p0 q0) k0).b, (mV (.pointer (some ⟨g28, 0, none⟩))).b, (mR (mnQ p1 q1) k1).b, (mR (mnQ (mnQ p0 q0) (mnQ p1 q1)) (k0 + k1)).b, (mV (.pointer (some ⟨g11, 3, none⟩))).b, (mR (mxQ p0 q0) k0).b, (mV (.pointer (some ⟨g28, 3, none⟩))).b, (mR (mxQ p1 q1) k1).b, (mR (mxQ (mxQ p0 q0) (mxQ p1 q1)) (k0 + k1)).b, (mP (mC (mnQ (mnQ (mnQ p0 q0) (mnQ p1 q1)) (mxQ (mxQ p0 q0) (mxQ p1 q1))) (k0 + k1 + k0 + k1 + 1)) (mC (mxQ (mnQ (mnQ p0 q0) (mnQ p1 q1)) (mxQ (mxQ p0 q0) (mxQ p1 q1))) (k0 + k1 + k0 + k1 + 1))).b]) (by kernel_rfl) (by rw [z73]; kernel_rfl) (fun h => absurd rfl h) (mG_mono _) (ops_ok ⟨?_, ?_, ?_, ?_, ?_, ?_, ?_, ?_, ?_, ?_, ?_, trivial⟩) ?_
 · exact opk_pure rfl rfl fun a w hb hf hd => ⟨_, fa_Interval_0 rfl (ev ((hf 2 (out_of (by kernel_rfl))).trans s75)), fun _ _ => rfl⟩
 · refine opk_pure rfl rfl fun a w hb hf hd => ?_
   obtain ⟨x0, x1, x2, h1, h2⟩ := (bx.below hb x99).lo
   exact ⟨_, run_load_mid _ _ rfl (ev (hd.at 0 rfl rfl rfl rfl)) h1 Tryz.underlying26 rfl info_Rat, fun _ _ => h2⟩
 · exact opk_pure rfl rfl fun a w hb hf hd => ⟨_, fa_Interval_0 rfl (ev ((hf 3 (out_of (by kernel_rfl))).trans s76)), fun _ _ => rfl⟩
 · refine opk_pure rfl rfl fun a w hb hf hd => ?_
   obtain ⟨x0, x1, x2, h1, h2⟩ := (bx.below hb x94).lo
   exact ⟨_, run_load_mid _ _ rfl (ev (hd.at 0 rfl rfl rfl rfl)) h1 Tryz.underlying26 rfl info_Rat, fun _ _ => h2⟩
 · refine opk_call rfl rfl fun a w hb hf hd => ?_
   have e0 : a.eval (.tmp 10) = sl a 10 := rfl
   have e1 : a.eval (.tmp 12) = sl a 12 := rfl
   exact ⟨100, #[sl a 10, sl a 12], run_call rfl rfl (fun _ _ => by kernel_rfl) (args_2 e0 e1), (iv_lesser  (by omega) (by omega) (hd.at 0 rfl rfl rfl rfl) (hd.at 1 rfl rfl rfl rfl) (hT.below (B98.trans (hb.mono B98.size)))).mono fun _ _ r => RetS.imp (fun _ _ h => fun _ _ => (isR.mono h (by omega))) r⟩
 · exact opk_pure rfl rfl fun a w hb hf hd => ⟨_, fa_Interval_1 rfl (ev ((hf 2 (out_of (by kernel_rfl))).trans s75)), fun _ _ => rfl⟩
 · refine opk_pure rfl rfl fun a w hb hf hd => ?_
   obtain ⟨x0, x1, x2, h1, h2⟩ := (bx.below hb x99).hi
   exact ⟨_, run_load_mid _ _ rfl (ev (hd.at 0 rfl rfl rfl rfl)) h1 Tryz.underlying26 rfl info_Rat, fun _ _ => h2⟩
 · exact opk_pure rfl rfl fun a w hb hf hd => ⟨_, fa_Interval_1 rfl (ev ((hf 3 (out_of (by kernel_rfl))).trans s76)), fun _ _ => rfl⟩
 · refine opk_pure rfl rfl fun a w hb hf hd => ?_
   obtain ⟨x0, x1, x2, h1, h2⟩ := (bx.below hb x94).hi
   exact ⟨_, run_load_mid _ _ rfl (ev (hd.at 0 rfl rfl rfl rfl)) h1 Tryz.underlying26 rfl info_Rat, fun _ _ => h2⟩
 · refine opk_call rfl rfl fun a w hb hf hd => ?_
   have e0 : a.eval (.tmp 15) = sl a 15 := rfl
   have e1 : a.eval (.tmp 17) = sl a 17 := rfl
   exact ⟨99, #[sl a 15, sl a 17], run_call rfl rfl (fun _ _ => by kernel_rfl) (args_2 e0 e1), (iv_greater  (by omega) (by omega) (hd.at 0 rfl rfl rfl rfl) (hd.at 1 rfl rfl rfl rfl) (hT.below (B98.trans (hb.mono B98.size)))).mono fun _ _ r => RetS.imp (fun _ _ h => fun _ _ => (isR.mono h (by omega))) r⟩
 · refine opk_call rfl rfl fun a w hb hf hd => ?_
   have e0 : a.eval (.tmp 13) = sl a 13 := rfl
   have e1 : a.eval (.tmp 18) = sl a 18 := rfl
   exact ⟨43, #[sl a 13, sl a 18], run_call rfl rfl (fun _ _ => by kernel_rfl) (args_2 e0 e1), (iv_make  (by omega) (by omega) (hd.at 0 rfl rfl rfl rfl) (hd.at 1 rfl rfl rfl rfl) (hT.below (B98.trans (hb.mono B98.size)))).mono fun _ _ r => RetS.imp (fun _ _ h => fun _ _ => (mP_imp (fun _ h => (isC.mono h (by omega))) (fun _ h => (isC.mono h (by omega))) h)) r⟩
 intro a103 w104 ms105
 have B106 := B98.trans (ms105.b.mono B98.size)
 have d108 := ms105.df.trans d74
 have s111 := (ms105.fr 4 (out_of (by kernel_rfl))).trans s77
 have x112 := bx.below ms105.b x94
 have x113 := bx.below ms105.b x99
 have x114 := bx.below ms105.b x100
 have s115 : (mP (mC (mnQ (mnQ (mnQ p0 q0) (mnQ p1 q1)) (mxQ (mxQ p0 q0) (mxQ p1 q1))) (k0 + k1 + k0 + k1 + 1)) (mC (mxQ (mnQ (mnQ p0 q0) (mnQ p1 q1)) (mxQ (mxQ p0 q0) (mxQ p1 q1))) (k0 + k1 + k0 + k1 + 1))).S w104 (sl a103 19) := ms105.g 10 _ 19 rfl (by decide) trivial rfl
 refine tl_put rfl rfl rfl (m' := (mP (mC (mnQ (mnQ (mnQ p0 q0) (mnQ p1 q1)) (mxQ (mxQ p0 q0) (mxQ p1 q1))) (k0 + k1 + k0 + k1 + 1)) (mC (mxQ (mnQ (mnQ p0 q0) (mnQ p1 q1)) (mxQ (mxQ p0 q0) (mxQ p1 q1))) (k0 + k1 + k0 + k1 + 1)))) x114 (ev s111) s115 (mP.cv (fun _ h => (isC.cv h)) (fun _ h => (isC.cv h)) s115) info_Interval ?_
 intro w116 x117 ex118 ot119 bl120
 have B121 := bl120 w (by omega) B106
 have x122 := ot119 (by omega) x112
 have x123 := ot119 (by omega) x113
 have s124 := (mP (mC (mnQ (mnQ (mnQ p0 q0) (mnQ p1 q1)) (mxQ (mxQ p0 q0) (mxQ p1 q1))) (k0 + k1 + k0 + k1 + 1)) (mC (mxQ (mnQ (mnQ p0 q0) (mnQ p1 q1)) (mxQ (mxQ p0 q0) (mxQ p1 q1))) (k0 + k1 + k0 + k1 + 1))).mono _ _ _ ex118 s115
 refine wpList_nil (then_normal ?_)
 refine wp_ret ?_
 exact end_cell rfl d108 s111 x117 Tryz.underlying44 rfl info_Interval B121 (fun v h => (by rw [mn_eq hull_le, mx_eq hull_le] at h; exact mP_imp (fun _ h => isC.mono h (by omega)) (fun _ h => isC.mono h (by omega)) h))

theorem k_smallon {x y : Bool} {v0 : Value} {w : World}  (pf0 : (mP (mS x) (mS y)).S w v0) :
   Calls Tryz.prog 24 #[v0] w (RetS (mV (.bool (x && y))).S w) := by
 obtain ⟨c0, rfl, n0, u0, o0⟩ := (mP.cv (fun _ h => (isS.cv h)) (fun _ h => (isS.cv h)) pf0)
 refine calls_abs 11 Tryz.func24 rfl rfl (by simp) ?_
 intro a0 z0 d0 ha
 have s0_0 : sl a0 0 = .agg c0 := ha 0 (by simp)
 have B0 : Below w.heap.size w w := Below.refl _ _
 refine wp_seq ?_
 refine wp_region_seq 0 (mG []) (by rw [z0]; kernel_rfl) (mG_mono _) (ops_ok trivial) ?_
 intro a1 w2 ms3
 have B4 := B0.trans (ms3.b.mono B0.size)
 have z5 := ms3.sz.trans z0
 have d6 := ms3.df.trans d0
 have s7 := (ms3.fr 0 (out_of (by kernel_rfl))).trans s0_0
 refine tl_new rfl rfl (run_box_op rfl (ev s7)) (by rw [z5]; decide) ?_
 intro a8 w9 g10 z11 d12 s13 fr14 hg15 hc16 hb17
 have z18 := z11.trans z5
 have d19 := d12.trans d6
 have B21 := B4.trans (hb17.mono B4.size)
 have lw23 : w.heap.size ≤ g10 := by have := B4.size; omega
 have x22 : bx 44 6 (mP (mS x) (mS y)) w9 g10 := ⟨c0, hc16, n0, u0, o0, (mP (mS x) (mS y)).mono _ _ _ (Ext.of B21) pf0⟩
 refine tl_set rfl rfl (run_assign rfl) (by rw [z18]; decide) ?_
 intro a24 z25 d26 s27 fr28
 have z30 := z25.trans z18
 have d31 := d26.trans d19
 have s33 := (fr28 1 (by decide)).trans s13
 refine wpList_nil (then_normal ?_)
 refine wp_seq ?_
 refine wp_region_seq 8 (mG [(mV (.pointer (some ⟨g10, 0, none⟩))).b, (mS x).b, (mV (.bool x)).b, (mV (.bool x)).b, (mIf x (mV (.pointer (some ⟨g10, 3, none⟩)))).b, (mIf x (mS y)).b, (mIf x (mV (.bool y))).b, (mV (.bool (x && y))).b]) (by rw [z30]; kernel_rfl) (mG_mono _) (ops_ok ⟨?_, ?_, ?_, ?_, ?_, ?_, ?_, ?_, trivial⟩) ?_
 · exact opk_pure rfl rfl fun a w hb hf hd => ⟨_, fa_Interval_0 rfl (ev ((hf 1 (out_of (by kernel_rfl))).trans s33)), fun _ _ => rfl⟩
 · refine opk_pure rfl rfl fun a w hb hf hd => ?_
   obtain ⟨x0, x1, x2, h1, h2⟩ := (bx.below hb x22).lo
   exact ⟨_, run_load_mid _ _ rfl (ev (hd.at 0 rfl rfl rfl rfl)) h1 Tryz.underlying26 rfl info_Rat, fun _ _ => h2⟩
 · refine opk_call rfl rfl fun a w hb hf hd => ?_
   have e0 : a.eval (.tmp 4) = sl a 4 := rfl
   exact ⟨9, #[sl a 4], run_call rfl rfl (fun _ _ => by kernel_rfl) (args_1 e0), (k_small (hd.at 0 rfl rfl rfl rfl)).mono fun _ _ r => RetS.imp (fun _ _ h => fun _ _ => h) r⟩
 · exact opk_pure rfl rfl fun a w hb hf hd => ⟨_, run_move rfl, fun _ _ => (hd.at 0 rfl rfl rfl rfl)⟩
 · refine opk_guard x rfl rfl rfl rfl (by rw [z30]; decide) (fun a w hb hf hd => (hd.at 0 rfl rfl rfl rfl)) (fun hne _ hγ => absurd hγ hne) (fun hγ => ?_)
   exact opk_pure rfl rfl fun a w hb hf hd => ⟨_, fa_Interval_1 rfl (ev ((hf 1 (out_of (by kernel_rfl))).trans s33)), fun _ _ _ => rfl⟩
 · refine opk_guard x rfl rfl rfl rfl (by rw [z30]; decide) (fun a w hb hf hd => (hd.at 1 rfl rfl rfl rfl)) (fun hne _ hγ => absurd hγ hne) (fun hγ => ?_)
   refine opk_pure rfl rfl fun a w hb hf hd => ?_
   obtain ⟨x0, x1, x2, h1, h2⟩ := (bx.below hb x22).hi
   exact ⟨_, run_load_mid _ _ rfl (ev ((hd.at 0 rfl rfl rfl rfl) hγ)) h1 Tryz.underlying26 rfl info_Rat, fun _ _ _ => h2⟩
 · refine opk_guard x rfl rfl rfl rfl (by rw [z30]; decide) (fun a w hb hf hd => (hd.at 1 rfl rfl rfl rfl)) (fun hne _ hγ => absurd hγ hne) (fun hγ => ?_)
   refine opk_call rfl rfl fun a w hb hf hd => ?_
   have e0 : a.eval (.tmp 8) = sl a 8 := rfl
   exact ⟨9, #[sl a 8], run_call rfl rfl (fun _ _ => by kernel_rfl) (args_1 e0), (k_small ((hd.at 0 rfl rfl rfl rfl) hγ)).mono fun _ _ r => RetS.imp (fun _ _ h => fun _ _ _ => h) r⟩
 · exact opk_pure rfl rfl fun a w hb hf hd => ⟨_, run_pick rfl (ev (hd.at 0 rfl rfl rfl rfl)), fun _ _ => pick_and (hd.at 1 rfl rfl rfl rfl)⟩
 intro a34 w35 ms36
 have B37 := B21.trans (ms36.b.mono B21.size)
 have z38 := ms36.sz.trans z30
 have d39 := ms36.df.trans d31
 have x41 := bx.below ms36.b x22
 have s42 : sl a34 10 = .bool (x && y) := ms36.g 7 _ 10 rfl (by decide) trivial rfl
 refine tl_set rfl rfl (run_assign rfl) (by rw [z38]; decide) ?_
 intro a43 z44 d45 s46 fr47
 have s48 := s46.trans s42
 have d50 := d45.trans d39
 refine wpList_nil (then_normal ?_)
 refine wp_ret ?_
 exact end_tmp rfl d50 B37 s48
end Go.Proofs.YtbjijmjhlpkomaaGreatDoor

namespace Go.Proofs.YtbjijmjhlpkomaaGreatDoor
open Go.RowKit Num

def ext (qs : Nat → Rat) (i l g : Nat) : Prop := i ≤ 4 ∧ l < 4 ∧ g < 4 ∧ (∀ j, j < i → qs l ≤ qs j) ∧ (∀ j, j < i → qs j ≤ qs g)
theorem ext_init (qs : Nat → Rat) : ext qs 0 0 0 := ⟨by omega, by omega, by omega, fun j hj => by omega, fun j hj => by omega⟩
def XL (qs : Nat → Rat) (i l l' : Nat) : Prop := (l' = i ∧ qs i < qs l) ∨ (l' = l ∧ qs l ≤ qs i)
def XG (qs : Nat → Rat) (i g g' : Nat) : Prop := (g' = i ∧ qs g ≤ qs i) ∨ (g' = g ∧ qs i ≤ qs g)
theorem xl_t {qs : Nat → Rat} {i l : Nat} (h : cmpQ (qs i) (qs l) < 0) : XL qs i l i := by
 refine Or.inl ⟨rfl, ?_⟩
 have h1 := @cmpq_pos (qs l) (qs i)
 have h2 := cmpQ_swap (qs i) (qs l)
 exact h1.1 (by omega)
theorem xl_f {qs : Nat → Rat} {i l : Nat} (h : ¬ cmpQ (qs i) (qs l) < 0) : XL qs i l l := Or.inr ⟨rfl, Rat.not_lt.1 (cmpq_ge.1 (by omega))⟩
theorem xg_t {qs : Nat → Rat} {i g : Nat} (h : 0 ≤ cmpQ (qs i) (qs g)) : XG qs i g i := Or.inl ⟨rfl, Rat.not_lt.1 (cmpq_ge.1 h)⟩
theorem xg_f {qs : Nat → Rat} {i g : Nat} (h : ¬ 0 ≤ cmpQ (qs i) (qs g)) : XG qs i g g := Or.inr ⟨rfl, Rat.not_lt.1 (cmpq_le.1 (by omega))⟩
theorem ext_step {qs : Nat → Rat} {i l g l' g' : Nat} (h : ext qs i l g) (hi : i < 4) (h1 : XL qs i l l') (h2 : XG qs i g g') : ext qs (i + 1) l' g' := by
 obtain ⟨e1, e2, e3, e4, e5⟩ := h
 refine ⟨by omega, ?_, ?_, fun j hj => ?_, fun j hj => ?_⟩
 · rcases h1 with ⟨rfl, _⟩ | ⟨rfl, _⟩ <;> omega
 · rcases h2 with ⟨rfl, _⟩ | ⟨rfl, _⟩ <;> omega
 · rcases h1 with ⟨rfl, h⟩ | ⟨rfl, h⟩
   · by_cases hj' : j < l'
     · exact Rat.le_trans (Rat.le_of_lt h) (e4 j hj')
     · obtain rfl : j = l' := by omega
       exact Rat.le_refl
   · by_cases hj' : j < i
     · exact e4 j hj'
     · obtain rfl : j = i := by omega
       exact h
 · rcases h2 with ⟨rfl, h⟩ | ⟨rfl, h⟩
   · by_cases hj' : j < g'
     · exact Rat.le_trans (e5 j hj') h
     · obtain rfl : j = g' := by omega
       exact Rat.le_refl
   · by_cases hj' : j < i
     · exact e5 j hj'
     · obtain rfl : j = i := by omega
       exact h
theorem mn_cases (p q : Rat) : mnQ p q = p ∨ mnQ p q = q := by unfold mnQ; split <;> simp
theorem mx_cases (p q : Rat) : mxQ p q = p ∨ mxQ p q = q := by unfold mxQ; split <;> simp
theorem ext_end {qs : Nat → Rat} {i l g : Nat} (h : ext qs i l g) (hi : ¬ i < 4) : qs l = mn4 (qs 0) (qs 1) (qs 2) (qs 3) ∧ qs g = mx4 (qs 0) (qs 1) (qs 2) (qs 3) := by
 obtain ⟨e1, e2, e3, e4, e5⟩ := h
 have a0 := e4 0 (by omega)
 have a1 := e4 1 (by omega)
 have a2 := e4 2 (by omega)
 have a3 := e4 3 (by omega)
 have b0 := e5 0 (by omega)
 have b1 := e5 1 (by omega)
 have b2 := e5 2 (by omega)
 have b3 := e5 3 (by omega)
 constructor
 · refine Rat.le_antisymm ?_ ?_
   · unfold mn4
     rcases mn_cases (mnQ (qs 0) (qs 1)) (mnQ (qs 2) (qs 3)) with h | h <;> rw [h]
     · rcases mn_cases (qs 0) (qs 1) with h | h <;> rw [h] <;> assumption
     · rcases mn_cases (qs 2) (qs 3) with h | h <;> rw [h] <;> assumption
   · have m1 : mn4 (qs 0) (qs 1) (qs 2) (qs 3) ≤ mnQ (qs 0) (qs 1) := mn_le_l _ _
     have m2 : mn4 (qs 0) (qs 1) (qs 2) (qs 3) ≤ mnQ (qs 2) (qs 3) := mn_le_r _ _
     match l, e2 with
     | 0, _ => exact Rat.le_trans m1 (mn_le_l _ _)
     | 1, _ => exact Rat.le_trans m1 (mn_le_r _ _)
     | 2, _ => exact Rat.le_trans m2 (mn_le_l _ _)
     | 3, _ => exact Rat.le_trans m2 (mn_le_r _ _)
 · refine Rat.le_antisymm ?_ ?_
   · have m1 : mxQ (qs 0) (qs 1) ≤ mx4 (qs 0) (qs 1) (qs 2) (qs 3) := le_mx_l _ _
     have m2 : mxQ (qs 2) (qs 3) ≤ mx4 (qs 0) (qs 1) (qs 2) (qs 3) := le_mx_r _ _
     match g, e3 with
     | 0, _ => exact Rat.le_trans (le_mx_l _ _) m1
     | 1, _ => exact Rat.le_trans (le_mx_r _ _) m1
     | 2, _ => exact Rat.le_trans (le_mx_l _ _) m2
     | 3, _ => exact Rat.le_trans (le_mx_r _ _) m2
   · unfold mx4
     rcases mx_cases (mxQ (qs 0) (qs 1)) (mxQ (qs 2) (qs 3)) with h | h <;> rw [h]
     · rcases mx_cases (qs 0) (qs 1) with h | h <;> rw [h] <;> assumption
     · rcases mx_cases (qs 2) (qs 3) with h | h <;> rw [h] <;> assumption
end Go.Proofs.YtbjijmjhlpkomaaGreatDoor

namespace Go.Proofs.YtbjijmjhlpkomaaGreatDoor
open Go.RowKit Num

theorem iv_extremesC {qs : Nat → Rat} {k : Nat} {v0 : Value} {w : World} (hk : k ≤ 99999) (pf0 : (mA4C qs k).S w v0) (hT : Tb w) :
   Calls Tryz.prog 112 #[v0] w (RetS (mP (mC (mn4 (qs 0) (qs 1) (qs 2) (qs 3)) k) (mC (mx4 (qs 0) (qs 1) (qs 2) (qs 3)) k)).S w) := by
 obtain ⟨c0, rfl, n0, u0, o0⟩ := (isA4C.cv pf0)
 refine calls_abs 34 Tryz.func112 rfl rfl (by simp) ?_
 intro a0 z0 d0 ha
 have s0_0 : sl a0 0 = .agg c0 := ha 0 (by simp)
 have B0 : Below w.heap.size w w := Below.refl _ _
 refine wp_seq ?_
 refine wp_region_seq 0 (mG []) (by rw [z0]; kernel_rfl) (mG_mono _) (ops_ok trivial) ?_
 intro a1 w2 ms3
 have B4 := B0.trans (ms3.b.mono B0.size)
 have z5 := ms3.sz.trans z0
 have d6 := ms3.df.trans d0
 have s7 := (ms3.fr 0 (out_of (by kernel_rfl))).trans s0_0
 refine tl_new rfl rfl (run_box_op rfl (ev s7)) (by rw [z5]; decide) ?_
 intro a8 w9 g10 z11 d12 s13 fr14 hg15 hc16 hb17
 have z18 := z11.trans z5
 have d19 := d12.trans d6
 have B21 := B4.trans (hb17.mono B4.size)
 have lw23 : w.heap.size ≤ g10 := by have := B4.size; omega
 have x22 : bx 97 12 (mA4C qs k) w9 g10 := ⟨c0, hc16, n0, u0, o0, (mA4C qs k).mono _ _ _ (Ext.of B21) pf0⟩
 refine tl_new rfl rfl (run_alloc_op rfl zero_Interval) (by rw [z18]; decide) ?_
 intro a24 w25 g26 z27 d28 s29 fr30 hg31 hc32 hb33
 have z34 := z27.trans z18
 have d35 := d28.trans d19
 have s37 := (fr30 1 (by decide)).trans s13
 have B38 := B21.trans (hb33.mono B21.size)
 have ne40 : g10 ≠ g26 := by have := x22.lt; omega
 have x39 := bx.below hb33 x22
 have lw42 : w.heap.size ≤ g26 := by have := B21.size; omega
 have x41 := bx_Interval hc32
 refine wpList_nil (then_normal ?_)
 refine wp_seq ?_
 refine wp_region_seq 0 (mG []) (by rw [z34]; kernel_rfl) (mG_mono _) (ops_ok trivial) ?_
 intro a43 w44 ms45
 have B46 := B38.trans (ms45.b.mono B38.size)
 have z47 := ms45.sz.trans z34
 have d48 := ms45.df.trans d35
 have s49 := (ms45.fr 1 (out_of (by kernel_rfl))).trans s37
 have s50 := (ms45.fr 2 (out_of (by kernel_rfl))).trans s29
 have x51 := bx.below ms45.b x39
 have x52 := bx.below ms45.b x41
 refine tl_set rfl rfl (run_assign rfl) (by rw [z47]; decide) ?_
 intro a53 z54 d55 s56 fr57
 have s58 : sl a53 3 = .int .i64 0 := s56.trans rfl
 have z59 := z54.trans z47
 have d60 := d55.trans d48
 have s61 := (fr57 1 (by decide)).trans s49
 have s62 := (fr57 2 (by decide)).trans s50
 refine tl_set rfl rfl (run_assign rfl) (by rw [z59]; decide) ?_
 intro a63 z64 d65 s66 fr67
 have s68 : sl a63 4 = .int .i64 0 := s66.trans rfl
 have z69 := z64.trans z59
 have d70 := d65.trans d60
 have s71 := (fr67 1 (by decide)).trans s61
 have s72 := (fr67 2 (by decide)).trans s62
 have s73 := (fr67 3 (by decide)).trans s58
 refine wpList_nil (then_normal ?_)
 refine wp_seq ?_
 refine wp_seq ?_
 refine wp_region_seq 2 (mG [(mA4C qs k).b, (mV (.int .i64 0)).b]) (by rw [z69]; kernel_rfl) (mG_mono _) (ops_ok ⟨?_, ?_, trivial⟩) ?_
 · refine opk_pure rfl rfl fun a w hb hf hd => ?_
   obtain ⟨cs, h1, h2, h3, h4, h5⟩ := bx.below hb x51
   exact ⟨_, run_load_row _ _ rfl (ev ((hf 1 (out_of (by kernel_rfl))).trans s71)) h1 Tryz.underlying97 rfl (by rw [h2]; exact info_Arr4), fun _ _ => h5⟩
 · exact opk_pure rfl rfl fun a w hb hf hd => ⟨_, run_move rfl, fun _ _ => rfl⟩
 intro a74 w75 ms76
 have B77 := B46.trans (ms76.b.mono B46.size)
 have z78 := ms76.sz.trans z69
 have d79 := ms76.df.trans d70
 have s80 := (ms76.fr 1 (out_of (by kernel_rfl))).trans s71
 have s81 := (ms76.fr 2 (out_of (by kernel_rfl))).trans s72
 have s82 := (ms76.fr 3 (out_of (by kernel_rfl))).trans s73
 have s83 := (ms76.fr 4 (out_of (by kernel_rfl))).trans s68
 have x84 := bx.below ms76.b x51
 have x85 := bx.below ms76.b x52
 have s86 : (mA4C qs k).S w75 (sl a74 7) := ms76.g 0 _ 7 rfl (by decide) trivial rfl
 have s87 : sl a74 8 = .int .i64 0 := ms76.g 1 _ 8 rfl (by decide) trivial rfl
 refine wpList_nil (then_normal ?_)
 refine wp_block ?_
 refine wp_loop_ghost (fun n a w' => ∃ i l g : Nat, n = 4 - i ∧ (ext qs i l g) ∧ a.tmps.size = 34 ∧ a.defers = [] ∧ Below w.heap.size w w' ∧ sl a 1 = .pointer (some ⟨g10, 0, none⟩) ∧ sl a 2 = .pointer (some ⟨g26, 0, none⟩) ∧ sl a 3 = .int .i64 ((l : Nat) : Int) ∧ sl a 4 = .int .i64 ((g : Nat) : Int) ∧ (mA4C qs k).S w' (sl a 7) ∧ sl a 8 = .int .i64 ((i : Nat) : Int) ∧ bx 97 12 (mA4C qs k) w' g10 ∧ bx 44 6 mTop w' g26) _ ⟨0, 0, 0, rfl, (ext_init qs), z78, d79, B77, s80, s81, (s82).trans (by simp), (s83).trans (by simp), s86, (s87).trans (by simp), x84, x85⟩ ?_
 rintro n88 a89 w90 ⟨i, l, g, rfl, hp91, z92, d93, B94, s95, s96, s97, s98, s99, s100, x101, x102⟩
 have hi0 := hp91.1
 have hl0 := hp91.2.1
 have hg0 := hp91.2.2.1
 refine wp_seq ?_
 refine wp_region_seq 1 (mG [(mV (.bool (decide ((((i : Nat) : Int)) < 4)))).b]) (by rw [z92]; kernel_rfl) (mG_mono _) (ops_ok ⟨?_, trivial⟩) ?_
 · exact opk_pure rfl rfl fun a w hb hf hd => ⟨_, run_lss rfl (ev ((hf 8 (out_of (by kernel_rfl))).trans s100)) rfl, fun _ _ => rfl⟩
 intro a103 w104 ms105
 have B106 := B94.trans (ms105.b.mono B94.size)
 have z107 := ms105.sz.trans z92
 have d108 := ms105.df.trans d93
 have s109 := (ms105.fr 1 (out_of (by kernel_rfl))).trans s95
 have s110 := (ms105.fr 2 (out_of (by kernel_rfl))).trans s96
 have s111 := (ms105.fr 3 (out_of (by kernel_rfl))).trans s97
 have s112 := (ms105.fr 4 (out_of (by kernel_rfl))).trans s98
 have s113 : (mA4C qs k).S w104 (sl a103 7) := by rw [ms105.fr 7 (out_of (by kernel_rfl))]; exact (mA4C qs k).mono _ _ _ (Ext.of ms105.b) s99
 have s114 := (ms105.fr 8 (out_of (by kernel_rfl))).trans s100
 have x115 := bx.below ms105.b x101
 have x116 := bx.below ms105.b x102
 have s117 : sl a103 9 = .bool (decide ((((i : Nat) : Int)) < 4)) := ms105.g 0 _ 9 rfl (by decide) trivial rfl
 refine wpList_nil (then_normal ?_)
 refine wp_seq ?_
 refine cond_b (decide ((((i : Nat) : Int)) < 4)) (ev s117) (fun hb118 => ?_) (fun hb118 => ?_)
 · skip
   have hb118p := of_decide_eq_true hb118
   refine wp_skip (then_normal ?_)
   refine wp_seq ?_
   refine wp_block ?_
   refine wp_seq ?_
   refine wp_region_seq 2 (mG [(mV (.int .i64 ((i : Nat) : Int))).b, (mC (qs i) k).b]) (by rw [z107]; kernel_rfl) (mG_mono _) (ops_ok ⟨?_, ?_, trivial⟩) ?_
   · exact opk_pure rfl rfl fun a w hb hf hd => ⟨_, run_move rfl, fun _ _ => ((hf 8 (out_of (by kernel_rfl))).trans s114)⟩
   · refine opk_pure rfl rfl fun a w hb hf hd => ?_
     refine index_a4c (out_pred (m := (mA4C qs k)) (hf 7 (out_of (by kernel_rfl))) hb s113) rfl (ev (t := 7) rfl) (ev ((hf 8 (out_of (by kernel_rfl))).trans s114)) (i := i) (by omega) (fun u hu => ?_)
     exact fun _ _ => hu
   intro a119 w120 ms121
   have B122 := B106.trans (ms121.b.mono B106.size)
   have z123 := ms121.sz.trans z107
   have d124 := ms121.df.trans d108
   have s125 := (ms121.fr 1 (out_of (by kernel_rfl))).trans s109
   have s126 := (ms121.fr 2 (out_of (by kernel_rfl))).trans s110
   have s127 := (ms121.fr 3 (out_of (by kernel_rfl))).trans s111
   have s128 := (ms121.fr 4 (out_of (by kernel_rfl))).trans s112
   have s129 : (mA4C qs k).S w120 (sl a119 7) := by rw [ms121.fr 7 (out_of (by kernel_rfl))]; exact (mA4C qs k).mono _ _ _ (Ext.of ms121.b) s113
   have s130 := (ms121.fr 8 (out_of (by kernel_rfl))).trans s114
   have x132 := bx.below ms121.b x115
   have x133 := bx.below ms121.b x116
   have s134 : sl a119 10 = .int .i64 ((i : Nat) : Int) := ms121.g 0 _ 10 rfl (by decide) trivial rfl
   have s135 : (mC (qs i) k).S w120 (sl a119 11) := ms121.g 1 _ 11 rfl (by decide) trivial rfl
   refine tl_new rfl rfl (run_alloc_op rfl zero_Rat) (by rw [z123]; decide) ?_
   intro a136 w137 g138 z139 d140 s141 fr142 hg143 hc144 hb145
   have z146 := z139.trans z123
   have d147 := d140.trans d124
   have s148 := (fr142 1 (by decide)).trans s125
   have s149 := (fr142 2 (by decide)).trans s126
   have s150 := (fr142 3 (by decide)).trans s127
   have s151 := (fr142 4 (by decide)).trans s128
   have s152 : (mA4C qs k).S w120 (sl a136 7) := by rw [fr142 7 (by decide)]; exact s129
   have s153 := (fr142 8 (by decide)).trans s130
   have s155 := (fr142 10 (by decide)).trans s134
   have s156 : (mC (qs i) k).S w120 (sl a136 11) := by rw [fr142 11 (by decide)]; exact s135
   have B157 := B122.trans (hb145.mono B122.size)
   have ne159 : g10 ≠ g138 := by have := x132.lt; omega
   have x158 := bx.below hb145 x132
   have ne161 : g26 ≠ g138 := by have := x133.lt; omega
   have x160 := bx.below hb145 x133
   have s162 := (mA4C qs k).mono _ _ _ (Ext.of hb145) s152
   have s163 := (mC (qs i) k).mono _ _ _ (Ext.of hb145) s156
   have lw165 : w.heap.size ≤ g138 := by have := B122.size; omega
   have x164 := bx_Rat hc144
   refine tl_set rfl rfl (run_assign rfl) (by rw [z146]; decide) ?_
   intro a166 z167 d168 s169 fr170
   have s171 := s169.trans s155
   have z172 := z167.trans z146
   have d173 := d168.trans d147
   have s174 := (fr170 1 (by decide)).trans s148
   have s175 := (fr170 2 (by decide)).trans s149
   have s176 := (fr170 3 (by decide)).trans s150
   have s177 := (fr170 4 (by decide)).trans s151
   have s178 : (mA4C qs k).S w137 (sl a166 7) := by rw [fr170 7 (by decide)]; exact s162
   have s179 := (fr170 8 (by decide)).trans s153
   have s182 : (mC (qs i) k).S w137 (sl a166 11) := by rw [fr170 11 (by decide)]; exact s163
   have s183 := (fr170 6 (by decide)).trans s141
   refine tl_put rfl rfl rfl (m' := (mC (qs i) k)) x164 (ev s183) s182 (isC.cv s182) info_Rat ?_
   intro w184 x185 ex186 ot187 bl188
   have B189 := bl188 w (by omega) B157
   have x190 := ot187 (by omega) x158
   have x191 := ot187 (by omega) x160
   have s192 := (mA4C qs k).mono _ _ _ ex186 s178
   have s193 := (mC (qs i) k).mono _ _ _ ex186 s182
   refine wpList_nil (then_normal ?_)
   refine wp_seq ?_
   refine wp_seq ?_
   refine wp_region_mono 6 [] (mG [(mC (qs i) k).b, (mV (.int .i64 ((l : Nat) : Int))).b, (mV (.pointer (some ⟨g10, 3 * l, none⟩))).b, (mC (qs l) k).b, (mV (.int .i64 (cmpQ (qs i) (qs l)))).b, (mV (.bool (decide ((cmpQ (qs i) (qs l)) < 0)))).b]) (by kernel_rfl) (by rw [z172]; kernel_rfl) (fun h => absurd rfl h) (mG_mono _) (ops_ok ⟨?_, ?_, ?_, ?_, ?_, ?_, trivial⟩) ?_
   · refine opk_pure rfl rfl fun a w hb hf hd => ?_
     obtain ⟨cs, h1, h2, h3, h4, h5⟩ := bx.below hb x185
     exact ⟨_, run_load_row _ _ rfl (ev ((hf 6 (out_of (by kernel_rfl))).trans s183)) h1 Tryz.underlying26 rfl (by rw [h2]; exact info_Rat), fun _ _ => h5⟩
   · exact opk_pure rfl rfl fun a w hb hf hd => ⟨_, run_move rfl, fun _ _ => ((hf 3 (out_of (by kernel_rfl))).trans s176)⟩
   · exact opk_pure rfl rfl fun a w hb hf hd => ⟨_, addr_a4 rfl (ev ((hf 1 (out_of (by kernel_rfl))).trans s174)) (ev (hd.at 0 rfl rfl rfl rfl)) (by omega), fun _ _ => rfl⟩
   · refine opk_pure rfl rfl fun a w hb hf hd => ?_
     obtain ⟨x0, x1, x2, h1, h2⟩ := bx.a4c (bx.below hb x190) l (by omega)
     exact ⟨_, run_load_mid _ _ rfl (ev (hd.at 0 rfl rfl rfl rfl)) h1 Tryz.underlying26 rfl info_Rat, fun _ _ => h2⟩
   · refine opk_call rfl rfl fun a w hb hf hd => ?_
     have e0 : a.eval (.tmp 12) = sl a 12 := rfl
     have e1 : a.eval (.tmp 15) = sl a 15 := rfl
     exact ⟨21, #[sl a 12, sl a 15], run_call rfl rfl (fun _ _ => by kernel_rfl) (args_2 e0 e1), (c_cmp (by omega) (by omega) (isC.r (hd.at 0 rfl rfl rfl rfl)) (isC.r (hd.at 1 rfl rfl rfl rfl)) (hT.below (B189.trans (hb.mono B189.size)))).mono fun _ _ r => RetS.imp (fun _ _ h => fun _ _ => h) r⟩
   · exact opk_pure rfl rfl fun a w hb hf hd => ⟨_, run_lss rfl (ev (hd.at 0 rfl rfl rfl rfl)) rfl, fun _ _ => rfl⟩
   intro a194 w195 ms196
   have B197 := B189.trans (ms196.b.mono B189.size)
   have z198 := ms196.sz.trans z172
   have d199 := ms196.df.trans d173
   have s200 := (ms196.fr 1 (out_of (by kernel_rfl))).trans s174
   have s201 := (ms196.fr 2 (out_of (by kernel_rfl))).trans s175
   have s202 := (ms196.fr 3 (out_of (by kernel_rfl))).trans s176
   have s203 := (ms196.fr 4 (out_of (by kernel_rfl))).trans s177
   have s204 : (mA4C qs k).S w195 (sl a194 7) := by rw [ms196.fr 7 (out_of (by kernel_rfl))]; exact (mA4C qs k).mono _ _ _ (Ext.of ms196.b) s192
   have s205 := (ms196.fr 8 (out_of (by kernel_rfl))).trans s179
   have s207 := (ms196.fr 6 (out_of (by kernel_rfl))).trans s183
   have s208 := (ms196.fr 5 (out_of (by kernel_rfl))).trans s171
   have x209 := bx.below ms196.b x185
   have x210 := bx.below ms196.b x190
   have x211 := bx.below ms196.b x191
   have s212 : sl a194 17 = .bool (decide ((cmpQ (qs i) (qs l)) < 0)) := ms196.g 5 _ 17 rfl (by decide) trivial rfl
   refine wpList_nil (then_normal ?_)
   refine cond_b (decide ((cmpQ (qs i) (qs l)) < 0)) (ev s212) (fun hb213 => ?_) (fun hb213 => ?_)
   · skip
     have hb213p := of_decide_eq_true hb213
     refine wp_region_seq 1 (mG [(mV (.int .i64 ((i : Nat) : Int))).b]) (by rw [z198]; kernel_rfl) (mG_mono _) (ops_ok ⟨?_, trivial⟩) ?_
     · exact opk_pure rfl rfl fun a w hb hf hd => ⟨_, run_move rfl, fun _ _ => ((hf 5 (out_of (by kernel_rfl))).trans s208)⟩
     intro a214 w215 ms216
     have B217 := B197.trans (ms216.b.mono B197.size)
     have z218 := ms216.sz.trans z198
     have d219 := ms216.df.trans d199
     have s220 := (ms216.fr 1 (out_of (by kernel_rfl))).trans s200
     have s221 := (ms216.fr 2 (out_of (by kernel_rfl))).trans s201
     have s223 := (ms216.fr 4 (out_of (by kernel_rfl))).trans s203
     have s224 : (mA4C qs k).S w215 (sl a214 7) := by rw [ms216.fr 7 (out_of (by kernel_rfl))]; exact (mA4C qs k).mono _ _ _ (Ext.of ms216.b) s204
     have s225 := (ms216.fr 8 (out_of (by kernel_rfl))).trans s205
     have s227 := (ms216.fr 6 (out_of (by kernel_rfl))).trans s207
     have s228 := (ms216.fr 5 (out_of (by kernel_rfl))).trans s208
     have x230 := bx.below ms216.b x209
     have x231 := bx.below ms216.b x210
     have x232 := bx.below ms216.b x211
     have s233 : sl a214 18 = .int .i64 ((i : Nat) : Int) := ms216.g 0 _ 18 rfl (by decide) trivial rfl
     refine tl_set rfl rfl (run_assign rfl) (by rw [z218]; decide) ?_
     intro a234 z235 d236 s237 fr238
     have s239 := s237.trans s233
     have z240 := z235.trans z218
     have d241 := d236.trans d219
     have s242 := (fr238 1 (by decide)).trans s220
     have s243 := (fr238 2 (by decide)).trans s221
     have s244 := (fr238 4 (by decide)).trans s223
     have s245 : (mA4C qs k).S w215 (sl a234 7) := by rw [fr238 7 (by decide)]; exact s224
     have s246 := (fr238 8 (by decide)).trans s225
     have s248 := (fr238 6 (by decide)).trans s227
     have s249 := (fr238 5 (by decide)).trans s228
     refine wpList_nil (then_normal ?_)
     refine wp_seq ?_
     refine wp_region_mono 6 [] (mG [(mC (qs i) k).b, (mV (.int .i64 ((g : Nat) : Int))).b, (mV (.pointer (some ⟨g10, 3 * g, none⟩))).b, (mC (qs g) k).b, (mV (.int .i64 (cmpQ (qs i) (qs g)))).b, (mV (.bool (decide (0 ≤ (cmpQ (qs i) (qs g)))))).b]) (by kernel_rfl) (by rw [z240]; kernel_rfl) (fun h => absurd rfl h) (mG_mono _) (ops_ok ⟨?_, ?_, ?_, ?_, ?_, ?_, trivial⟩) ?_
     · refine opk_pure rfl rfl fun a w hb hf hd => ?_
       obtain ⟨cs, h1, h2, h3, h4, h5⟩ := bx.below hb x230
       exact ⟨_, run_load_row _ _ rfl (ev ((hf 6 (out_of (by kernel_rfl))).trans s248)) h1 Tryz.underlying26 rfl (by rw [h2]; exact info_Rat), fun _ _ => h5⟩
     · exact opk_pure rfl rfl fun a w hb hf hd => ⟨_, run_move rfl, fun _ _ => ((hf 4 (out_of (by kernel_rfl))).trans s244)⟩
     · exact opk_pure rfl rfl fun a w hb hf hd => ⟨_, addr_a4 rfl (ev ((hf 1 (out_of (by kernel_rfl))).trans s242)) (ev (hd.at 0 rfl rfl rfl rfl)) (by omega), fun _ _ => rfl⟩
     · refine opk_pure rfl rfl fun a w hb hf hd => ?_
       obtain ⟨x0, x1, x2, h1, h2⟩ := bx.a4c (bx.below hb x231) g (by omega)
       exact ⟨_, run_load_mid _ _ rfl (ev (hd.at 0 rfl rfl rfl rfl)) h1 Tryz.underlying26 rfl info_Rat, fun _ _ => h2⟩
     · refine opk_call rfl rfl fun a w hb hf hd => ?_
       have e0 : a.eval (.tmp 19) = sl a 19 := rfl
       have e1 : a.eval (.tmp 22) = sl a 22 := rfl
       exact ⟨21, #[sl a 19, sl a 22], run_call rfl rfl (fun _ _ => by kernel_rfl) (args_2 e0 e1), (c_cmp (by omega) (by omega) (isC.r (hd.at 0 rfl rfl rfl rfl)) (isC.r (hd.at 1 rfl rfl rfl rfl)) (hT.below (B217.trans (hb.mono B217.size)))).mono fun _ _ r => RetS.imp (fun _ _ h => fun _ _ => h) r⟩
     · exact opk_pure rfl rfl fun a w hb hf hd => ⟨_, run_geq rfl (ev (hd.at 0 rfl rfl rfl rfl)) rfl, fun _ _ => rfl⟩
     intro a252 w253 ms254
     have B255 := B217.trans (ms254.b.mono B217.size)
     have z256 := ms254.sz.trans z240
     have d257 := ms254.df.trans d241
     have s258 := (ms254.fr 1 (out_of (by kernel_rfl))).trans s242
     have s259 := (ms254.fr 2 (out_of (by kernel_rfl))).trans s243
     have s260 := (ms254.fr 4 (out_of (by kernel_rfl))).trans s244
     have s261 : (mA4C qs k).S w253 (sl a252 7) := by rw [ms254.fr 7 (out_of (by kernel_rfl))]; exact (mA4C qs k).mono _ _ _ (Ext.of ms254.b) s245
     have s262 := (ms254.fr 8 (out_of (by kernel_rfl))).trans s246
     have s265 := (ms254.fr 5 (out_of (by kernel_rfl))).trans s249
     have s267 := (ms254.fr 3 (out_of (by kernel_rfl))).trans s239
     have x268 := bx.below ms254.b x230
     have x269 := bx.below ms254.b x231
     have x270 := bx.below ms254.b x232
     have s271 : sl a252 24 = .bool (decide (0 ≤ (cmpQ (qs i) (qs g)))) := ms254.g 5 _ 24 rfl (by decide) trivial rfl
     refine wpList_nil (then_normal ?_)
     refine cond_b (decide (0 ≤ (cmpQ (qs i) (qs g)))) (ev s271) (fun hb272 => ?_) (fun hb272 => ?_)
     · skip
       have hb272p := of_decide_eq_true hb272
       refine wp_region_seq 1 (mG [(mV (.int .i64 ((i : Nat) : Int))).b]) (by rw [z256]; kernel_rfl) (mG_mono _) (ops_ok ⟨?_, trivial⟩) ?_
       · exact opk_pure rfl rfl fun a w hb hf hd => ⟨_, run_move rfl, fun _ _ => ((hf 5 (out_of (by kernel_rfl))).trans s265)⟩
       intro a273 w274 ms275
       have B276 := B255.trans (ms275.b.mono B255.size)
       have z277 := ms275.sz.trans z256
       have d278 := ms275.df.trans d257
       have s279 := (ms275.fr 1 (out_of (by kernel_rfl))).trans s258
       have s280 := (ms275.fr 2 (out_of (by kernel_rfl))).trans s259
       have s282 : (mA4C qs k).S w274 (sl a273 7) := by rw [ms275.fr 7 (out_of (by kernel_rfl))]; exact (mA4C qs k).mono _ _ _ (Ext.of ms275.b) s261
       have s283 := (ms275.fr 8 (out_of (by kernel_rfl))).trans s262
       have s288 := (ms275.fr 3 (out_of (by kernel_rfl))).trans s267
       have x290 := bx.below ms275.b x268
       have x291 := bx.below ms275.b x269
       have x292 := bx.below ms275.b x270
       have s293 : sl a273 25 = .int .i64 ((i : Nat) : Int) := ms275.g 0 _ 25 rfl (by decide) trivial rfl
       refine tl_set rfl rfl (run_assign rfl) (by rw [z277]; decide) ?_
       intro a294 z295 d296 s297 fr298
       have s299 := s297.trans s293
       have z300 := z295.trans z277
       have d301 := d296.trans d278
       have s302 := (fr298 1 (by decide)).trans s279
       have s303 := (fr298 2 (by decide)).trans s280
       have s304 : (mA4C qs k).S w274 (sl a294 7) := by rw [fr298 7 (by decide)]; exact s282
       have s305 := (fr298 8 (by decide)).trans s283
       have s310 := (fr298 3 (by decide)).trans s288
       refine wpList_nil (in_normal (then_normal ?_))
       refine wp_region_seq 1 (mG [(mV (.int .i64 ((((i : Nat) : Int)) + 1))).b]) (by rw [z300]; kernel_rfl) (mG_mono _) (ops_ok ⟨?_, trivial⟩) ?_
       · exact opk_pure rfl rfl fun a w hb hf hd => ⟨_, run_add rfl (ev ((hf 8 (out_of (by kernel_rfl))).trans s305)) rfl (by omega) (by omega), fun _ _ => rfl⟩
       intro a313 w314 ms315
       have B316 := B276.trans (ms315.b.mono B276.size)
       have z317 := ms315.sz.trans z300
       have d318 := ms315.df.trans d301
       have s319 := (ms315.fr 1 (out_of (by kernel_rfl))).trans s302
       have s320 := (ms315.fr 2 (out_of (by kernel_rfl))).trans s303
       have s321 : (mA4C qs k).S w314 (sl a313 7) := by rw [ms315.fr 7 (out_of (by kernel_rfl))]; exact (mA4C qs k).mono _ _ _ (Ext.of ms315.b) s304
       have s327 := (ms315.fr 3 (out_of (by kernel_rfl))).trans s310
       have s329 := (ms315.fr 4 (out_of (by kernel_rfl))).trans s299
       have x330 := bx.below ms315.b x290
       have x331 := bx.below ms315.b x291
       have x332 := bx.below ms315.b x292
       have s333 : sl a313 26 = .int .i64 ((((i : Nat) : Int)) + 1) := ms315.g 0 _ 26 rfl (by decide) trivial rfl
       refine tl_set rfl rfl (run_move rfl) (by rw [z317]; decide) ?_
       intro a334 z335 d336 s337 fr338
       have s339 := s337.trans s333
       have z340 := z335.trans z317
       have d341 := d336.trans d318
       have s342 := (fr338 1 (by decide)).trans s319
       have s343 := (fr338 2 (by decide)).trans s320
       have s344 : (mA4C qs k).S w314 (sl a334 7) := by rw [fr338 7 (by decide)]; exact s321
       have s349 := (fr338 3 (by decide)).trans s327
       have s351 := (fr338 4 (by decide)).trans s329
       refine wpList_nil (then_normal ?_)
       exact ⟨_, (by omega), i + 1, i, i, rfl, (ext_step hp91 (by omega) (xl_t hb213p) (xg_t hb272p)), z340, d341, B316, s342, s343, (s349).trans (by first | rfl | exact congrArg _ (by omega)), (s351).trans (by first | rfl | exact congrArg _ (by omega)), s344, (s339).trans (by first | rfl | exact congrArg _ (by omega)), x331, x332⟩
     · skip
       have hb272p := of_decide_eq_false hb272
       refine wp_skip (in_normal (then_normal ?_))
       refine wp_region_seq 1 (mG [(mV (.int .i64 ((((i : Nat) : Int)) + 1))).b]) (by rw [z256]; kernel_rfl) (mG_mono _) (ops_ok ⟨?_, trivial⟩) ?_
       · exact opk_pure rfl rfl fun a w hb hf hd => ⟨_, run_add rfl (ev ((hf 8 (out_of (by kernel_rfl))).trans s262)) rfl (by omega) (by omega), fun _ _ => rfl⟩
       intro a353 w354 ms355
       have B356 := B255.trans (ms355.b.mono B255.size)
       have z357 := ms355.sz.trans z256
       have d358 := ms355.df.trans d257
       have s359 := (ms355.fr 1 (out_of (by kernel_rfl))).trans s258
       have s360 := (ms355.fr 2 (out_of (by kernel_rfl))).trans s259
       have s361 := (ms355.fr 4 (out_of (by kernel_rfl))).trans s260
       have s362 : (mA4C qs k).S w354 (sl a353 7) := by rw [ms355.fr 7 (out_of (by kernel_rfl))]; exact (mA4C qs k).mono _ _ _ (Ext.of ms355.b) s261
       have s368 := (ms355.fr 3 (out_of (by kernel_rfl))).trans s267
       have x370 := bx.below ms355.b x268
       have x371 := bx.below ms355.b x269
       have x372 := bx.below ms355.b x270
       have s373 : sl a353 26 = .int .i64 ((((i : Nat) : Int)) + 1) := ms355.g 0 _ 26 rfl (by decide) trivial rfl
       refine tl_set rfl rfl (run_move rfl) (by rw [z357]; decide) ?_
       intro a374 z375 d376 s377 fr378
       have s379 := s377.trans s373
       have z380 := z375.trans z357
       have d381 := d376.trans d358
       have s382 := (fr378 1 (by decide)).trans s359
       have s383 := (fr378 2 (by decide)).trans s360
       have s384 := (fr378 4 (by decide)).trans s361
       have s385 : (mA4C qs k).S w354 (sl a374 7) := by rw [fr378 7 (by decide)]; exact s362
       have s390 := (fr378 3 (by decide)).trans s368
       refine wpList_nil (then_normal ?_)
       exact ⟨_, (by omega), i + 1, i, g, rfl, (ext_step hp91 (by omega) (xl_t hb213p) (xg_f hb272p)), z380, d381, B356, s382, s383, (s390).trans (by first | rfl | exact congrArg _ (by omega)), (s384).trans (by first | rfl | exact congrArg _ (by omega)), s385, (s379).trans (by first | rfl | exact congrArg _ (by omega)), x371, x372⟩
   · skip
     have hb213p := of_decide_eq_false hb213
     refine wp_skip (then_normal ?_)
     refine wp_seq ?_
     refine wp_region_mono 6 [] (mG [(mC (qs i) k).b, (mV (.int .i64 ((g : Nat) : Int))).b, (mV (.pointer (some ⟨g10, 3 * g, none⟩))).b, (mC (qs g) k).b, (mV (.int .i64 (cmpQ (qs i) (qs g)))).b, (mV (.bool (decide (0 ≤ (cmpQ (qs i) (qs g)))))).b]) (by kernel_rfl) (by rw [z198]; kernel_rfl) (fun h => absurd rfl h) (mG_mono _) (ops_ok ⟨?_, ?_, ?_, ?_, ?_, ?_, trivial⟩) ?_
     · refine opk_pure rfl rfl fun a w hb hf hd => ?_
       obtain ⟨cs, h1, h2, h3, h4, h5⟩ := bx.below hb x209
       exact ⟨_, run_load_row _ _ rfl (ev ((hf 6 (out_of (by kernel_rfl))).trans s207)) h1 Tryz.underlying26 rfl (by rw [h2]; exact info_Rat), fun _ _ => h5⟩
     · exact opk_pure rfl rfl fun a w hb hf hd => ⟨_, run_move rfl, fun _ _ => ((hf 4 (out_of (by kernel_rfl))).trans s203)⟩
     · exact opk_pure rfl rfl fun a w hb hf hd => ⟨_, addr_a4 rfl (ev ((hf 1 (out_of (by kernel_rfl))).trans s200)) (ev (hd.at 0 rfl rfl rfl rfl)) (by omega), fun _ _ => rfl⟩
     · refine opk_pure rfl rfl fun a w hb hf hd => ?_
       obtain ⟨x0, x1, x2, h1, h2⟩ := bx.a4c (bx.below hb x210) g (by omega)
       exact ⟨_, run_load_mid _ _ rfl (ev (hd.at 0 rfl rfl rfl rfl)) h1 Tryz.underlying26 rfl info_Rat, fun _ _ => h2⟩
     · refine opk_call rfl rfl fun a w hb hf hd => ?_
       have e0 : a.eval (.tmp 19) = sl a 19 := rfl
       have e1 : a.eval (.tmp 22) = sl a 22 := rfl
       exact ⟨21, #[sl a 19, sl a 22], run_call rfl rfl (fun _ _ => by kernel_rfl) (args_2 e0 e1), (c_cmp (by omega) (by omega) (isC.r (hd.at 0 rfl rfl rfl rfl)) (isC.r (hd.at 1 rfl rfl rfl rfl)) (hT.below (B197.trans (hb.mono B197.size)))).mono fun _ _ r => RetS.imp (fun _ _ h => fun _ _ => h) r⟩
     · exact opk_pure rfl rfl fun a w hb hf hd => ⟨_, run_geq rfl (ev (hd.at 0 rfl rfl rfl rfl)) rfl, fun _ _ => rfl⟩
     intro a393 w394 ms395
     have B396 := B197.trans (ms395.b.mono B197.size)
     have z397 := ms395.sz.trans z198
     have d398 := ms395.df.trans d199
     have s399 := (ms395.fr 1 (out_of (by kernel_rfl))).trans s200
     have s400 := (ms395.fr 2 (out_of (by kernel_rfl))).trans s201
     have s401 := (ms395.fr 3 (out_of (by kernel_rfl))).trans s202
     have s402 := (ms395.fr 4 (out_of (by kernel_rfl))).trans s203
     have s403 : (mA4C qs k).S w394 (sl a393 7) := by rw [ms395.fr 7 (out_of (by kernel_rfl))]; exact (mA4C qs k).mono _ _ _ (Ext.of ms395.b) s204
     have s404 := (ms395.fr 8 (out_of (by kernel_rfl))).trans s205
     have s407 := (ms395.fr 5 (out_of (by kernel_rfl))).trans s208
     have x409 := bx.below ms395.b x209
     have x410 := bx.below ms395.b x210
     have x411 := bx.below ms395.b x211
     have s412 : sl a393 24 = .bool (decide (0 ≤ (cmpQ (qs i) (qs g)))) := ms395.g 5 _ 24 rfl (by decide) trivial rfl
     refine wpList_nil (then_normal ?_)
     refine cond_b (decide (0 ≤ (cmpQ (qs i) (qs g)))) (ev s412) (fun hb413 => ?_) (fun hb413 => ?_)
     · skip
       have hb413p := of_decide_eq_true hb413
       refine wp_region_seq 1 (mG [(mV (.int .i64 ((i : Nat) : Int))).b]) (by rw [z397]; kernel_rfl) (mG_mono _) (ops_ok ⟨?_, trivial⟩) ?_
       · exact opk_pure rfl rfl fun a w hb hf hd => ⟨_, run_move rfl, fun _ _ => ((hf 5 (out_of (by kernel_rfl))).trans s407)⟩
       intro a414 w415 ms416
       have B417 := B396.trans (ms416.b.mono B396.size)
       have z418 := ms416.sz.trans z397
       have d419 := ms416.df.trans d398
       have s420 := (ms416.fr 1 (out_of (by kernel_rfl))).trans s399
       have s421 := (ms416.fr 2 (out_of (by kernel_rfl))).trans s400
       have s422 := (ms416.fr 3 (out_of (by kernel_rfl))).trans s401
       have s424 : (mA4C qs k).S w415 (sl a414 7) := by rw [ms416.fr 7 (out_of (by kernel_rfl))]; exact (mA4C qs k).mono _ _ _ (Ext.of ms416.b) s403
       have s425 := (ms416.fr 8 (out_of (by kernel_rfl))).trans s404
       have x431 := bx.below ms416.b x409
       have x432 := bx.below ms416.b x410
       have x433 := bx.below ms416.b x411
       have s434 : sl a414 25 = .int .i64 ((i : Nat) : Int) := ms416.g 0 _ 25 rfl (by decide) trivial rfl
       refine tl_set rfl rfl (run_assign rfl) (by rw [z418]; decide) ?_
       intro a435 z436 d437 s438 fr439
       have s440 := s438.trans s434
       have z441 := z436.trans z418
       have d442 := d437.trans d419
       have s443 := (fr439 1 (by decide)).trans s420
       have s444 := (fr439 2 (by decide)).trans s421
       have s445 := (fr439 3 (by decide)).trans s422
       have s446 : (mA4C qs k).S w415 (sl a435 7) := by rw [fr439 7 (by decide)]; exact s424
       have s447 := (fr439 8 (by decide)).trans s425
       refine wpList_nil (in_normal (then_normal ?_))
       refine wp_region_seq 1 (mG [(mV (.int .i64 ((((i : Nat) : Int)) + 1))).b]) (by rw [z441]; kernel_rfl) (mG_mono _) (ops_ok ⟨?_, trivial⟩) ?_
       · exact opk_pure rfl rfl fun a w hb hf hd => ⟨_, run_add rfl (ev ((hf 8 (out_of (by kernel_rfl))).trans s447)) rfl (by omega) (by omega), fun _ _ => rfl⟩
       intro a454 w455 ms456
       have B457 := B417.trans (ms456.b.mono B417.size)
       have z458 := ms456.sz.trans z441
       have d459 := ms456.df.trans d442
       have s460 := (ms456.fr 1 (out_of (by kernel_rfl))).trans s443
       have s461 := (ms456.fr 2 (out_of (by kernel_rfl))).trans s444
       have s462 := (ms456.fr 3 (out_of (by kernel_rfl))).trans s445
       have s463 : (mA4C qs k).S w455 (sl a454 7) := by rw [ms456.fr 7 (out_of (by kernel_rfl))]; exact (mA4C qs k).mono _ _ _ (Ext.of ms456.b) s446
       have s470 := (ms456.fr 4 (out_of (by kernel_rfl))).trans s440
       have x471 := bx.below ms456.b x431
       have x472 := bx.below ms456.b x432
       have x473 := bx.below ms456.b x433
       have s474 : sl a454 26 = .int .i64 ((((i : Nat) : Int)) + 1) := ms456.g 0 _ 26 rfl (by decide) trivial rfl
       refine tl_set rfl rfl (run_move rfl) (by rw [z458]; decide) ?_
       intro a475 z476 d477 s478 fr479
       have s480 := s478.trans s474
       have z481 := z476.trans z458
       have d482 := d477.trans d459
       have s483 := (fr479 1 (by decide)).trans s460
       have s484 := (fr479 2 (by decide)).trans s461
       have s485 := (fr479 3 (by decide)).trans s462
       have s486 : (mA4C qs k).S w455 (sl a475 7) := by rw [fr479 7 (by decide)]; exact s463
       have s492 := (fr479 4 (by decide)).trans s470
       refine wpList_nil (then_normal ?_)
       exact ⟨_, (by omega), i + 1, l, i, rfl, (ext_step hp91 (by omega) (xl_f hb213p) (xg_t hb413p)), z481, d482, B457, s483, s484, (s485).trans (by first | rfl | exact congrArg _ (by omega)), (s492).trans (by first | rfl | exact congrArg _ (by omega)), s486, (s480).trans (by first | rfl | exact congrArg _ (by omega)), x472, x473⟩
     · skip
       have hb413p := of_decide_eq_false hb413
       refine wp_skip (in_normal (then_normal ?_))
       refine wp_region_seq 1 (mG [(mV (.int .i64 ((((i : Nat) : Int)) + 1))).b]) (by rw [z397]; kernel_rfl) (mG_mono _) (ops_ok ⟨?_, trivial⟩) ?_
       · exact opk_pure rfl rfl fun a w hb hf hd => ⟨_, run_add rfl (ev ((hf 8 (out_of (by kernel_rfl))).trans s404)) rfl (by omega) (by omega), fun _ _ => rfl⟩
       intro a494 w495 ms496
       have B497 := B396.trans (ms496.b.mono B396.size)
       have z498 := ms496.sz.trans z397
       have d499 := ms496.df.trans d398
       have s500 := (ms496.fr 1 (out_of (by kernel_rfl))).trans s399
       have s501 := (ms496.fr 2 (out_of (by kernel_rfl))).trans s400
       have s502 := (ms496.fr 3 (out_of (by kernel_rfl))).trans s401
       have s503 := (ms496.fr 4 (out_of (by kernel_rfl))).trans s402
       have s504 : (mA4C qs k).S w495 (sl a494 7) := by rw [ms496.fr 7 (out_of (by kernel_rfl))]; exact (mA4C qs k).mono _ _ _ (Ext.of ms496.b) s403
       have x511 := bx.below ms496.b x409
       have x512 := bx.below ms496.b x410
       have x513 := bx.below ms496.b x411
       have s514 : sl a494 26 = .int .i64 ((((i : Nat) : Int)) + 1) := ms496.g 0 _ 26 rfl (by decide) trivial rfl
       refine tl_set rfl rfl (run_move rfl) (by rw [z498]; decide) ?_
       intro a515 z516 d517 s518 fr519
       have s520 := s518.trans s514
       have z521 := z516.trans z498
       have d522 := d517.trans d499
       have s523 := (fr519 1 (by decide)).trans s500
       have s524 := (fr519 2 (by decide)).trans s501
       have s525 := (fr519 3 (by decide)).trans s502
       have s526 := (fr519 4 (by decide)).trans s503
       have s527 : (mA4C qs k).S w495 (sl a515 7) := by rw [fr519 7 (by decide)]; exact s504
       refine wpList_nil (then_normal ?_)
       exact ⟨_, (by omega), i + 1, l, g, rfl, (ext_step hp91 (by omega) (xl_f hb213p) (xg_f hb413p)), z521, d522, B497, s523, s524, (s525).trans (by first | rfl | exact congrArg _ (by omega)), (s526).trans (by first | rfl | exact congrArg _ (by omega)), s527, (s520).trans (by first | rfl | exact congrArg _ (by omega)), x512, x513⟩
 · skip
   have hb118p := of_decide_eq_false hb118
   refine wp_exit ?_
   repeat (first | refine exit_in ?_ | refine exit_then ?_ | refine exit_out (by decide) ?_)
   refine (then_normal ?_)
   refine wp_seq ?_
   refine wp_region_mono 7 [] (mG [(mV (.int .i64 ((l : Nat) : Int))).b, (mV (.pointer (some ⟨g10, 3 * l, none⟩))).b, (mC (qs l) k).b, (mV (.int .i64 ((g : Nat) : Int))).b, (mV (.pointer (some ⟨g10, 3 * g, none⟩))).b, (mC (qs g) k).b, (mP (mC (qs l) k) (mC (qs g) k)).b]) (by kernel_rfl) (by rw [z107]; kernel_rfl) (fun h => absurd rfl h) (mG_mono _) (ops_ok ⟨?_, ?_, ?_, ?_, ?_, ?_, ?_, trivial⟩) ?_
   · exact opk_pure rfl rfl fun a w hb hf hd => ⟨_, run_move rfl, fun _ _ => ((hf 3 (out_of (by kernel_rfl))).trans s111)⟩
   · exact opk_pure rfl rfl fun a w hb hf hd => ⟨_, addr_a4 rfl (ev ((hf 1 (out_of (by kernel_rfl))).trans s109)) (ev (hd.at 0 rfl rfl rfl rfl)) (by omega), fun _ _ => rfl⟩
   · refine opk_pure rfl rfl fun a w hb hf hd => ?_
     obtain ⟨x0, x1, x2, h1, h2⟩ := bx.a4c (bx.below hb x115) l (by omega)
     exact ⟨_, run_load_mid _ _ rfl (ev (hd.at 0 rfl rfl rfl rfl)) h1 Tryz.underlying26 rfl info_Rat, fun _ _ => h2⟩
   · exact opk_pure rfl rfl fun a w hb hf hd => ⟨_, run_move rfl, fun _ _ => ((hf 4 (out_of (by kernel_rfl))).trans s112)⟩
   · exact opk_pure rfl rfl fun a w hb hf hd => ⟨_, addr_a4 rfl (ev ((hf 1 (out_of (by kernel_rfl))).trans s109)) (ev (hd.at 0 rfl rfl rfl rfl)) (by omega), fun _ _ => rfl⟩
   · refine opk_pure rfl rfl fun a w hb hf hd => ?_
     obtain ⟨x0, x1, x2, h1, h2⟩ := bx.a4c (bx.below hb x115) g (by omega)
     exact ⟨_, run_load_mid _ _ rfl (ev (hd.at 0 rfl rfl rfl rfl)) h1 Tryz.underlying26 rfl info_Rat, fun _ _ => h2⟩
   · refine opk_pure rfl rfl fun a w hb hf hd => ?_
     have kk1 : (mC (qs l) k).S w (sl a 29) := (hd.at 0 rfl rfl rfl rfl)
     have kk2 : (mC (qs g) k).S w (sl a 32) := (hd.at 1 rfl rfl rfl rfl)
     obtain ⟨x0, x1, x2, qq1⟩ := cv3 (isC.cv kk1)
     obtain ⟨y0, y1, y2, qq2⟩ := cv3 (isC.cv kk2)
     rw [qq1] at kk1; rw [qq2] at kk2
     exact ⟨_, run_build_op _ _ rfl (built_pair qq1 qq2), fun _ _ => ⟨x0, x1, x2, y0, y1, y2, rfl, kk1, kk2⟩⟩
   intro a534 w535 ms536
   have B537 := B106.trans (ms536.b.mono B106.size)
   have d539 := ms536.df.trans d108
   have s541 := (ms536.fr 2 (out_of (by kernel_rfl))).trans s110
   have s544 : (mA4C qs k).S w535 (sl a534 7) := by rw [ms536.fr 7 (out_of (by kernel_rfl))]; exact (mA4C qs k).mono _ _ _ (Ext.of ms536.b) s113
   have x547 := bx.below ms536.b x115
   have x548 := bx.below ms536.b x116
   have s549 : (mP (mC (qs l) k) (mC (qs g) k)).S w535 (sl a534 33) := ms536.g 6 _ 33 rfl (by decide) trivial rfl
   refine tl_put rfl rfl rfl (m' := (mP (mC (qs l) k) (mC (qs g) k))) x548 (ev s541) s549 (mP.cv (fun _ h => (isC.cv h)) (fun _ h => (isC.cv h)) s549) info_Interval ?_
   intro w550 x551 ex552 ot553 bl554
   have B555 := bl554 w (by omega) B537
   have x556 := ot553 (by omega) x547
   have s557 := (mA4C qs k).mono _ _ _ ex552 s544
   have s558 := (mP (mC (qs l) k) (mC (qs g) k)).mono _ _ _ ex552 s549
   refine wpList_nil (then_normal ?_)
   refine wp_ret ?_
   exact end_cell rfl d539 s541 x551 Tryz.underlying44 rfl info_Interval B555 (fun v h => (by have e := ext_end hp91 (by omega); rw [← e.1, ← e.2]; exact h))
end Go.Proofs.YtbjijmjhlpkomaaGreatDoor

namespace Go.Proofs.YtbjijmjhlpkomaaGreatDoor
open Go.RowKit Num

theorem iv_mul {p0 q0 : Rat} {k0 : Nat} {p1 q1 : Rat} {k1 : Nat} {v0 : Value} {v1 : Value} {w : World} (hk0 : k0 ≤ 29999) (hk1 : k1 ≤ 29999) (pf0 : (mP (mR p0 k0) (mR q0 k0)).S w v0) (pf1 : (mP (mR p1 k1) (mR q1 k1)).S w v1) (hT : Tb w) :
   Calls Tryz.prog 53 #[v0, v1] w (RetS (mP (mC (mn4 (p0 * p1) (p0 * q1) (q0 * p1) (q0 * q1)) (k0 + k1 + 3)) (mC (mx4 (p0 * p1) (p0 * q1) (q0 * p1) (q0 * q1)) (k0 + k1 + 3))).S w) := by
 obtain ⟨c0, rfl, n0, u0, o0⟩ := (mP.cv (fun _ h => (isR.cv h)) (fun _ h => (isR.cv h)) pf0)
 obtain ⟨c1, rfl, n1, u1, o1⟩ := (mP.cv (fun _ h => (isR.cv h)) (fun _ h => (isR.cv h)) pf1)
 refine calls_abs 27 Tryz.func53 rfl rfl (by simp) ?_
 intro a0 z0 d0 ha
 have s0_0 : sl a0 0 = .agg c0 := ha 0 (by simp)
 have s0_1 : sl a0 1 = .agg c1 := ha 1 (by simp)
 have B0 : Below w.heap.size w w := Below.refl _ _
 refine wp_seq ?_
 refine wp_region_seq 0 (mG []) (by rw [z0]; kernel_rfl) (mG_mono _) (ops_ok trivial) ?_
 intro a1 w2 ms3
 have B4 := B0.trans (ms3.b.mono B0.size)
 have z5 := ms3.sz.trans z0
 have d6 := ms3.df.trans d0
 have s7 := (ms3.fr 0 (out_of (by kernel_rfl))).trans s0_0
 have s8 := (ms3.fr 1 (out_of (by kernel_rfl))).trans s0_1
 refine tl_new rfl rfl (run_box_op rfl (ev s7)) (by rw [z5]; decide) ?_
 intro a9 w10 g11 z12 d13 s14 fr15 hg16 hc17 hb18
 have z19 := z12.trans z5
 have d20 := d13.trans d6
 have s22 := (fr15 1 (by decide)).trans s8
 have B23 := B4.trans (hb18.mono B4.size)
 have lw25 : w.heap.size ≤ g11 := by have := B4.size; omega
 have x24 : bx 44 6 (mP (mR p0 k0) (mR q0 k0)) w10 g11 := ⟨c0, hc17, n0, u0, o0, (mP (mR p0 k0) (mR q0 k0)).mono _ _ _ (Ext.of B23) pf0⟩
 refine tl_new rfl rfl (run_box_op rfl (ev s22)) (by rw [z19]; decide) ?_
 intro a26 w27 g28 z29 d30 s31 fr32 hg33 hc34 hb35
 have z36 := z29.trans z19
 have d37 := d30.trans d20
 have s40 := (fr32 2 (by decide)).trans s14
 have B41 := B23.trans (hb35.mono B23.size)
 have ne43 : g11 ≠ g28 := by have := x24.lt; omega
 have x42 := bx.below hb35 x24
 have lw45 : w.heap.size ≤ g28 := by have := B23.size; omega
 have x44 : bx 44 6 (mP (mR p1 k1) (mR q1 k1)) w27 g28 := ⟨c1, hc34, n1, u1, o1, (mP (mR p1 k1) (mR q1 k1)).mono _ _ _ (Ext.of B41) pf1⟩
 refine tl_new rfl rfl (run_alloc_op rfl zero_Interval) (by rw [z36]; decide) ?_
 intro a46 w47 g48 z49 d50 s51 fr52 hg53 hc54 hb55
 have z56 := z49.trans z36
 have d57 := d50.trans d37
 have s60 := (fr52 2 (by decide)).trans s40
 have s61 := (fr52 3 (by decide)).trans s31
 have B62 := B41.trans (hb55.mono B41.size)
 have ne64 : g11 ≠ g48 := by have := x42.lt; omega
 have x63 := bx.below hb55 x42
 have ne66 : g28 ≠ g48 := by have := x44.lt; omega
 have x65 := bx.below hb55 x44
 have lw68 : w.heap.size ≤ g48 := by have := B41.size; omega
 have x67 := bx_Interval hc54
 refine wpList_nil (then_normal ?_)
 refine wp_seq ?_
 refine wp_region_mono 22 [] (mG [(mV (.pointer (some ⟨g11, 0, none⟩))).b, (mR p0 k0).b, (mV (.pointer (some ⟨g28, 0, none⟩))).b, (mR p1 k1).b, (mC (p0 * p1) (k0 + k1 + 3)).b, (mV (.pointer (some ⟨g11, 0, none⟩))).b, (mR p0 k0).b, (mV (.pointer (some ⟨g28, 3, none⟩))).b, (mR q1 k1).b, (mC (p0 * q1) (k0 + k1 + 3)).b, (mV (.pointer (some ⟨g11, 3, none⟩))).b, (mR q0 k0).b, (mV (.pointer (some ⟨g28, 0, none⟩))).b, (mR p1 k1).b, (mC (q0 * p1) (k0 + k1 + 3)).b, (mV (.pointer (some ⟨g11, 3, none⟩))).b, (mR q0 k0).b, (mV (.pointer (some ⟨g28, 3, none⟩))).b, (mR q1 k1).b, (mC (q0 * q1) (k0 + k1 + 3)).b, (mA4C (qs4 (p0 * p1) (p0 * q1) (q0 * p1) (q0 * q1)) (k0 + k1 + 3)).b, (mP (mC (mn4 ((qs4 (p0 * p1) (p0 * q1) (q0 * p1) (q0 * q1)) 0) ((qs4 (p0 * p1) (p0 * q1) (q0 * p1) (q0 * q1)) 1) ((qs4 (p0 * p1) (p0 * q1) (q0 * p1) (q0 * q1)) 2) ((qs4 (p0 * p1) (p0 * q1) (q0 * p1) (q0 * q1)) 3)) (k0 + k1 + 3)) (mC (mx4 ((qs4 (p0 * p1) (p0 * q1) (q0 * p1) (q0 * q1)) 0) ((qs4 (p0 * p1) (p0 * q1) (q0 * p1) (q0 * q1)) 1) ((qs4 (p0 * p1) (p0 * q1) (q0 * p1) (q0 * q1)) 2) ((qs4 (p0 * p1) (p0 * q1) (q0 * p1) (q0 * q1)) 3)) (k0 + k1 + 3))).b]) (by kernel_rfl) (by rw [z56]; kernel_rfl) (fun h => absurd rfl h) (mG_mono _) (ops_ok ⟨?_, ?_, ?_, ?_, ?_, ?_, ?_, ?_, ?_, ?_, ?_, ?_, ?_, ?_, ?_, ?_, ?_, ?_, ?_, ?_, ?_, ?_, trivial⟩) ?_
 · exact opk_pure rfl rfl fun a w hb hf hd => ⟨_, fa_Interval_0 rfl (ev ((hf 2 (out_of (by kernel_rfl))).trans s60)), fun _ _ => rfl⟩
 · refine opk_pure rfl rfl fun a w hb hf hd => ?_
   obtain ⟨x0, x1, x2, h1, h2⟩ := (bx.below hb x63).lo
   exact ⟨_, run_load_mid _ _ rfl (ev (hd.at 0 rfl rfl rfl rfl)) h1 Tryz.underlying26 rfl info_Rat, fun _ _ => h2⟩
 · exact opk_pure rfl rfl fun a w hb hf hd => ⟨_, fa_Interval_0 rfl (ev ((hf 3 (out_of (by kernel_rfl))).trans s61)), fun _ _ => rfl⟩
 · refine opk_pure rfl rfl fun a w hb hf hd => ?_
   obtain ⟨x0, x1, x2, h1, h2⟩ := (bx.below hb x65).lo
   exact ⟨_, run_load_mid _ _ rfl (ev (hd.at 0 rfl rfl rfl rfl)) h1 Tryz.underlying26 rfl info_Rat, fun _ _ => h2⟩
 · refine opk_call rfl rfl fun a w hb hf hd => ?_
   have e0 : a.eval (.tmp 6) = sl a 6 := rfl
   have e1 : a.eval (.tmp 8) = sl a 8 := rfl
   exact ⟨110, #[sl a 6, sl a 8], run_call rfl rfl (fun _ _ => by kernel_rfl) (args_2 e0 e1), (c_mul (by omega) (by omega) (hd.at 0 rfl rfl rfl rfl) (hd.at 1 rfl rfl rfl rfl) (hT.below (B62.trans (hb.mono B62.size)))).mono fun _ _ r => RetS.imp (fun _ _ h => fun _ _ => (isC.mono h (by omega))) r⟩
 · exact opk_pure rfl rfl fun a w hb hf hd => ⟨_, fa_Interval_0 rfl (ev ((hf 2 (out_of (by kernel_rfl))).trans s60)), fun _ _ => rfl⟩
 · refine opk_pure rfl rfl fun a w hb hf hd => ?_
   obtain ⟨x0, x1, x2, h1, h2⟩ := (bx.below hb x63).lo
   exact ⟨_, run_load_mid _ _ rfl (ev (hd.at 0 rfl rfl rfl rfl)) h1 Tryz.underlying26 rfl info_Rat, fun _ _ => h2⟩
 · exact opk_pure rfl rfl fun a w hb hf hd => ⟨_, fa_Interval_1 rfl (ev ((hf 3 (out_of (by kernel_rfl))).trans s61)), fun _ _ => rfl⟩
 · refine opk_pure rfl rfl fun a w hb hf hd => ?_
   obtain ⟨x0, x1, x2, h1, h2⟩ := (bx.below hb x65).hi
   exact ⟨_, run_load_mid _ _ rfl (ev (hd.at 0 rfl rfl rfl rfl)) h1 Tryz.underlying26 rfl info_Rat, fun _ _ => h2⟩
 · refine opk_call rfl rfl fun a w hb hf hd => ?_
   have e0 : a.eval (.tmp 11) = sl a 11 := rfl
   have e1 : a.eval (.tmp 13) = sl a 13 := rfl
   exact ⟨110, #[sl a 11, sl a 13], run_call rfl rfl (fun _ _ => by kernel_rfl) (args_2 e0 e1), (c_mul (by omega) (by omega) (hd.at 0 rfl rfl rfl rfl) (hd.at 1 rfl rfl rfl rfl) (hT.below (B62.trans (hb.mono B62.size)))).mono fun _ _ r => RetS.imp (fun _ _ h => fun _ _ => (isC.mono h (by omega))) r⟩
 · exact opk_pure rfl rfl fun a w hb hf hd => ⟨_, fa_Interval_1 rfl (ev ((hf 2 (out_of (by kernel_rfl))).trans s60)), fun _ _ => rfl⟩
 · refine opk_pure rfl rfl fun a w hb hf hd => ?_
   obtain ⟨x0, x1, x2, h1, h2⟩ := (bx.below hb x63).hi
   exact ⟨_, run_load_mid _ _ rfl (ev (hd.at 0 rfl rfl rfl rfl)) h1 Tryz.underlying26 rfl info_Rat, fun _ _ => h2⟩
 · exact opk_pure rfl rfl fun a w hb hf hd => ⟨_, fa_Interval_0 rfl (ev ((hf 3 (out_of (by kernel_rfl))).trans s61)), fun _ _ => rfl⟩
 · refine opk_pure rfl rfl fun a w hb hf hd => ?_
   obtain ⟨x0, x1, x2, h1, h2⟩ := (bx.below hb x65).lo
   exact ⟨_, run_load_mid _ _ rfl (ev (hd.at 0 rfl rfl rfl rfl)) h1 Tryz.underlying26 rfl info_Rat, fun _ _ => h2⟩
 · refine opk_call rfl rfl fun a w hb hf hd => ?_
   have e0 : a.eval (.tmp 16) = sl a 16 := rfl
   have e1 : a.eval (.tmp 18) = sl a 18 := rfl
   exact ⟨110, #[sl a 16, sl a 18], run_call rfl rfl (fun _ _ => by kernel_rfl) (args_2 e0 e1), (c_mul (by omega) (by omega) (hd.at 0 rfl rfl rfl rfl) (hd.at 1 rfl rfl rfl rfl) (hT.below (B62.trans (hb.mono B62.size)))).mono fun _ _ r => RetS.imp (fun _ _ h => fun _ _ => (isC.mono h (by omega))) r⟩
 · exact opk_pure rfl rfl fun a w hb hf hd => ⟨_, fa_Interval_1 rfl (ev ((hf 2 (out_of (by kernel_rfl))).trans s60)), fun _ _ => rfl⟩
 · refine opk_pure rfl rfl fun a w hb hf hd => ?_
   obtain ⟨x0, x1, x2, h1, h2⟩ := (bx.below hb x63).hi
   exact ⟨_, run_load_mid _ _ rfl (ev (hd.at 0 rfl rfl rfl rfl)) h1 Tryz.underlying26 rfl info_Rat, fun _ _ => h2⟩
 · exact opk_pure rfl rfl fun a w hb hf hd => ⟨_, fa_Interval_1 rfl (ev ((hf 3 (out_of (by kernel_rfl))).trans s61)), fun _ _ => rfl⟩
 · refine opk_pure rfl rfl fun a w hb hf hd => ?_
   obtain ⟨x0, x1, x2, h1, h2⟩ := (bx.below hb x65).hi
   exact ⟨_, run_load_mid _ _ rfl (ev (hd.at 0 rfl rfl rfl rfl)) h1 Tryz.underlying26 rfl info_Rat, fun _ _ => h2⟩
 · refine opk_call rfl rfl fun a w hb hf hd => ?_
   have e0 : a.eval (.tmp 21) = sl a 21 := rfl
   have e1 : a.eval (.tmp 23) = sl a 23 := rfl
   exact ⟨110, #[sl a 21, sl a 23], run_call rfl rfl (fun _ _ => by kernel_rfl) (args_2 e0 e1), (c_mul (by omega) (by omega) (hd.at 0 rfl rfl rfl rfl) (hd.at 1 rfl rfl rfl rfl) (hT.below (B62.trans (hb.mono B62.size)))).mono fun _ _ r => RetS.imp (fun _ _ h => fun _ _ => (isC.mono h (by omega))) r⟩
 · refine opk_pure rfl rfl fun a w hb hf hd => ?_
   have kk0 : (mC (p0 * p1) (k0 + k1 + 3)).S w (sl a 9) := (hd.at 0 rfl rfl rfl rfl)
   obtain ⟨x00, x01, x02, qq0⟩ := cv3 (isC.cv kk0)
   rw [qq0] at kk0
   have kk1 : (mC (p0 * q1) (k0 + k1 + 3)).S w (sl a 14) := (hd.at 1 rfl rfl rfl rfl)
   obtain ⟨x10, x11, x12, qq1⟩ := cv3 (isC.cv kk1)
   rw [qq1] at kk1
   have kk2 : (mC (q0 * p1) (k0 + k1 + 3)).S w (sl a 19) := (hd.at 2 rfl rfl rfl rfl)
   obtain ⟨x20, x21, x22, qq2⟩ := cv3 (isC.cv kk2)
   rw [qq2] at kk2
   have kk3 : (mC (q0 * q1) (k0 + k1 + 3)).S w (sl a 24) := (hd.at 3 rfl rfl rfl rfl)
   obtain ⟨x30, x31, x32, qq3⟩ := cv3 (isC.cv kk3)
   rw [qq3] at kk3
   exact ⟨_, run_build_op _ _ rfl (built_a4 qq0 qq1 qq2 qq3), fun _ _ => ⟨x00, x01, x02, x10, x11, x12, x20, x21, x22, x30, x31, x32, rfl, kk0, kk1, kk2, kk3⟩⟩
 · refine opk_call rfl rfl fun a w hb hf hd => ?_
   have e0 : a.eval (.tmp 25) = sl a 25 := rfl
   exact ⟨112, #[sl a 25], run_call rfl rfl (fun _ _ => by kernel_rfl) (args_1 e0), (iv_extremesC (qs := (qs4 (p0 * p1) (p0 * q1) (q0 * p1) (q0 * q1))) (k := k0 + k1 + 3) (by omega) (hd.at 0 rfl rfl rfl rfl) (hT.below (B62.trans (hb.mono B62.size)))).mono fun _ _ r => RetS.imp (fun _ _ h => fun _ _ => (mP_imp (fun _ h => (isC.mono h (by omega))) (fun _ h => (isC.mono h (by omega))) h)) r⟩
 intro a69 w70 ms71
 have B72 := B62.trans (ms71.b.mono B62.size)
 have d74 := ms71.df.trans d57
 have s75 := (ms71.fr 4 (out_of (by kernel_rfl))).trans s51
 have x76 := bx.below ms71.b x63
 have x77 := bx.below ms71.b x65
 have x78 := bx.below ms71.b x67
 have s79 : (mP (mC (mn4 ((qs4 (p0 * p1) (p0 * q1) (q0 * p1) (q0 * q1)) 0) ((qs4 (p0 * p1) (p0 * q1) (q0 * p1) (q0 * q1)) 1) ((qs4 (p0 * p1) (p0 * q1) (q0 * p1) (q0 * q1)) 2) ((qs4 (p0 * p1) (p0 * q1) (q0 * p1) (q0 * q1)) 3)) (k0 + k1 + 3)) (mC (mx4 ((qs4 (p0 * p1) (p0 * q1) (q0 * p1) (q0 * q1)) 0) ((qs4 (p0 * p1) (p0 * q1) (q0 * p1) (q0 * q1)) 1) ((qs4 (p0 * p1) (p0 * q1) (q0 * p1) (q0 * q1)) 2) ((qs4 (p0 * p1) (p0 * q1) (q0 * p1) (q0 * q1)) 3)) (k0 + k1 + 3))).S w70 (sl a69 26) := ms71.g 21 _ 26 rfl (by decide) trivial rfl
 refine tl_put rfl rfl rfl (m' := (mP (mC (mn4 ((qs4 (p0 * p1) (p0 * q1) (q0 * p1) (q0 * q1)) 0) ((qs4 (p0 * p1) (p0 * q1) (q0 * p1) (q0 * q1)) 1) ((qs4 (p0 * p1) (p0 * q1) (q0 * p1) (q0 * q1)) 2) ((qs4 (p0 * p1) (p0 * q1) (q0 * p1) (q0 * q1)) 3)) (k0 + k1 + 3)) (mC (mx4 ((qs4 (p0 * p1) (p0 * q1) (q0 * p1) (q0 * q1)) 0) ((qs4 (p0 * p1) (p0 * q1) (q0 * p1) (q0 * q1)) 1) ((qs4 (p0 * p1) (p0 * q1) (q0 * p1) (q0 * q1)) 2) ((qs4 (p0 * p1) (p0 * q1) (q0 * p1) (q0 * q1)) 3)) (k0 + k1 + 3)))) x78 (ev s75) s79 (mP.cv (fun _ h => (isC.cv h)) (fun _ h => (isC.cv h)) s79) info_Interval ?_
 intro w80 x81 ex82 ot83 bl84
 have B85 := bl84 w (by omega) B72
 have x86 := ot83 (by omega) x76
 have x87 := ot83 (by omega) x77
 have s88 := (mP (mC (mn4 ((qs4 (p0 * p1) (p0 * q1) (q0 * p1) (q0 * q1)) 0) ((qs4 (p0 * p1) (p0 * q1) (q0 * p1) (q0 * q1)) 1) ((qs4 (p0 * p1) (p0 * q1) (q0 * p1) (q0 * q1)) 2) ((qs4 (p0 * p1) (p0 * q1) (q0 * p1) (q0 * q1)) 3)) (k0 + k1 + 3)) (mC (mx4 ((qs4 (p0 * p1) (p0 * q1) (q0 * p1) (q0 * q1)) 0) ((qs4 (p0 * p1) (p0 * q1) (q0 * p1) (q0 * q1)) 1) ((qs4 (p0 * p1) (p0 * q1) (q0 * p1) (q0 * q1)) 2) ((qs4 (p0 * p1) (p0 * q1) (q0 * p1) (q0 * q1)) 3)) (k0 + k1 + 3))).mono _ _ _ ex82 s79
 refine wpList_nil (then_normal ?_)
 refine wp_ret ?_
 exact end_cell rfl d74 s75 x81 Tryz.underlying44 rfl info_Interval B85 (fun v h => (mP_imp (fun _ h => (isC.mono h (by omega))) (fun _ h => (isC.mono h (by omega))) h))

theorem iv_div {p0 q0 : Rat} {k0 : Nat} {p1 q1 : Rat} {k1 : Nat} {v0 : Value} {v1 : Value} {w : World} (hk0 : k0 ≤ 9999) (hk1 : k1 ≤ 9999) (pf0 : (mP (mR p0 k0) (mR q0 k0)).S w v0) (pf1 : (mP (mR p1 k1) (mR q1 k1)).S w v1) (hT : Tb w) :
   Calls Tryz.prog 26 #[v0, v1] w (RetS (mT (mP (mE (mn4 (p0 * mnQ (((1 : Int) : Rat) / p1) (((1 : Int) : Rat) / q1)) (p0 * mxQ (((1 : Int) : Rat) / p1) (((1 : Int) : Rat) / q1)) (q0 * mnQ (((1 : Int) : Rat) / p1) (((1 : Int) : Rat) / q1)) (q0 * mxQ (((1 : Int) : Rat) / p1) (((1 : Int) : Rat) / q1))) (sgE p1 q1) (k0 + k1 + 8)) (mE (mx4 (p0 * mnQ (((1 : Int) : Rat) / p1) (((1 : Int) : Rat) / q1)) (p0 * mxQ (((1 : Int) : Rat) / p1) (((1 : Int) : Rat) / q1)) (q0 * mnQ (((1 : Int) : Rat) / p1) (((1 : Int) : Rat) / q1)) (q0 * mxQ (((1 : Int) : Rat) / p1) (((1 : Int) : Rat) / q1))) (sgE p1 q1) (k0 + k1 + 8))) (mV (.int .i64 (sgE p1 q1)))).S w) := by
 obtain ⟨c0, rfl, n0, u0, o0⟩ := (mP.cv (fun _ h => (isR.cv h)) (fun _ h => (isR.cv h)) pf0)
 obtain ⟨c1, rfl, n1, u1, o1⟩ := (mP.cv (fun _ h => (isR.cv h)) (fun _ h => (isR.cv h)) pf1)
 refine calls_abs 19 Tryz.func26 rfl rfl (by simp) ?_
 intro a0 z0 d0 ha
 have s0_0 : sl a0 0 = .agg c0 := ha 0 (by simp)
 have s0_1 : sl a0 1 = .agg c1 := ha 1 (by simp)
 have B0 : Below w.heap.size w w := Below.refl _ _
 refine wp_seq ?_
 refine wp_region_seq 0 (mG []) (by rw [z0]; kernel_rfl) (mG_mono _) (ops_ok trivial) ?_
 intro a1 w2 ms3
 have B4 := B0.trans (ms3.b.mono B0.size)
 have z5 := ms3.sz.trans z0
 have d6 := ms3.df.trans d0
 have s7 := (ms3.fr 0 (out_of (by kernel_rfl))).trans s0_0
 have s8 := (ms3.fr 1 (out_of (by kernel_rfl))).trans s0_1
 refine tl_new rfl rfl (run_box_op rfl (ev s7)) (by rw [z5]; decide) ?_
 intro a9 w10 g11 z12 d13 s14 fr15 hg16 hc17 hb18
 have z19 := z12.trans z5
 have d20 := d13.trans d6
 have s22 := (fr15 1 (by decide)).trans s8
 have B23 := B4.trans (hb18.mono B4.size)
 have lw25 : w.heap.size ≤ g11 := by have := B4.size; omega
 have x24 : bx 44 6 (mP (mR p0 k0) (mR q0 k0)) w10 g11 := ⟨c0, hc17, n0, u0, o0, (mP (mR p0 k0) (mR q0 k0)).mono _ _ _ (Ext.of B23) pf0⟩
 refine tl_new rfl rfl (run_box_op rfl (ev s22)) (by rw [z19]; decide) ?_
 intro a26 w27 g28 z29 d30 s31 fr32 hg33 hc34 hb35
 have z36 := z29.trans z19
 have d37 := d30.trans d20
 have s40 := (fr32 2 (by decide)).trans s14
 have B41 := B23.trans (hb35.mono B23.size)
 have ne43 : g11 ≠ g28 := by have := x24.lt; omega
 have x42 := bx.below hb35 x24
 have lw45 : w.heap.size ≤ g28 := by have := B23.size; omega
 have x44 : bx 44 6 (mP (mR p1 k1) (mR q1 k1)) w27 g28 := ⟨c1, hc34, n1, u1, o1, (mP (mR p1 k1) (mR q1 k1)).mono _ _ _ (Ext.of B41) pf1⟩
 refine tl_new rfl rfl (run_alloc_op rfl zero_Interval) (by rw [z36]; decide) ?_
 intro a46 w47 g48 z49 d50 s51 fr52 hg53 hc54 hb55
 have z56 := z49.trans z36
 have d57 := d50.trans d37
 have s60 := (fr52 2 (by decide)).trans s40
 have s61 := (fr52 3 (by decide)).trans s31
 have B62 := B41.trans (hb55.mono B41.size)
 have ne64 : g11 ≠ g48 := by have := x42.lt; omega
 have x63 := bx.below hb55 x42
 have ne66 : g28 ≠ g48 := by have := x44.lt; omega
 have x65 := bx.below hb55 x44
 have lw68 : w.heap.size ≤ g48 := by have := B41.size; omega
 have x67 := bx_Interval hc54
 refine tl_set rfl rfl (run_assign rfl) (by rw [z56]; decide) ?_
 intro a69 z70 d71 s72 fr73
 have z75 := z70.trans z56
 have d76 := d71.trans d57
 have s79 := (fr73 2 (by decide)).trans s60
 have s80 := (fr73 3 (by decide)).trans s61
 have s81 := (fr73 4 (by decide)).trans s51
 refine wpList_nil (then_normal ?_)
 refine wp_seq ?_
 refine wp_seq ?_
 refine wp_region_seq 3 (mG [(mP (mR p1 k1) (mR q1 k1)).b, (mV (.int .i64 (sgI p1 q1))).b, (mV (.bool (decide ((sgI p1 q1) = 0)))).b]) (by rw [z75]; kernel_rfl) (mG_mono _) (ops_ok ⟨?_, ?_, ?_, trivial⟩) ?_
 · refine opk_pure rfl rfl fun a w hb hf hd => ?_
   obtain ⟨cs, h1, h2, h3, h4, h5⟩ := bx.below hb x65
   exact ⟨_, run_load_row _ _ rfl (ev ((hf 3 (out_of (by kernel_rfl))).trans s80)) h1 Tryz.underlying44 rfl (by rw [h2]; exact info_Interval), fun _ _ => h5⟩
 · refine opk_call rfl rfl fun a w hb hf hd => ?_
   have e0 : a.eval (.tmp 6) = sl a 6 := rfl
   exact ⟨37, #[sl a 6], run_call rfl rfl (fun _ _ => by kernel_rfl) (args_1 e0), (iv_sign  (by omega) (mP_imp (m1' := (mR p1 k1)) (m2' := (mR q1 k1)) (fun _ h => h) (fun _ h => h) (hd.at 0 rfl rfl rfl rfl))).mono fun _ _ r => RetS.imp (fun _ _ h => fun _ _ => h) r⟩
 · exact opk_pure rfl rfl fun a w hb hf hd => ⟨_, run_eql rfl (ev (hd.at 0 rfl rfl rfl rfl)) rfl, fun _ _ => rfl⟩
 intro a82 w83 ms84
 have B85 := B62.trans (ms84.b.mono B62.size)
 have z86 := ms84.sz.trans z75
 have d87 := ms84.df.trans d76
 have s88 := (ms84.fr 2 (out_of (by kernel_rfl))).trans s79
 have s89 := (ms84.fr 3 (out_of (by kernel_rfl))).trans s80
 have s90 := (ms84.fr 4 (out_of (by kernel_rfl))).trans s81
 have x92 := bx.below ms84.b x63
 have x93 := bx.below ms84.b x65
 have x94 := bx.below ms84.b x67
 have s95 : sl a82 8 = .bool (decide ((sgI p1 q1) = 0)) := ms84.g 2 _ 8 rfl (by decide) trivial rfl
 refine wpList_nil (then_normal ?_)
 refine cond_b (decide ((sgI p1 q1) = 0)) (ev s95) (fun hb96 => ?_) (fun hb96 => ?_)
 · skip
   have hb96p := of_decide_eq_true hb96
   refine wp_seq ?_
   refine wp_region_seq 1 (mG [(mP mZ mZ).b]) (by rw [z86]; kernel_rfl) (mG_mono _) (ops_ok ⟨?_, trivial⟩) ?_
   · exact opk_pure rfl rfl fun a w hb hf hd => ⟨_, run_build_op _ _ rfl built_zero6, fun _ _ => zero6 w⟩
   intro a97 w98 ms99
   have B100 := B85.trans (ms99.b.mono B85.size)
   have z101 := ms99.sz.trans z86
   have d102 := ms99.df.trans d87
   have s105 := (ms99.fr 4 (out_of (by kernel_rfl))).trans s90
   have x108 := bx.below ms99.b x92
   have x109 := bx.below ms99.b x93
   have x110 := bx.below ms99.b x94
   have s111 : (mP mZ mZ).S w98 (sl a97 9) := ms99.g 0 _ 9 rfl (by decide) trivial rfl
   refine tl_put rfl rfl rfl (m' := (mP mZ mZ)) x110 (ev s105) s111 (mP.cv (fun _ h => (isZ.cv h)) (fun _ h => (isZ.cv h)) s111) info_Interval ?_
   intro w112 x113 ex114 ot115 bl116
   have B117 := bl116 w (by omega) B100
   have x118 := ot115 (by omega) x108
   have x119 := ot115 (by omega) x109
   have s120 := (mP mZ mZ).mono _ _ _ ex114 s111
   refine tl_set rfl rfl (run_assign rfl) (by rw [z101]; decide) ?_
   intro a121 z122 d123 s124 fr125
   have s126 : sl a121 5 = .int .i64 3 := s124.trans rfl
   have d128 := d123.trans d102
   have s131 := (fr125 4 (by decide)).trans s105
   refine wpList_nil (then_normal ?_)
   refine wp_ret ?_
   exact end_cell_tmp rfl d128 s131 x113 Tryz.underlying44 rfl info_Interval B117 (fun v h => ⟨v, _, rfl, (mP_imp (fun _ h => isZ.e (by rw [sgE_t hb96]; decide) h) (fun _ h => isZ.e (by rw [sgE_t hb96]; decide) h) h), (s126).trans (by first | rw [sgE_t (by assumption)] | rw [sgE_f (by assumption)])⟩)
 · skip
   have hb96p := of_decide_eq_false hb96
   refine wp_skip (then_normal ?_)
   refine wp_seq ?_
   refine wp_region_mono 9 [] (mG [(mP (mR p0 k0) (mR q0 k0)).b, (mV (.pointer (some ⟨g28, 0, none⟩))).b, (mR p1 k1).b, (mR (((1 : Int) : Rat) / p1) (k1 + 5)).b, (mV (.pointer (some ⟨g28, 3, none⟩))).b, (mR q1 k1).b, (mR (((1 : Int) : Rat) / q1) (k1 + 5)).b, (mP (mR (((1 : Int) : Rat) / p1) (k1 + 5)) (mR (((1 : Int) : Rat) / q1) (k1 + 5))).b, (mP (mC (mn4 (p0 * (((1 : Int) : Rat) / p1)) (p0 * (((1 : Int) : Rat) / q1)) (q0 * (((1 : Int) : Rat) / p1)) (q0 * (((1 : Int) : Rat) / q1))) (k0 + k1 + 5 + 3)) (mC (mx4 (p0 * (((1 : Int) : Rat) / p1)) (p0 * (((1 : Int) : Rat) / q1)) (q0 * (((1 : Int) : Rat) / p1)) (q0 * (((1 : Int) : Rat) / q1))) (k0 + k1 + 5 + 3))).b]) (by kernel_rfl) (by rw [z86]; kernel_rfl) (fun h => absurd rfl h) (mG_mono _) (ops_ok ⟨?_, ?_, ?_, ?_, ?_, ?_, ?_, ?_, ?_, trivial⟩) ?_
   · refine opk_pure rfl rfl fun a w hb hf hd => ?_
     obtain ⟨cs, h1, h2, h3, h4, h5⟩ := bx.below hb x92
     exact ⟨_, run_load_row _ _ rfl (ev ((hf 2 (out_of (by kernel_rfl))).trans s88)) h1 Tryz.underlying44 rfl (by rw [h2]; exact info_Interval), fun _ _ => h5⟩
   · exact opk_pure rfl rfl fun a w hb hf hd => ⟨_, fa_Interval_0 rfl (ev ((hf 3 (out_of (by kernel_rfl))).trans s89)), fun _ _ => rfl⟩
   · refine opk_pure rfl rfl fun a w hb hf hd => ?_
     obtain ⟨x0, x1, x2, h1, h2⟩ := (bx.below hb x93).lo
     exact ⟨_, run_load_mid _ _ rfl (ev (hd.at 0 rfl rfl rfl rfl)) h1 Tryz.underlying26 rfl info_Rat, fun _ _ => h2⟩
   · refine opk_call rfl rfl fun a w hb hf hd => ?_
     have e0 : a.eval (.tmp 12) = sl a 12 := rfl
     exact ⟨97, #[sl a 12], run_call rfl rfl (fun _ _ => by kernel_rfl) (args_1 e0), (iv_inverse  (by omega) (hd.at 0 rfl rfl rfl rfl) (hT.below (B85.trans (hb.mono B85.size)))).mono fun _ _ r => RetS.imp (fun _ _ h => fun _ _ => (isR.mono h (by omega))) r⟩
   · exact opk_pure rfl rfl fun a w hb hf hd => ⟨_, fa_Interval_1 rfl (ev ((hf 3 (out_of (by kernel_rfl))).trans s89)), fun _ _ => rfl⟩
   · refine opk_pure rfl rfl fun a w hb hf hd => ?_
     obtain ⟨x0, x1, x2, h1, h2⟩ := (bx.below hb x93).hi
     exact ⟨_, run_load_mid _ _ rfl (ev (hd.at 0 rfl rfl rfl rfl)) h1 Tryz.underlying26 rfl info_Rat, fun _ _ => h2⟩
   · refine opk_call rfl rfl fun a w hb hf hd => ?_
     have e0 : a.eval (.tmp 15) = sl a 15 := rfl
     exact ⟨97, #[sl a 15], run_call rfl rfl (fun _ _ => by kernel_rfl) (args_1 e0), (iv_inverse  (by omega) (hd.at 0 rfl rfl rfl rfl) (hT.below (B85.trans (hb.mono B85.size)))).mono fun _ _ r => RetS.imp (fun _ _ h => fun _ _ => (isR.mono h (by omega))) r⟩
   · refine opk_pure rfl rfl fun a w hb hf hd => ?_
     have kk1 : (mR (((1 : Int) : Rat) / p1) (k1 + 5)).S w (sl a 13) := (hd.at 0 rfl rfl rfl rfl)
     have kk2 : (mR (((1 : Int) : Rat) / q1) (k1 + 5)).S w (sl a 16) := (hd.at 1 rfl rfl rfl rfl)
     obtain ⟨x0, x1, x2, qq1⟩ := cv3 (isR.cv kk1)
     obtain ⟨y0, y1, y2, qq2⟩ := cv3 (isR.cv kk2)
     rw [qq1] at kk1; rw [qq2] at kk2
     exact ⟨_, run_build_op _ _ rfl (built_pair qq1 qq2), fun _ _ => ⟨x0, x1, x2, y0, y1, y2, rfl, kk1, kk2⟩⟩
   · refine opk_call rfl rfl fun a w hb hf hd => ?_
     have e0 : a.eval (.tmp 10) = sl a 10 := rfl
     have e1 : a.eval (.tmp 17) = sl a 17 := rfl
     exact ⟨53, #[sl a 10, sl a 17], run_call rfl rfl (fun _ _ => by kernel_rfl) (args_2 e0 e1), (iv_mul  (by omega) (by omega) (mP_imp (m1' := (mR p0 k0)) (m2' := (mR q0 k0)) (fun _ h => h) (fun _ h => h) (hd.at 0 rfl rfl rfl rfl)) (mP_imp (m1' := (mR (((1 : Int) : Rat) / p1) (k1 + 5))) (m2' := (mR (((1 : Int) : Rat) / q1) (k1 + 5))) (fun _ h => h) (fun _ h => h) (hd.at 1 rfl rfl rfl rfl)) (hT.below (B85.trans (hb.mono B85.size)))).mono fun _ _ r => RetS.imp (fun _ _ h => fun _ _ => (mP_imp (fun _ h => (isC.mono h (by omega))) (fun _ h => (isC.mono h (by omega))) h)) r⟩
   intro a134 w135 ms136
   have B137 := B85.trans (ms136.b.mono B85.size)
   have z138 := ms136.sz.trans z86
   have d139 := ms136.df.trans d87
   have s141 := (ms136.fr 4 (out_of (by kernel_rfl))).trans s90
   have x144 := bx.below ms136.b x92
   have x145 := bx.below ms136.b x93
   have x146 := bx.below ms136.b x94
   have s147 : (mP (mC (mn4 (p0 * (((1 : Int) : Rat) / p1)) (p0 * (((1 : Int) : Rat) / q1)) (q0 * (((1 : Int) : Rat) / p1)) (q0 * (((1 : Int) : Rat) / q1))) (k0 + k1 + 5 + 3)) (mC (mx4 (p0 * (((1 : Int) : Rat) / p1)) (p0 * (((1 : Int) : Rat) / q1)) (q0 * (((1 : Int) : Rat) / p1)) (q0 * (((1 : Int) : Rat) / q1))) (k0 + k1 + 5 + 3))).S w135 (sl a134 18) := ms136.g 8 _ 18 rfl (by decide) trivial rfl
   refine tl_put rfl rfl rfl (m' := (mP (mC (mn4 (p0 * (((1 : Int) : Rat) / p1)) (p0 * (((1 : Int) : Rat) / q1)) (q0 * (((1 : Int) : Rat) / p1)) (q0 * (((1 : Int) : Rat) / q1))) (k0 + k1 + 5 + 3)) (mC (mx4 (p0 * (((1 : Int) : Rat) / p1)) (p0 * (((1 : Int) : Rat) / q1)) (q0 * (((1 : Int) : Rat) / p1)) (q0 * (((1 : Int) : Rat) / q1))) (k0 + k1 + 5 + 3)))) x146 (ev s141) s147 (mP.cv (fun _ h => (isC.cv h)) (fun _ h => (isC.cv h)) s147) info_Interval ?_
   intro w148 x149 ex150 ot151 bl152
   have B153 := bl152 w (by omega) B137
   have x154 := ot151 (by omega) x144
   have x155 := ot151 (by omega) x145
   have s156 := (mP (mC (mn4 (p0 * (((1 : Int) : Rat) / p1)) (p0 * (((1 : Int) : Rat) / q1)) (q0 * (((1 : Int) : Rat) / p1)) (q0 * (((1 : Int) : Rat) / q1))) (k0 + k1 + 5 + 3)) (mC (mx4 (p0 * (((1 : Int) : Rat) / p1)) (p0 * (((1 : Int) : Rat) / q1)) (q0 * (((1 : Int) : Rat) / p1)) (q0 * (((1 : Int) : Rat) / q1))) (k0 + k1 + 5 + 3))).mono _ _ _ ex150 s147
   refine tl_set rfl rfl (run_assign rfl) (by rw [z138]; decide) ?_
   intro a157 z158 d159 s160 fr161
   have s162 : sl a157 5 = .int .i64 0 := s160.trans rfl
   have d164 := d159.trans d139
   have s166 := (fr161 4 (by decide)).trans s141
   refine wpList_nil (then_normal ?_)
   refine wp_ret ?_
   exact end_cell_tmp rfl d164 s166 x149 Tryz.underlying44 rfl info_Interval B153 (fun v h => ⟨v, _, rfl, (mP_imp (fun _ h => isE.mono (isC.e (sgE_f hb96) (isC.of h mn4_ord)) (by omega)) (fun _ h => isE.mono (isC.e (sgE_f hb96) (isC.of h mx4_ord)) (by omega)) h), (s162).trans (by first | rw [sgE_t (by assumption)] | rw [sgE_f (by assumption)])⟩)
end Go.Proofs.YtbjijmjhlpkomaaGreatDoor
