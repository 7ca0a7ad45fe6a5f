/-  -/
import Derived.Test.YtbjijmjhlpkomaaGreatDoorQcc

set_option linter.unusedVariables false
set_option linter.unusedSimpArgs false
set_option linter.unusedSectionVars false
set_option maxRecDepth 100000
set_option maxHeartbeats 3200000

namespace Go.Proofs.YtbjijmjhlpkomaaGreatDoor
open Go.RowKit Num

theorem iv_sign {p0 q0 : Rat} {k0 : Nat} {v0 : Value} {w : World} (hk0 : k0 ≤ 99999) (pf0 : (mP (mR p0 k0) (mR q0 k0)).S w v0) :
   Calls Tryz.prog 37 #[v0] w (RetS (mV (.int .i64 (sgI p0 q0))).S w) := by
 obtain ⟨c0, rfl, n0, u0, o0⟩ := (mP.cv (fun _ h => (isR.cv h)) (fun _ h => (isR.cv h)) pf0)
 refine calls_abs 13 Tryz.func37 rfl rfl (by simp) ?_
 intro a0 z0 d0 ha
 have s0_0 : sl a0 0 = .agg c0 := ha 0 (by simp)
 have B0 : Below w.heap.size w w := Below.refl _ _
 refine wp_seq ?_
 refine wp_region_seq 0 (mG []) (by rw [z0]; kernel_rfl) (mG_mono _) (ops_ok trivial) ?_
 intro a1 w2 ms3
 have B4 := B0.trans (ms3.b.mono B0.size)
 have z5 := ms3.sz.trans z0
 have d6 := ms3.df.trans d0
 have s7 := (ms3.fr 0 (out_of (by kernel_rfl))).trans s0_0
 refine tl_new rfl rfl (run_box_op rfl (ev s7)) (by rw [z5]; decide) ?_
 intro a8 w9 g10 z11 d12 s13 fr14 hg15 hc16 hb17
 have z18 := z11.trans z5
 have d19 := d12.trans d6
 have B21 := B4.trans (hb17.mono B4.size)
 have lw23 : w.heap.size ≤ g10 := by have := B4.size; omega
 have x22 : bx 44 6 (mP (mR p0 k0) (mR q0 k0)) w9 g10 := ⟨c0, hc16, n0, u0, o0, (mP (mR p0 k0) (mR q0 k0)).mono _ _ _ (Ext.of B21) pf0⟩
 refine tl_set rfl rfl (run_assign rfl) (by rw [z18]; decide) ?_
 intro a24 z25 d26 s27 fr28
 have z30 := z25.trans z18
 have d31 := d26.trans d19
 have s33 := (fr28 1 (by decide)).trans s13
 refine wpList_nil (then_normal ?_)
 refine wp_seq ?_
 refine wp_region_seq 3 (mG [(mV (.pointer (some ⟨g10, 0, none⟩))).b, (mR p0 k0).b, (mV (.int .i64 (sgnQ p0))).b]) (by rw [z30]; kernel_rfl) (mG_mono _) (ops_ok ⟨?_, ?_, ?_, trivial⟩) ?_
 · exact opk_pure rfl rfl fun a w hb hf hd => ⟨_, fa_Interval_0 rfl (ev ((hf 1 (out_of (by kernel_rfl))).trans s33)), fun _ _ => rfl⟩
 · refine opk_pure rfl rfl fun a w hb hf hd => ?_
   obtain ⟨x0, x1, x2, h1, h2⟩ := (bx.below hb x22).lo
   exact ⟨_, run_load_mid _ _ rfl (ev (hd.at 0 rfl rfl rfl rfl)) h1 Tryz.underlying26 rfl info_Rat, fun _ _ => h2⟩
 · refine opk_call rfl rfl fun a w hb hf hd => ?_
   have e0 : a.eval (.tmp 5) = sl a 5 := rfl
   exact ⟨104, #[sl a 5], run_call rfl rfl (fun _ _ => by kernel_rfl) (args_1 e0), (c_sign (by omega) (hd.at 0 rfl rfl rfl rfl)).mono fun _ _ r => RetS.imp (fun _ _ h => fun _ _ => h) r⟩
 intro a34 w35 ms36
 have B37 := B21.trans (ms36.b.mono B21.size)
 have z38 := ms36.sz.trans z30
 have d39 := ms36.df.trans d31
 have s40 := (ms36.fr 1 (out_of (by kernel_rfl))).trans s33
 have x42 := bx.below ms36.b x22
 have s43 : sl a34 6 = .int .i64 (sgnQ p0) := ms36.g 2 _ 6 rfl (by decide) trivial rfl
 refine tl_set rfl rfl (run_assign rfl) (by rw [z38]; decide) ?_
 intro a44 z45 d46 s47 fr48
 have s49 := s47.trans s43
 have z50 := z45.trans z38
 have d51 := d46.trans d39
 have s52 := (fr48 1 (by decide)).trans s40
 refine wpList_nil (then_normal ?_)
 refine wp_seq ?_
 refine wp_seq ?_
 refine wp_region_seq 5 (mG [(mV (.int .i64 (sgnQ p0))).b, (mV (.pointer (some ⟨g10, 3, none⟩))).b, (mR q0 k0).b, (mV (.int .i64 (sgnQ q0))).b, (mV (.bool (decide ((sgnQ p0) ≠ (sgnQ q0))))).b]) (by rw [z50]; kernel_rfl) (mG_mono _) (ops_ok ⟨?_, ?_, ?_, ?_, ?_, trivial⟩) ?_
 · exact opk_pure rfl rfl fun a w hb hf hd => ⟨_, run_move rfl, fun _ _ => ((hf 3 (out_of (by kernel_rfl))).trans s49)⟩
 · exact opk_pure rfl rfl fun a w hb hf hd => ⟨_, fa_Interval_1 rfl (ev ((hf 1 (out_of (by kernel_rfl))).trans s52)), fun _ _ => rfl⟩
 · refine opk_pure rfl rfl fun a w hb hf hd => ?_
   obtain ⟨x0, x1, x2, h1, h2⟩ := (bx.below hb x42).hi
   exact ⟨_, run_load_mid _ _ rfl (ev (hd.at 0 rfl rfl rfl rfl)) h1 Tryz.underlying26 rfl info_Rat, fun _ _ => h2⟩
 · refine opk_call rfl rfl fun a w hb hf hd => ?_
   have e0 : a.eval (.tmp 9) = sl a 9 := rfl
   exact ⟨104, #[sl a 9], run_call rfl rfl (fun _ _ => by kernel_rfl) (args_1 e0), (c_sign (by omega) (hd.at 0 rfl rfl rfl rfl)).mono fun _ _ r => RetS.imp (fun _ _ h => fun _ _ => h) r⟩
 · exact opk_pure rfl rfl fun a w hb hf hd => ⟨_, run_neq rfl (ev (hd.at 0 rfl rfl rfl rfl)) (ev (hd.at 1 rfl rfl rfl rfl)), fun _ _ => rfl⟩
 intro a55 w56 ms57
 have B58 := B37.trans (ms57.b.mono B37.size)
 have z59 := ms57.sz.trans z50
 have d60 := ms57.df.trans d51
 have s63 := (ms57.fr 3 (out_of (by kernel_rfl))).trans s49
 have x64 := bx.below ms57.b x42
 have s65 : sl a55 11 = .bool (decide ((sgnQ p0) ≠ (sgnQ q0))) := ms57.g 4 _ 11 rfl (by decide) trivial rfl
 refine wpList_nil (then_normal ?_)
 refine cond_b (decide ((sgnQ p0) ≠ (sgnQ q0))) (ev s65) (fun hb66 => ?_) (fun hb66 => ?_)
 · skip
   have hb66p := of_decide_eq_true hb66
   refine wp_seq ?_
   refine wp_region_seq 0 (mG []) (by rw [z59]; kernel_rfl) (mG_mono _) (ops_ok trivial) ?_
   intro a67 w68 ms69
   have B70 := B58.trans (ms69.b.mono B58.size)
   have z71 := ms69.sz.trans z59
   have d72 := ms69.df.trans d60
   have x76 := bx.below ms69.b x64
   refine tl_set rfl rfl (run_assign rfl) (by rw [z71]; decide) ?_
   intro a77 z78 d79 s80 fr81
   have s82 : sl a77 2 = .int .i64 0 := s80.trans rfl
   have d84 := d79.trans d72
   refine wpList_nil (then_normal ?_)
   refine wp_ret ?_
   exact end_tmp rfl d84 B70 ((s82).trans (by first | rw [← sg_t (by assumption)] | rw [← sg_f (by assumption)]))
 · skip
   have hb66p := of_decide_eq_false hb66
   refine wp_skip (then_normal ?_)
   refine wp_seq ?_
   refine wp_region_seq 1 (mG [(mV (.int .i64 (sgnQ p0))).b]) (by rw [z59]; kernel_rfl) (mG_mono _) (ops_ok ⟨?_, trivial⟩) ?_
   · exact opk_pure rfl rfl fun a w hb hf hd => ⟨_, run_move rfl, fun _ _ => ((hf 3 (out_of (by kernel_rfl))).trans s63)⟩
   intro a88 w89 ms90
   have B91 := B58.trans (ms90.b.mono B58.size)
   have z92 := ms90.sz.trans z59
   have d93 := ms90.df.trans d60
   have x97 := bx.below ms90.b x64
   have s98 : sl a88 12 = .int .i64 (sgnQ p0) := ms90.g 0 _ 12 rfl (by decide) trivial rfl
   refine tl_set rfl rfl (run_assign rfl) (by rw [z92]; decide) ?_
   intro a99 z100 d101 s102 fr103
   have s104 := s102.trans s98
   have d106 := d101.trans d93
   refine wpList_nil (then_normal ?_)
   refine wp_ret ?_
   exact end_tmp rfl d106 B91 ((s104).trans (by first | rw [← sg_t (by assumption)] | rw [← sg_f (by assumption)]))

theorem iv_inverse {p0 : Rat} {k0 : Nat} {v0 : Value} {w : World} (hk0 : k0 ≤ 99999) (pf0 : (mR p0 k0).S w v0) (hT : Tb w) :
   Calls Tryz.prog 97 #[v0] w (RetS (mR (((1 : Int) : Rat) / p0) (k0 + 5)).S w) := by
 obtain ⟨c0, rfl, n0, u0, o0⟩ := (isR.cv pf0)
 refine calls_abs 12 Tryz.func97 rfl rfl (by simp) ?_
 intro a0 z0 d0 ha
 have s0_0 : sl a0 0 = .agg c0 := ha 0 (by simp)
 have B0 : Below w.heap.size w w := Below.refl _ _
 refine wp_seq ?_
 refine wp_region_seq 0 (mG []) (by rw [z0]; kernel_rfl) (mG_mono _) (ops_ok trivial) ?_
 intro a1 w2 ms3
 have B4 := B0.trans (ms3.b.mono B0.size)
 have z5 := ms3.sz.trans z0
 have d6 := ms3.df.trans d0
 have s7 := (ms3.fr 0 (out_of (by kernel_rfl))).trans s0_0
 refine tl_new rfl rfl (run_box_op rfl (ev s7)) (by rw [z5]; decide) ?_
 intro a8 w9 g10 z11 d12 s13 fr14 hg15 hc16 hb17
 have z18 := z11.trans z5
 have d19 := d12.trans d6
 have B21 := B4.trans (hb17.mono B4.size)
 have lw23 : w.heap.size ≤ g10 := by have := B4.size; omega
 have x22 : bx 26 3 (mR p0 k0) w9 g10 := ⟨c0, hc16, n0, u0, o0, (mR p0 k0).mono _ _ _ (Ext.of B21) pf0⟩
 refine tl_new rfl rfl (run_alloc_op rfl zero_Rat) (by rw [z18]; decide) ?_
 intro a24 w25 g26 z27 d28 s29 fr30 hg31 hc32 hb33
 have z34 := z27.trans z18
 have d35 := d28.trans d19
 have s37 := (fr30 1 (by decide)).trans s13
 have B38 := B21.trans (hb33.mono B21.size)
 have ne40 : g10 ≠ g26 := by have := x22.lt; omega
 have x39 := bx.below hb33 x22
 have lw42 : w.heap.size ≤ g26 := by have := B21.size; omega
 have x41 := bx_Rat hc32
 refine wpList_nil (then_normal ?_)
 refine wp_seq ?_
 refine wp_region_mono 7 [5] (mG [(mC (((1 : Int) : Rat)) 2).b, (mR p0 k0).b, (mT (mE ((((1 : Int) : Rat)) / p0) (zeq p0) (k0 + 5)) (mV (.int .i64 (zeq p0)))).b, (mT (mE ((((1 : Int) : Rat)) / p0) (zeq p0) (k0 + 5)) (mV (.int .i64 (zeq p0)))).b, (mE ((((1 : Int) : Rat)) / p0) (zeq p0) (k0 + 5)).b, (mV (.int .i64 (zeq p0))).b, (mNew w25.heap.size 26 3)]) (by kernel_rfl) (by rw [z34]; kernel_rfl) (fun _ => ⟨by kernel_rfl, fun c a d v w h => by cases d <;> exact h, ?_⟩) (mG_mono _) (ops_ok ⟨?_, ?_, ?_, ?_, ?_, ?_, ?_, trivial⟩) ?_
 · intro i o hi ho a w hb hs hf hd
   obtain rfl : i = 5 := by simpa using hi
   have ho2 := Option.some.inj (show some _ = some o from ho)
   subst ho2
   replace hd : Deps _ _ _ a w := hd
   obtain ⟨x, y, h1, h2, h3⟩ := (hd.at 0 rfl rfl rfl rfl)
   exact ⟨_, Or.inl ⟨wanted_none rfl _, fun _ => run_extract_op rfl (ev h1) rfl⟩, fun _ _ => h3⟩
 · refine opk_call rfl rfl fun a w hb hf hd => ?_
   exact ⟨70, #[.int .i64 1], run_call rfl rfl (fun _ _ => by kernel_rfl) (args_1 rfl), (c_of 1 (by omega) (by omega)).mono fun _ _ r => RetS.imp (fun _ _ h => fun _ _ => (isC.mono h (by omega))) r⟩
 · refine opk_pure rfl rfl fun a w hb hf hd => ?_
   obtain ⟨cs, h1, h2, h3, h4, h5⟩ := bx.below hb x39
   exact ⟨_, run_load_row _ _ rfl (ev ((hf 1 (out_of (by kernel_rfl))).trans s37)) h1 Tryz.underlying26 rfl (by rw [h2]; exact info_Rat), fun _ _ => h5⟩
 · refine opk_call rfl rfl fun a w hb hf hd => ?_
   have e0 : a.eval (.tmp 6) = sl a 6 := rfl
   have e1 : a.eval (.tmp 7) = sl a 7 := rfl
   exact ⟨155, #[sl a 6, sl a 7], run_call rfl rfl (fun _ _ => by kernel_rfl) (args_2 e0 e1), (c_div (by omega) (by omega) (isC.r (hd.at 0 rfl rfl rfl rfl)) (hd.at 1 rfl rfl rfl rfl) (hT.below (B38.trans (hb.mono B38.size)))).mono fun _ _ r => RetS.imp (fun _ _ h => fun _ _ => (mT_imp (fun _ h => (isE.mono h (by omega))) (fun _ h => h) h)) r⟩
 · exact opk_pure rfl rfl fun a w hb hf hd => ⟨_, run_move rfl, fun _ _ => (hd.at 0 rfl rfl rfl rfl)⟩
 · refine opk_pure rfl rfl fun a w hb hf hd => ?_
   obtain ⟨x, y, h1, h2, h3⟩ := (hd.at 0 rfl rfl rfl rfl)
   exact ⟨_, run_extract_op rfl (ev h1) rfl, fun _ _ => h2⟩
 · refine opk_pure rfl rfl fun a w hb hf hd => ?_
   obtain ⟨x, y, h1, h2, h3⟩ := (hd.at 0 rfl rfl rfl rfl)
   exact ⟨_, run_extract_op rfl (ev h1) rfl, fun _ _ => h3⟩
 · refine opk_alloc rfl fun a w hb hf hd => ⟨_, _, run_alloc_op rfl zero_Rat, below_alloc _ _, fun _ _ => ⟨_, rfl, hb.size, bx_Rat (heap_alloc_at _ _)⟩, fun _ => ⟨_, rfl, Nat.le_refl _, by simp⟩⟩
 intro a43 w44 ms45
 have B46 := B38.trans (ms45.b.mono B38.size)
 have z47 := ms45.sz.trans z34
 have d48 := ms45.df.trans d35
 have s49 := (ms45.fr 2 (out_of (by kernel_rfl))).trans s29
 have x50 := bx.below ms45.b x39
 have x51 := bx.below ms45.b x41
 have s52 : (mE ((((1 : Int) : Rat)) / p0) (zeq p0) (k0 + 5)).S w44 (sl a43 9) := ms45.g 4 _ 9 rfl (by decide) trivial rfl
 obtain ⟨g55, s54, e57, x56⟩ := ms45.g 6 _ 3 rfl (by decide) trivial rfl
 have ne58 : g10 ≠ g55 := by have := x39.lt; omega
 have ne59 : g26 ≠ g55 := by have := x41.lt; omega
 have lw60 : w.heap.size ≤ g55 := by have := B38.size; omega
 refine tl_put rfl rfl rfl (m' := (mE ((((1 : Int) : Rat)) / p0) (zeq p0) (k0 + 5))) x56 (ev s54) s52 (isE.cv s52) info_Rat ?_
 intro w61 x62 ex63 ot64 bl65
 have B66 := bl65 w (by omega) B46
 have x67 := ot64 (by omega) x50
 have x68 := ot64 (by omega) x51
 have s69 := (mE ((((1 : Int) : Rat)) / p0) (zeq p0) (k0 + 5)).mono _ _ _ ex63 s52
 refine tl_set rfl rfl (run_assign rfl) (by rw [z47]; decide) ?_
 intro a70 z71 d72 s73 fr74
 have z76 := z71.trans z47
 have d77 := d72.trans d48
 have s78 := (fr74 2 (by decide)).trans s49
 have s81 := (fr74 3 (by decide)).trans s54
 refine wpList_nil (then_normal ?_)
 refine wp_seq ?_
 refine wp_region_seq 1 (mG [(mE ((((1 : Int) : Rat)) / p0) (zeq p0) (k0 + 5)).b]) (by rw [z76]; kernel_rfl) (mG_mono _) (ops_ok ⟨?_, trivial⟩) ?_
 · refine opk_pure rfl rfl fun a w hb hf hd => ?_
   obtain ⟨cs, h1, h2, h3, h4, h5⟩ := bx.below hb x62
   exact ⟨_, run_load_row _ _ rfl (ev ((hf 3 (out_of (by kernel_rfl))).trans s81)) h1 Tryz.underlying26 rfl (by rw [h2]; exact info_Rat), fun _ _ => h5⟩
 intro a82 w83 ms84
 have B85 := B66.trans (ms84.b.mono B66.size)
 have d87 := ms84.df.trans d77
 have s88 := (ms84.fr 2 (out_of (by kernel_rfl))).trans s78
 have x90 := bx.below ms84.b x62
 have x91 := bx.below ms84.b x68
 have s92 : (mE ((((1 : Int) : Rat)) / p0) (zeq p0) (k0 + 5)).S w83 (sl a82 11) := ms84.g 0 _ 11 rfl (by decide) trivial rfl
 refine tl_put rfl rfl rfl (m' := (mE ((((1 : Int) : Rat)) / p0) (zeq p0) (k0 + 5))) x91 (ev s88) s92 (isE.cv s92) info_Rat ?_
 intro w93 x94 ex95 ot96 bl97
 have B98 := bl97 w (by omega) B85
 have x99 := ot96 (by omega) x90
 have s100 := (mE ((((1 : Int) : Rat)) / p0) (zeq p0) (k0 + 5)).mono _ _ _ ex95 s92
 refine wpList_nil (then_normal ?_)
 refine wp_ret ?_
 exact end_cell rfl d87 s88 x94 Tryz.underlying26 rfl info_Rat B98 (fun v h => (isE.rdiv h))

theorem iv_square {p0 q0 : Rat} {k0 : Nat} {v0 : Value} {w : World} (hk0 : k0 ≤ 9999) (pf0 : (mP (mR p0 k0) (mR q0 k0)).S w v0) (hT : Tb w) :
   Calls Tryz.prog 55 #[v0] w (RetS (mP (mC (sqL p0 q0) (k0 + k0 + 5)) (mC (mxQ (p0 * p0) (q0 * q0)) (k0 + k0 + 5))).S w) := by
 obtain ⟨c0, rfl, n0, u0, o0⟩ := (mP.cv (fun _ h => (isR.cv h)) (fun _ h => (isR.cv h)) pf0)
 refine calls_abs 22 Tryz.func55 rfl rfl (by simp) ?_
 intro a0 z0 d0 ha
 have s0_0 : sl a0 0 = .agg c0 := ha 0 (by simp)
 have B0 : Below w.heap.size w w := Below.refl _ _
 refine wp_seq ?_
 refine wp_region_seq 0 (mG []) (by rw [z0]; kernel_rfl) (mG_mono _) (ops_ok trivial) ?_
 intro a1 w2 ms3
 have B4 := B0.trans (ms3.b.mono B0.size)
 have z5 := ms3.sz.trans z0
 have d6 := ms3.df.trans d0
 have s7 := (ms3.fr 0 (out_of (by kernel_rfl))).trans s0_0
 refine tl_new rfl rfl (run_box_op rfl (ev s7)) (by rw [z5]; decide) ?_
 intro a8 w9 g10 z11 d12 s13 fr14 hg15 hc16 hb17
 have z18 := z11.trans z5
 have d19 := d12.trans d6
 have B21 := B4.trans (hb17.mono B4.size)
 have lw23 : w.heap.size ≤ g10 := by have := B4.size; omega
 have x22 : bx 44 6 (mP (mR p0 k0) (mR q0 k0)) w9 g10 := ⟨c0, hc16, n0, u0, o0, (mP (mR p0 k0) (mR q0 k0)).mono _ _ _ (Ext.of B21) pf0⟩
 refine tl_new rfl rfl (run_alloc_op rfl zero_Interval) (by rw [z18]; decide) ?_
 intro a24 w25 g26 z27 d28 s29 fr30 hg31 hc32 hb33
 have z34 := z27.trans z18
 have d35 := d28.trans d19
 have s37 := (fr30 1 (by decide)).trans s13
 have B38 := B21.trans (hb33.mono B21.size)
 have ne40 : g10 ≠ g26 := by have := x22.lt; omega
 have x39 := bx.below hb33 x22
 have lw42 : w.heap.size ≤ g26 := by have := B21.size; omega
 have x41 := bx_Interval hc32
 refine wpList_nil (then_normal ?_)
 refine wp_seq ?_
 refine wp_region_mono 13 [] (mG [(mV (.pointer (some ⟨g10, 0, none⟩))).b, (mR p0 k0).b, (mV (.pointer (some ⟨g10, 0, none⟩))).b, (mR p0 k0).b, (mC (p0 * p0) (k0 + k0 + 3)).b, (mV (.pointer (some ⟨g10, 3, none⟩))).b, (mR q0 k0).b, (mV (.pointer (some ⟨g10, 3, none⟩))).b, (mR q0 k0).b, (mC (q0 * q0) (k0 + k0 + 3)).b, (mP (mC (p0 * p0) (k0 + k0 + 3)) (mC (q0 * q0) (k0 + k0 + 3))).b, (mP (mC (mnQ (p0 * p0) (q0 * q0)) (k0 + k0 + 3)) (mC (mxQ (p0 * p0) (q0 * q0)) (k0 + k0 + 3))).b, (mNew w25.heap.size 44 6)]) (by kernel_rfl) (by rw [z34]; kernel_rfl) (fun h => absurd rfl h) (mG_mono _) (ops_ok ⟨?_, ?_, ?_, ?_, ?_, ?_, ?_, ?_, ?_, ?_, ?_, ?_, ?_, trivial⟩) ?_
 · exact opk_pure rfl rfl fun a w hb hf hd => ⟨_, fa_Interval_0 rfl (ev ((hf 1 (out_of (by kernel_rfl))).trans s37)), fun _ _ => rfl⟩
 · refine opk_pure rfl rfl fun a w hb hf hd => ?_
   obtain ⟨x0, x1, x2, h1, h2⟩ := (bx.below hb x39).lo
   exact ⟨_, run_load_mid _ _ rfl (ev (hd.at 0 rfl rfl rfl rfl)) h1 Tryz.underlying26 rfl info_Rat, fun _ _ => h2⟩
 · exact opk_pure rfl rfl fun a w hb hf hd => ⟨_, fa_Interval_0 rfl (ev ((hf 1 (out_of (by kernel_rfl))).trans s37)), fun _ _ => rfl⟩
 · refine opk_pure rfl rfl fun a w hb hf hd => ?_
   obtain ⟨x0, x1, x2, h1, h2⟩ := (bx.below hb x39).lo
   exact ⟨_, run_load_mid _ _ rfl (ev (hd.at 0 rfl rfl rfl rfl)) h1 Tryz.underlying26 rfl info_Rat, fun _ _ => h2⟩
 · refine opk_call rfl rfl fun a w hb hf hd => ?_
   have e0 : a.eval (.tmp 5) = sl a 5 := rfl
   have e1 : a.eval (.tmp 7) = sl a 7 := rfl
   exact ⟨110, #[sl a 5, sl a 7], run_call rfl rfl (fun _ _ => by kernel_rfl) (args_2 e0 e1), (c_mul (by omega) (by omega) (hd.at 0 rfl rfl rfl rfl) (hd.at 1 rfl rfl rfl rfl) (hT.below (B38.trans (hb.mono B38.size)))).mono fun _ _ r => RetS.imp (fun _ _ h => fun _ _ => (isC.mono h (by omega))) r⟩
 · exact opk_pure rfl rfl fun a w hb hf hd => ⟨_, fa_Interval_1 rfl (ev ((hf 1 (out_of (by kernel_rfl))).trans s37)), fun _ _ => rfl⟩
 · refine opk_pure rfl rfl fun a w hb hf hd => ?_
   obtain ⟨x0, x1, x2, h1, h2⟩ := (bx.below hb x39).hi
   exact ⟨_, run_load_mid _ _ rfl (ev (hd.at 0 rfl rfl rfl rfl)) h1 Tryz.underlying26 rfl info_Rat, fun _ _ => h2⟩
 · exact opk_pure rfl rfl fun a w hb hf hd => ⟨_, fa_Interval_1 rfl (ev ((hf 1 (out_of (by kernel_rfl))).trans s37)), fun _ _ => rfl⟩
 · refine opk_pure rfl rfl fun a w hb hf hd => ?_
   obtain ⟨x0, x1, x2, h1, h2⟩ := (bx.below hb x39).hi
   exact ⟨_, run_load_mid _ _ rfl (ev (hd.at 0 rfl rfl rfl rfl)) h1 Tryz.underlying26 rfl info_Rat, fun _ _ => h2⟩
 · refine opk_call rfl rfl fun a w hb hf hd => ?_
   have e0 : a.eval (.tmp 10) = sl a 10 := rfl
   have e1 : a.eval (.tmp 12) = sl a 12 := rfl
   exact ⟨110, #[sl a 10, sl a 12], run_call rfl rfl (fun _ _ => by kernel_rfl) (args_2 e0 e1), (c_mul (by omega) (by omega) (hd.at 0 rfl rfl rfl rfl) (hd.at 1 rfl rfl rfl rfl) (hT.below (B38.trans (hb.mono B38.size)))).mono fun _ _ r => RetS.imp (fun _ _ h => fun _ _ => (isC.mono h (by omega))) r⟩
 · refine opk_pure rfl rfl fun a w hb hf hd => ?_
   have kk1 : (mC (p0 * p0) (k0 + k0 + 3)).S w (sl a 8) := (hd.at 0 rfl rfl rfl rfl)
   have kk2 : (mC (q0 * q0) (k0 + k0 + 3)).S w (sl a 13) := (hd.at 1 rfl rfl rfl rfl)
   obtain ⟨x0, x1, x2, qq1⟩ := cv3 (isC.cv kk1)
   obtain ⟨y0, y1, y2, qq2⟩ := cv3 (isC.cv kk2)
   rw [qq1] at kk1; rw [qq2] at kk2
   exact ⟨_, run_build_op _ _ rfl (built_pair qq1 qq2), fun _ _ => ⟨x0, x1, x2, y0, y1, y2, rfl, kk1, kk2⟩⟩
 · refine opk_call rfl rfl fun a w hb hf hd => ?_
   have e0 : a.eval (.tmp 14) = sl a 14 := rfl
   exact ⟨98, #[sl a 14], run_call rfl rfl (fun _ _ => by kernel_rfl) (args_1 e0), (iv_orderedC (by omega) (hd.at 0 rfl rfl rfl rfl) (hT.below (B38.trans (hb.mono B38.size)))).mono fun _ _ r => RetS.imp (fun _ _ h => fun _ _ => (mP_imp (fun _ h => (isC.mono h (by omega))) (fun _ h => (isC.mono h (by omega))) h)) r⟩
 · refine opk_alloc rfl fun a w hb hf hd => ⟨_, _, run_alloc_op rfl zero_Interval, below_alloc _ _, fun _ _ => ⟨_, rfl, hb.size, bx_Interval (heap_alloc_at _ _)⟩, fun _ => ⟨_, rfl, Nat.le_refl _, by simp⟩⟩
 intro a43 w44 ms45
 have B46 := B38.trans (ms45.b.mono B38.size)
 have z47 := ms45.sz.trans z34
 have d48 := ms45.df.trans d35
 have s49 := (ms45.fr 1 (out_of (by kernel_rfl))).trans s37
 have s50 := (ms45.fr 2 (out_of (by kernel_rfl))).trans s29
 have x51 := bx.below ms45.b x39
 have x52 := bx.below ms45.b x41
 have s53 : (mP (mC (mnQ (p0 * p0) (q0 * q0)) (k0 + k0 + 3)) (mC (mxQ (p0 * p0) (q0 * q0)) (k0 + k0 + 3))).S w44 (sl a43 15) := ms45.g 11 _ 15 rfl (by decide) trivial rfl
 obtain ⟨g55, s54, e57, x56⟩ := ms45.g 12 _ 3 rfl (by decide) trivial rfl
 have ne58 : g10 ≠ g55 := by have := x39.lt; omega
 have ne59 : g26 ≠ g55 := by have := x41.lt; omega
 have lw60 : w.heap.size ≤ g55 := by have := B38.size; omega
 refine tl_put rfl rfl rfl (m' := (mP (mC (mnQ (p0 * p0) (q0 * q0)) (k0 + k0 + 3)) (mC (mxQ (p0 * p0) (q0 * q0)) (k0 + k0 + 3)))) x56 (ev s54) s53 (mP.cv (fun _ h => (isC.cv h)) (fun _ h => (isC.cv h)) s53) info_Interval ?_
 intro w61 x62 ex63 ot64 bl65
 have B66 := bl65 w (by omega) B46
 have x67 := ot64 (by omega) x51
 have x68 := ot64 (by omega) x52
 have s69 := (mP (mC (mnQ (p0 * p0) (q0 * q0)) (k0 + k0 + 3)) (mC (mxQ (p0 * p0) (q0 * q0)) (k0 + k0 + 3))).mono _ _ _ ex63 s53
 refine wpList_nil (then_normal ?_)
 refine wp_seq ?_
 refine wp_seq ?_
 refine wp_region_seq 3 (mG [(mP (mR p0 k0) (mR q0 k0)).b, (mV (.int .i64 (sgI p0 q0))).b, (mV (.bool (decide ((sgI p0 q0) = 0)))).b]) (by rw [z47]; kernel_rfl) (mG_mono _) (ops_ok ⟨?_, ?_, ?_, trivial⟩) ?_
 · refine opk_pure rfl rfl fun a w hb hf hd => ?_
   obtain ⟨cs, h1, h2, h3, h4, h5⟩ := bx.below hb x67
   exact ⟨_, run_load_row _ _ rfl (ev ((hf 1 (out_of (by kernel_rfl))).trans s49)) h1 Tryz.underlying44 rfl (by rw [h2]; exact info_Interval), fun _ _ => h5⟩
 · refine opk_call rfl rfl fun a w hb hf hd => ?_
   have e0 : a.eval (.tmp 16) = sl a 16 := rfl
   exact ⟨37, #[sl a 16], run_call rfl rfl (fun _ _ => by kernel_rfl) (args_1 e0), (iv_sign  (by omega) (mP_imp (m1' := (mR p0 k0)) (m2' := (mR q0 k0)) (fun _ h => h) (fun _ h => h) (hd.at 0 rfl rfl rfl rfl))).mono fun _ _ r => RetS.imp (fun _ _ h => fun _ _ => h) r⟩
 · exact opk_pure rfl rfl fun a w hb hf hd => ⟨_, run_eql rfl (ev (hd.at 0 rfl rfl rfl rfl)) rfl, fun _ _ => rfl⟩
 intro a70 w71 ms72
 have B73 := B66.trans (ms72.b.mono B66.size)
 have z74 := ms72.sz.trans z47
 have d75 := ms72.df.trans d48
 have s77 := (ms72.fr 2 (out_of (by kernel_rfl))).trans s50
 have s78 := (ms72.fr 3 (out_of (by kernel_rfl))).trans s54
 have x79 := bx.below ms72.b x62
 have x80 := bx.below ms72.b x67
 have x81 := bx.below ms72.b x68
 have s82 : sl a70 18 = .bool (decide ((sgI p0 q0) = 0)) := ms72.g 2 _ 18 rfl (by decide) trivial rfl
 refine wpList_nil (then_normal ?_)
 refine cond_b (decide ((sgI p0 q0) = 0)) (ev s82) (fun hb83 => ?_) (fun hb83 => ?_)
 · skip
   have hb83p := of_decide_eq_true hb83
   refine wp_region_seq 2 (mG [(mC (((0 : Int) : Rat)) 2).b, (mV (.pointer (some ⟨g55, 0, none⟩))).b]) (by rw [z74]; kernel_rfl) (mG_mono _) (ops_ok ⟨?_, ?_, trivial⟩) ?_
   · refine opk_call rfl rfl fun a w hb hf hd => ?_
     exact ⟨70, #[.int .i64 0], run_call rfl rfl (fun _ _ => by kernel_rfl) (args_1 rfl), (c_of 0 (by omega) (by omega)).mono fun _ _ r => RetS.imp (fun _ _ h => fun _ _ => (isC.mono h (by omega))) r⟩
   · exact opk_pure rfl rfl fun a w hb hf hd => ⟨_, fa_Interval_0 rfl (ev ((hf 3 (out_of (by kernel_rfl))).trans s78)), fun _ _ => rfl⟩
   intro a84 w85 ms86
   have B87 := B73.trans (ms86.b.mono B73.size)
   have z88 := ms86.sz.trans z74
   have d89 := ms86.df.trans d75
   have s91 := (ms86.fr 2 (out_of (by kernel_rfl))).trans s77
   have s92 := (ms86.fr 3 (out_of (by kernel_rfl))).trans s78
   have x94 := bx.below ms86.b x79
   have x95 := bx.below ms86.b x80
   have x96 := bx.below ms86.b x81
   have s97 : (mC (((0 : Int) : Rat)) 2).S w85 (sl a84 19) := ms86.g 0 _ 19 rfl (by decide) trivial rfl
   have s98 : sl a84 20 = .pointer (some ⟨g55, 0, none⟩) := ms86.g 1 _ 20 rfl (by decide) trivial rfl
   refine tl_put_lo rfl rfl rfl (m' := (mC (((0 : Int) : Rat)) 2)) x94 (ev s98) s97 (isC.cv s97) info_Rat ?_
   intro w99 x100 ex101 ot102 bl103
   have B104 := bl103 w (by omega) B87
   have x105 := ot102 (by omega) x95
   have x106 := ot102 (by omega) x96
   have s107 := (mC (((0 : Int) : Rat)) 2).mono _ _ _ ex101 s97
   refine wpList_nil (then_normal ?_)
   refine wp_seq ?_
   refine wp_region_seq 1 (mG [(mP (mC (((0 : Int) : Rat)) 2) (mC (mxQ (p0 * p0) (q0 * q0)) (k0 + k0 + 3))).b]) (by rw [z88]; kernel_rfl) (mG_mono _) (ops_ok ⟨?_, trivial⟩) ?_
   · refine opk_pure rfl rfl fun a w hb hf hd => ?_
     obtain ⟨cs, h1, h2, h3, h4, h5⟩ := bx.below hb x100
     exact ⟨_, run_load_row _ _ rfl (ev ((hf 3 (out_of (by kernel_rfl))).trans s92)) h1 Tryz.underlying44 rfl (by rw [h2]; exact info_Interval), fun _ _ => h5⟩
   intro a108 w109 ms110
   have B111 := B104.trans (ms110.b.mono B104.size)
   have d113 := ms110.df.trans d89
   have s115 := (ms110.fr 2 (out_of (by kernel_rfl))).trans s91
   have x118 := bx.below ms110.b x100
   have x119 := bx.below ms110.b x105
   have x120 := bx.below ms110.b x106
   have s121 : (mP (mC (((0 : Int) : Rat)) 2) (mC (mxQ (p0 * p0) (q0 * q0)) (k0 + k0 + 3))).S w109 (sl a108 21) := ms110.g 0 _ 21 rfl (by decide) trivial rfl
   refine tl_put rfl rfl rfl (m' := (mP (mC (((0 : Int) : Rat)) 2) (mC (mxQ (p0 * p0) (q0 * q0)) (k0 + k0 + 3)))) x120 (ev s115) s121 (mP.cv (fun _ h => (isC.cv h)) (fun _ h => (isC.cv h)) s121) info_Interval ?_
   intro w122 x123 ex124 ot125 bl126
   have B127 := bl126 w (by omega) B111
   have x128 := ot125 (by omega) x118
   have x129 := ot125 (by omega) x119
   have s130 := (mP (mC (((0 : Int) : Rat)) 2) (mC (mxQ (p0 * p0) (q0 * q0)) (k0 + k0 + 3))).mono _ _ _ ex124 s121
   refine wpList_nil (then_normal ?_)
   refine wp_ret ?_
   exact end_cell rfl d113 s115 x123 Tryz.underlying44 rfl info_Interval B127 (fun v h => (by first | (rw [sq_t (by assumption)]; exact mP_imp (fun _ h => isC.mono h (by omega)) (fun _ h => isC.mono h (by omega)) h) | (rw [sq_f (by assumption)]; exact mP_imp (fun _ h => isC.mono h (by omega)) (fun _ h => isC.mono h (by omega)) h)))
 · skip
   have hb83p := of_decide_eq_false hb83
   refine wp_skip (then_normal ?_)
   refine wp_seq ?_
   refine wp_region_seq 1 (mG [(mP (mC (mnQ (p0 * p0) (q0 * q0)) (k0 + k0 + 3)) (mC (mxQ (p0 * p0) (q0 * q0)) (k0 + k0 + 3))).b]) (by rw [z74]; kernel_rfl) (mG_mono _) (ops_ok ⟨?_, trivial⟩) ?_
   · refine opk_pure rfl rfl fun a w hb hf hd => ?_
     obtain ⟨cs, h1, h2, h3, h4, h5⟩ := bx.below hb x79
     exact ⟨_, run_load_row _ _ rfl (ev ((hf 3 (out_of (by kernel_rfl))).trans s78)) h1 Tryz.underlying44 rfl (by rw [h2]; exact info_Interval), fun _ _ => h5⟩
   intro a131 w132 ms133
   have B134 := B73.trans (ms133.b.mono B73.size)
   have d136 := ms133.df.trans d75
   have s138 := (ms133.fr 2 (out_of (by kernel_rfl))).trans s77
   have x141 := bx.below ms133.b x79
   have x142 := bx.below ms133.b x80
   have x143 := bx.below ms133.b x81
   have s144 : (mP (mC (mnQ (p0 * p0) (q0 * q0)) (k0 + k0 + 3)) (mC (mxQ (p0 * p0) (q0 * q0)) (k0 + k0 + 3))).S w132 (sl a131 21) := ms133.g 0 _ 21 rfl (by decide) trivial rfl
   refine tl_put rfl rfl rfl (m' := (mP (mC (mnQ (p0 * p0) (q0 * q0)) (k0 + k0 + 3)) (mC (mxQ (p0 * p0) (q0 * q0)) (k0 + k0 + 3)))) x143 (ev s138) s144 (mP.cv (fun _ h => (isC.cv h)) (fun _ h => (isC.cv h)) s144) info_Interval ?_
   intro w145 x146 ex147 ot148 bl149
   have B150 := bl149 w (by omega) B134
   have x151 := ot148 (by omega) x141
   have x152 := ot148 (by omega) x142
   have s153 := (mP (mC (mnQ (p0 * p0) (q0 * q0)) (k0 + k0 + 3)) (mC (mxQ (p0 * p0) (q0 * q0)) (k0 + k0 + 3))).mono _ _ _ ex147 s144
   refine wpList_nil (then_normal ?_)
   refine wp_ret ?_
   exact end_cell rfl d136 s138 x146 Tryz.underlying44 rfl info_Interval B150 (fun v h => (by first | (rw [sq_t (by assumption)]; exact mP_imp (fun _ h => isC.mono h (by omega)) (fun _ h => isC.mono h (by omega)) h) | (rw [sq_f (by assumption)]; exact mP_imp (fun _ h => isC.mono h (by omega)) (fun _ h => isC.mono h (by omega)) h)))

theorem iv_hull {p0 q0 : Rat} {k0 : Nat} {p1 q1 : Rat} {k1 : Nat} {v0 : Value} {v1 : Value} {w : World} (hk0 : k0 ≤ 9999) (hk1 : k1 ≤ 9999) (pf0 : (mP (mR p0 k0) (mR q0 k0)).S w v0) (pf1 : (mP (mR p1 k1) (mR q1 k1)).S w v1) (hT : Tb w) :
   Calls Tryz.prog 57 #[v0, v1] w (RetS (mP (mC (mnQ (mnQ p0 q0) (mnQ p1 q1)) (k0 + k1 + k0 + k1 + 1)) (mC (mxQ (mxQ p0 q0) (mxQ p1 q1)) (k0 + k1 + k0 + k1 + 1))).S w) := by
 obtain ⟨c0, rfl, n0, u0, o0⟩ := (mP.cv (fun _ h => (isR.cv h)) (fun _ h => (isR.cv h)) pf0)
 obtain ⟨c1, rfl, n1, u1, o1⟩ := (mP.cv (fun _ h => (isR.cv h)) (fun _ h => (isR.cv h)) pf1)
 refine calls_abs 20 Tryz.func57 rfl rfl (by simp) ?_
 intro a0 z0 d0 ha
 have s0_0 : sl a0 0 = .agg c0 := ha 0 (by simp)
 have s0_1 : sl a0 1 = .agg c1 := ha 1 (by simp)
 have B0 : Below w.heap.size w w := Below.refl _ _
 refine wp_seq ?_
 refine wp_region_seq 0 (mG []) (by rw [z0]; kernel_rfl) (mG_mono _) (ops_ok trivial) ?_
 intro a1 w2 ms3
 have B4 := B0.trans (ms3.b.mono B0.size)
 have z5 := ms3.sz.trans z0
 have d6 := ms3.df.trans d0
 have s7 := (ms3.fr 0 (out_of (by kernel_rfl))).trans s0_0
 have s8 := (ms3.fr 1 (out_of (by kernel_rfl))).trans s0_1
 refine tl_new rfl rfl (run_box_op rfl (ev s7)) (by rw [z5]; decide) ?_
 intro a9 w10 g11 z12 d13 s14 fr15 hg16 hc17 hb18
 have z19 := z12.trans z5
 have d20 := d13.trans d6
 have s22 := (fr15 1 (by decide)).trans s8
 have B23 := B4.trans (hb18.mono B4.size)
 have lw25 : w.heap.size ≤ g11 := by have := B4.size; omega
 have x24 : bx 44 6 (mP (mR p0 k0) (mR q0 k0)) w10 g11 := ⟨c0, hc17, n0, u0, o0, (mP (mR p0 k0) (mR q0 k0)).mono _ _ _ (Ext.of B23) pf0⟩
 refine tl_new rfl rfl (run_box_op rfl (ev s22)) (by rw [z19]; decide) ?_
 intro a26 w27 g28 z29 d30 s31 fr32 hg33 hc34 hb35
 have z36 := z29.trans z19
 have d37 := d30.trans d20
 have s40 := (fr32 2 (by decide)).trans s14
 have B41 := B23.trans (hb35.mono B23.size)
 have ne43 : g11 ≠ g28 := by have := x24.lt; omega
 have x42 := bx.below hb35 x24
 have lw45 : w.heap.size ≤ g28 := by have := B23.size; omega
 have x44 : bx 44 6 (mP (mR p1 k1) (mR q1 k1)) w27 g28 := ⟨c1, hc34, n1, u1, o1, (mP (mR p1 k1) (mR q1 k1)).mono _ _ _ (Ext.of B41) pf1⟩
 refine tl_new rfl rfl (run_alloc_op rfl zero_Interval) (by rw [z36]; decide) ?_
 intro a46 w47 g48 z49 d50 s51 fr52 hg53 hc54 hb55
 have z56 := z49.trans z36
 have d57 := d50.trans d37
 have s60 := (fr52 2 (by decide)).trans s40
 have s61 := (fr52 3 (by decide)).trans s31
 have B62 := B41.trans (hb55.mono B41.size)
 have ne64 : g11 ≠ g48 := by have := x42.lt; omega
 have x63 := bx.below hb55 x42
 have ne66 : g28 ≠ g48 := by have := x44.lt; omega
 have x65 := bx.below hb55 x44
 have lw68 : w.heap.size ≤ g48 := by have := B41.size; omega
 have x67 := bx_Interval hc54
 refine wpList_nil (then_normal ?_)
 refine wp_seq ?_
 refine wp_region_mono 4 [] (mG [(mP (mR p0 k0) (mR q0 k0)).b, (mP (mR (mnQ p0 q0) k0) (mR (mxQ p0 q0) k0)).b, (mP (mR p1 k1) (mR q1 k1)).b, (mP (mR (mnQ p1 q1) k1) (mR (mxQ p1 q1) k1)).b]) (by kernel_rfl) (by rw [z56]; kernel_rfl) (fun h => absurd rfl h) (mG_mono _) (ops_ok ⟨?_, ?_, ?_, ?_, trivial⟩) ?_
 · refine opk_pure rfl rfl fun a w hb hf hd => ?_
   obtain ⟨cs, h1, h2, h3, h4, h5⟩ := bx.below hb x63
   exact ⟨_, run_load_row _ _ rfl (ev ((hf 2 (out_of (by kernel_rfl))).trans s60)) h1 Tryz.underlying44 rfl (by rw [h2]; exact info_Interval), fun _ _ => h5⟩
 · refine opk_call rfl rfl fun a w hb hf hd => ?_
   have e0 : a.eval (.tmp 5) = sl a 5 := rfl
   exact ⟨98, #[sl a 5], run_call rfl rfl (fun _ _ => by kernel_rfl) (args_1 e0), (iv_ordered  (by omega) (mP_imp (m1' := (mR p0 k0)) (m2' := (mR q0 k0)) (fun _ h => h) (fun _ h => h) (hd.at 0 rfl rfl rfl rfl)) (hT.below (B62.trans (hb.mono B62.size)))).mono fun _ _ r => RetS.imp (fun _ _ h => fun _ _ => (mP_imp (fun _ h => (isR.mono h (by omega))) (fun _ h => (isR.mono h (by omega))) h)) r⟩
 · refine opk_pure rfl rfl fun a w hb hf hd => ?_
   obtain ⟨cs, h1, h2, h3, h4, h5⟩ := bx.below hb x65
   exact ⟨_, run_load_row _ _ rfl (ev ((hf 3 (out_of (by kernel_rfl))).trans s61)) h1 Tryz.underlying44 rfl (by rw [h2]; exact info_Interval), fun _ _ => h5⟩
 · refine opk_call rfl rfl fun a w hb hf hd => ?_
   have e0 : a.eval (.tmp 7) = sl a 7 := rfl
   exact ⟨98, #[sl a 7], run_call rfl rfl (fun _ _ => by kernel_rfl) (args_1 e0), (iv_ordered  (by omega) (mP_imp (m1' := (mR p1 k1)) (m2' := (mR q1 k1)) (fun _ h => h) (fun _ h => h) (hd.at 0 rfl rfl rfl rfl)) (hT.below (B62.trans (hb.mono B62.size)))).mono fun _ _ r => RetS.imp (fun _ _ h => fun _ _ => (mP_imp (fun _ h => (isR.mono h (by omega))) (fun _ h => (isR.mono h (by omega))) h)) r⟩
 intro a69 w70 ms71
 have B72 := B62.trans (ms71.b.mono B62.size)
 have z73 := ms71.sz.trans z56
 have d74 := ms71.df.trans d57
 have s75 := (ms71.fr 2 (out_of (by kernel_rfl))).trans s60
 have s76 := (ms71.fr 3 (out_of (by kernel_rfl))).trans s61
 have s77 := (ms71.fr 4 (out_of (by kernel_rfl))).trans s51
 have x78 := bx.below ms71.b x63
 have x79 := bx.below ms71.b x65
 have x80 := bx.below ms71.b x67
 have s81 : (mP (mR (mnQ p0 q0) k0) (mR (mxQ p0 q0) k0)).S w70 (sl a69 6) := ms71.g 1 _ 6 rfl (by decide) trivial rfl
 have s82 : (mP (mR (mnQ p1 q1) k1) (mR (mxQ p1 q1) k1)).S w70 (sl a69 8) := ms71.g 3 _ 8 rfl (by decide) trivial rfl
 refine tl_put rfl rfl rfl (m' := (mP (mR (mnQ p0 q0) k0) (mR (mxQ p0 q0) k0))) x78 (ev s75) s81 (mP.cv (fun _ h => (isR.cv h)) (fun _ h => (isR.cv h)) s81) info_Interval ?_
 intro w83 x84 ex85 ot86 bl87
 have B88 := bl87 w (by omega) B72
 have x89 := ot86 (by omega) x79
 have x90 := ot86 (by omega) x80
 have s91 := (mP (mR (mnQ p0 q0) k0) (mR (mxQ p0 q0) k0)).mono _ _ _ ex85 s81
 have s92 := (mP (mR (mnQ p1 q1) k1) (mR (mxQ p1 q1) k1)).mono _ _ _ ex85 s82
 refine tl_put rfl rfl rfl (m' := (mP (mR (mnQ p1 q1) k1) (mR (mxQ p1 q1) k1))) x89 (ev s76) s92 (mP.cv (fun _ h => (isR.cv h)) (fun _ h => (isR.cv h)) s92) info_Interval ?_
 intro w93 x94 ex95 ot96 bl97
 have B98 := bl97 w (by omega) B88
 have x99 := ot96 (by omega) x84
 have x100 := ot96 (by omega) x90
 have s101 := (mP (mR (mnQ p0 q0) k0) (mR (mxQ p0 q0) k0)).mono _ _ _ ex95 s91
 have s102 := (mP (mR (mnQ p1 q1) k1) (mR (mxQ p1 q1) k1)).mono _ _ _ ex95 s92
 refine wpList_nil (then_normal ?_)
 refine wp_seq ?_
 refine wp_region_mono 11 [] (mG [(mV (.pointer (some ⟨g11, 0, none⟩))).b, (mR (mnQ p0 q0) k0).b, (mV (.pointer (some ⟨g28, 0, none⟩))).b, (mR (mnQ p1 q1) k1).b, (mR (mnQ (mnQ p0 q0) (mnQ p1 q1)) (k0 + k1)).b, (mV (.pointer (some ⟨g11, 3, none⟩))).b, (mR (mxQ p0 q0) k0).b, (mV (.pointer (some ⟨g28, 3, none⟩))).b, (mR (mxQ p1 q1) k1).b, (mR (mxQ (mxQ p0 q0) (mxQ p1 q1)) (k0 + k1)).b, (mP (mC (mnQ (mnQ (mnQ p0 q0) (mnQ p1 q1)) (mxQ (mxQ p0 q0) (mxQ p1 q1))) (k0 + k1 + k0 + k1 + 1)) (mC (mxQ (mnQ (mnQ p0 q0) (mnQ p1 q1)) (mxQ (mxQ p0 q0) (mxQ p1 q1))) (k0 + k1 + k0 + k1 + 1))).b]) (by kernel_rfl) (by rw [z73]; kernel_rfl) (fun h => absurd rfl h) (mG_mono _) (ops_ok ⟨?_, ?_, ?_, ?_, ?_, ?_, ?_, ?_, ?_, ?_, ?_, trivial⟩) ?_
 · exact opk_pure rfl rfl fun a w hb hf hd => ⟨_, fa_Interval_0 rfl (ev ((hf 2 (out_of (by kernel_rfl))).trans s75)), fun _ _ => rfl⟩
 · refine opk_pure rfl rfl fun a w hb hf hd => ?_
   obtain ⟨x0, x1, x2, h1, h2⟩ := (bx.below hb x99).lo
   exact ⟨_, run_load_mid _ _ rfl (ev (hd.at 0 rfl rfl rfl rfl)) h1 Tryz.underlying26 rfl info_Rat, fun _ _ => h2⟩
 · exact opk_pure rfl rfl fun a w hb hf hd => ⟨_, fa_Interval_0 rfl (ev ((hf 3 (out_of (by kernel_rfl))).trans s76)), fun _ _ => rfl⟩
 · refine opk_pure rfl rfl fun a w hb hf hd => ?_
   obtain ⟨x0, x1, x2, h1, h2⟩ := (bx.below hb x94).lo
   exact ⟨_, run_load_mid _ _ rfl (ev (hd.at 0 rfl rfl rfl rfl)) h1 Tryz.underlying26 rfl info_Rat, fun _ _ => h2⟩
 · refine opk_call rfl rfl fun a w hb hf hd => ?_
   have e0 : a.eval (.tmp 10) = sl a 10 := rfl
   have e1 : a.eval (.tmp 12) = sl a 12 := rfl
   exact ⟨100, #[sl a 10, sl a 12], run_call rfl rfl (fun _ _ => by kernel_rfl) (args_2 e0 e1), (iv_lesser  (by omega) (by omega) (hd.at 0 rfl rfl rfl rfl) (hd.at 1 rfl rfl rfl rfl) (hT.below (B98.trans (hb.mono B98.size)))).mono fun _ _ r => RetS.imp (fun _ _ h => fun _ _ => (isR.mono h (by omega))) r⟩
 · exact opk_pure rfl rfl fun a w hb hf hd => ⟨_, fa_Interval_1 rfl (ev ((hf 2 (out_of (by kernel_rfl))).trans s75)), fun _ _ => rfl⟩
 · refine opk_pure rfl rfl fun a w hb hf hd => ?_
   obtain ⟨x0, x1, x2, h1, h2⟩ := (bx.below hb x99).hi
   exact ⟨_, run_load_mid _ _ rfl (ev (hd.at 0 rfl rfl rfl rfl)) h1 Tryz.underlying26 rfl info_Rat, fun _ _ => h2⟩
 · exact opk_pure rfl rfl fun a w hb hf hd => ⟨_, fa_Interval_1 rfl (ev ((hf 3 (out_of (by kernel_rfl))).trans s76)), fun _ _ => rfl⟩
 · refine opk_pure rfl rfl fun a w hb hf hd => ?_
   obtain ⟨x0, x1, x2, h1, h2⟩ := (bx.below hb x94).hi
   exact ⟨_, run_load_mid _ _ rfl (ev (hd.at 0 rfl rfl rfl rfl)) h1 Tryz.underlying26 rfl info_Rat, fun _ _ => h2⟩
 · refine opk_call rfl rfl fun a w hb hf hd => ?_
   have e0 : a.eval (.tmp 15) = sl a 15 := rfl
   have e1 : a.eval (.tmp 17) = sl a 17 := rfl
   exact ⟨99, #[sl a 15, sl a 17], run_call rfl rfl (fun _ _ => by kernel_rfl) (args_2 e0 e1), (iv_greater  (by omega) (by omega) (hd.at 0 rfl rfl rfl rfl) (hd.at 1 rfl rfl rfl rfl) (hT.below (B98.trans (hb.mono B98.size)))).mono fun _ _ r => RetS.imp (fun _ _ h => fun _ _ => (isR.mono h (by omega))) r⟩
 · refine opk_call rfl rfl fun a w hb hf hd => ?_
   have e0 : a.eval (.tmp 13) = sl a 13 := rfl
   have e1 : a.eval (.tmp 18) = sl a 18 := rfl
   exact ⟨43, #[sl a 13, sl a 18], run_call rfl rfl (fun _ _ => by kernel_rfl) (args_2 e0 e1), (iv_make  (by omega) (by omega) (hd.at 0 rfl rfl rfl rfl) (hd.at 1 rfl rfl rfl rfl) (hT.below (B98.trans (hb.mono B98.size)))).mono fun _ _ r => RetS.imp (fun _ _ h => fun _ _ => (mP_imp (fun _ h => (isC.mono h (by omega))) (fun _ h => (isC.mono h (by omega))) h)) r⟩
 intro a103 w104 ms105
 have B106 := B98.trans (ms105.b.mono B98.size)
 have d108 := ms105.df.trans d74
 have s111 := (ms105.fr 4 (out_of (by kernel_rfl))).trans s77
 have x112 := bx.below ms105.b x94
 have x113 := bx.below ms105.b x99
 have x114 := bx.below ms105.b x100
 have s115 : (mP (mC (mnQ (mnQ (mnQ p0 q0) (mnQ p1 q1)) (mxQ (mxQ p0 q0) (mxQ p1 q1))) (k0 + k1 + k0 + k1 + 1)) (mC (mxQ (mnQ (mnQ p0 q0) (mnQ p1 q1)) (mxQ (mxQ p0 q0) (mxQ p1 q1))) (k0 + k1 + k0 + k1 + 1))).S w104 (sl a103 19) := ms105.g 10 _ 19 rfl (by decide) trivial rfl
 refine tl_put rfl rfl rfl (m' := (mP (mC (mnQ (mnQ (mnQ p0 q0) (mnQ p1 q1)) (mxQ (mxQ p0 q0) (mxQ p1 q1))) (k0 + k1 + k0 + k1 + 1)) (mC (mxQ (mnQ (mnQ p0 q0) (mnQ p1 q1)) (mxQ (mxQ p0 q0) (mxQ p1 q1))) (k0 + k1 + k0 + k1 + 1)))) x114 (ev s111) s115 (mP.cv (fun _ h => (isC.cv h)) (fun _ h => (isC.cv h)) s115) info_Interval ?_
 intro w116 x117 ex118 ot119 bl120
 have B121 := bl120 w (by omega) B106
 have x122 := ot119 (by omega) x112
 have x123 := ot119 (by omega) x113
 have s124 := (mP (mC (mnQ (mnQ (mnQ p0 q0) (mnQ p1 q1)) (mxQ (mxQ p0 q0) (mxQ p1 q1))) (k0 + k1 + k0 + k1 + 1)) (mC (mxQ (mnQ (mnQ p0 q0) (mnQ p1 q1)) (mxQ (mxQ p0 q0) (mxQ p1 q1))) (k0 + k1 + k0 + k1 + 1))).mono _ _ _ ex118 s115
 refine wpList_nil (then_normal ?_)
 refine wp_ret ?_
 exact end_cell rfl d108 s111 x117 Tryz.underlying44 rfl info_Interval B121 (fun v h => (by rw [mn_eq hull_le, mx_eq hull_le] at h; exact mP_imp (fun _ h => isC.mono h (by omega)) (fun _ h => isC.mono h (by omega)) h))

theorem iv_meet {p0 q0 : Rat} {k0 : Nat} {p1 q1 : Rat} {k1 : Nat} {v0 : Value} {v1 : Value} {w : World} (hk0 : k0 ≤ 9999) (hk1 : k1 ≤ 9999) (pf0 : (mP (mR p0 k0) (mR q0 k0)).S w v0) (pf1 : (mP (mR p1 k1) (mR q1 k1)).S w v1) (hT : Tb w) :
   Calls Tryz.prog 28 #[v0, v1] w (RetS (mT (mP (mE (mxQ (mnQ p0 q0) (mnQ p1 q1)) (meE (mxQ (mnQ p0 q0) (mnQ p1 q1)) (mnQ (mxQ p0 q0) (mxQ p1 q1))) (k0 + k1 + k0 + k1 + 1)) (mE (mnQ (mxQ p0 q0) (mxQ p1 q1)) (meE (mxQ (mnQ p0 q0) (mnQ p1 q1)) (mnQ (mxQ p0 q0) (mxQ p1 q1))) (k0 + k1 + k0 + k1 + 1))) (mV (.bool (decide (meE (mxQ (mnQ p0 q0) (mnQ p1 q1)) (mnQ (mxQ p0 q0) (mxQ p1 q1)) = 0))))).S w) := by
 obtain ⟨c0, rfl, n0, u0, o0⟩ := (mP.cv (fun _ h => (isR.cv h)) (fun _ h => (isR.cv h)) pf0)
 obtain ⟨c1, rfl, n1, u1, o1⟩ := (mP.cv (fun _ h => (isR.cv h)) (fun _ h => (isR.cv h)) pf1)
 refine calls_abs 30 Tryz.func28 rfl rfl (by simp) ?_
 intro a0 z0 d0 ha
 have s0_0 : sl a0 0 = .agg c0 := ha 0 (by simp)
 have s0_1 : sl a0 1 = .agg c1 := ha 1 (by simp)
 have B0 : Below w.heap.size w w := Below.refl _ _
 refine wp_seq ?_
 refine wp_region_seq 0 (mG []) (by rw [z0]; kernel_rfl) (mG_mono _) (ops_ok trivial) ?_
 intro a1 w2 ms3
 have B4 := B0.trans (ms3.b.mono B0.size)
 have z5 := ms3.sz.trans z0
 have d6 := ms3.df.trans d0
 have s7 := (ms3.fr 0 (out_of (by kernel_rfl))).trans s0_0
 have s8 := (ms3.fr 1 (out_of (by kernel_rfl))).trans s0_1
 refine tl_new rfl rfl (run_box_op rfl (ev s7)) (by rw [z5]; decide) ?_
 intro a9 w10 g11 z12 d13 s14 fr15 hg16 hc17 hb18
 have z19 := z12.trans z5
 have d20 := d13.trans d6
 have s22 := (fr15 1 (by decide)).trans s8
 have B23 := B4.trans (hb18.mono B4.size)
 have lw25 : w.heap.size ≤ g11 := by have := B4.size; omega
 have x24 : bx 44 6 (mP (mR p0 k0) (mR q0 k0)) w10 g11 := ⟨c0, hc17, n0, u0, o0, (mP (mR p0 k0) (mR q0 k0)).mono _ _ _ (Ext.of B23) pf0⟩
 refine tl_new rfl rfl (run_box_op rfl (ev s22)) (by rw [z19]; decide) ?_
 intro a26 w27 g28 z29 d30 s31 fr32 hg33 hc34 hb35
 have z36 := z29.trans z19
 have d37 := d30.trans d20
 have s40 := (fr32 2 (by decide)).trans s14
 have B41 := B23.trans (hb35.mono B23.size)
 have ne43 : g11 ≠ g28 := by have := x24.lt; omega
 have x42 := bx.below hb35 x24
 have lw45 : w.heap.size ≤ g28 := by have := B23.size; omega
 have x44 : bx 44 6 (mP (mR p1 k1) (mR q1 k1)) w27 g28 := ⟨c1, hc34, n1, u1, o1, (mP (mR p1 k1) (mR q1 k1)).mono _ _ _ (Ext.of B41) pf1⟩
 refine tl_new rfl rfl (run_alloc_op rfl zero_Interval) (by rw [z36]; decide) ?_
 intro a46 w47 g48 z49 d50 s51 fr52 hg53 hc54 hb55
 have z56 := z49.trans z36
 have d57 := d50.trans d37
 have s60 := (fr52 2 (by decide)).trans s40
 have s61 := (fr52 3 (by decide)).trans s31
 have B62 := B41.trans (hb55.mono B41.size)
 have ne64 : g11 ≠ g48 := by have := x42.lt; omega
 have x63 := bx.below hb55 x42
 have ne66 : g28 ≠ g48 := by have := x44.lt; omega
 have x65 := bx.below hb55 x44
 have lw68 : w.heap.size ≤ g48 := by have := B41.size; omega
 have x67 := bx_Interval hc54
 refine tl_set rfl rfl (run_assign rfl) (by rw [z56]; decide) ?_
 intro a69 z70 d71 s72 fr73
 have z75 := z70.trans z56
 have d76 := d71.trans d57
 have s79 := (fr73 2 (by decide)).trans s60
 have s80 := (fr73 3 (by decide)).trans s61
 have s81 := (fr73 4 (by decide)).trans s51
 refine wpList_nil (then_normal ?_)
 refine wp_seq ?_
 refine wp_region_mono 4 [] (mG [(mP (mR p0 k0) (mR q0 k0)).b, (mP (mR (mnQ p0 q0) k0) (mR (mxQ p0 q0) k0)).b, (mP (mR p1 k1) (mR q1 k1)).b, (mP (mR (mnQ p1 q1) k1) (mR (mxQ p1 q1) k1)).b]) (by kernel_rfl) (by rw [z75]; kernel_rfl) (fun h => absurd rfl h) (mG_mono _) (ops_ok ⟨?_, ?_, ?_, ?_, trivial⟩) ?_
 · refine opk_pure rfl rfl fun a w hb hf hd => ?_
   obtain ⟨cs, h1, h2, h3, h4, h5⟩ := bx.below hb x63
   exact ⟨_, run_load_row _ _ rfl (ev ((hf 2 (out_of (by kernel_rfl))).trans s79)) h1 Tryz.underlying44 rfl (by rw [h2]; exact info_Interval), fun _ _ => h5⟩
 · refine opk_call rfl rfl fun a w hb hf hd => ?_
   have e0 : a.eval (.tmp 8) = sl a 8 := rfl
   exact ⟨98, #[sl a 8], run_call rfl rfl (fun _ _ => by kernel_rfl) (args_1 e0), (iv_ordered  (by omega) (mP_imp (m1' := (mR p0 k0)) (m2' := (mR q0 k0)) (fun _ h => h) (fun _ h => h) (hd.at 0 rfl rfl rfl rfl)) (hT.below (B62.trans (hb.mono B62.size)))).mono fun _ _ r => RetS.imp (fun _ _ h => fun _ _ => (mP_imp (fun _ h => (isR.mono h (by omega))) (fun _ h => (isR.mono h (by omega))) h)) r⟩
 · refine opk_pure rfl rfl fun a w hb hf hd => ?_
   obtain ⟨cs, h1, h2, h3, h4, h5⟩ := bx.below hb x65
   exact ⟨_, run_load_row _ _ rfl (ev ((hf 3 (out_of (by kernel_rfl))).trans s80)) h1 Tryz.underlying44 rfl (by rw [h2]; exact info_Interval), fun _ _ => h5⟩
 · refine opk_call rfl rfl fun a w hb hf hd => ?_
   have e0 : a.eval (.tmp 10) = sl a 10 := rfl
   exact ⟨98, #[sl a 10], run_call rfl rfl (fun _ _ => by kernel_rfl) (args_1 e0), (iv_ordered  (by omega) (mP_imp (m1' := (mR p1 k1)) (m2' := (mR q1 k1)) (fun _ h => h) (fun _ h => h) (hd.at 0 rfl rfl rfl rfl)) (hT.below (B62.trans (hb.mono B62.size)))).mono fun _ _ r => RetS.imp (fun _ _ h => fun _ _ => (mP_imp (fun _ h => (isR.mono h (by omega))) (fun _ h => (isR.mono h (by omega))) h)) r⟩
 intro a82 w83 ms84
 have B85 := B62.trans (ms84.b.mono B62.size)
 have z86 := ms84.sz.trans z75
 have d87 := ms84.df.trans d76
 have s88 := (ms84.fr 2 (out_of (by kernel_rfl))).trans s79
 have s89 := (ms84.fr 3 (out_of (by kernel_rfl))).trans s80
 have s90 := (ms84.fr 4 (out_of (by kernel_rfl))).trans s81
 have x92 := bx.below ms84.b x63
 have x93 := bx.below ms84.b x65
 have x94 := bx.below ms84.b x67
 have s95 : (mP (mR (mnQ p0 q0) k0) (mR (mxQ p0 q0) k0)).S w83 (sl a82 9) := ms84.g 1 _ 9 rfl (by decide) trivial rfl
 have s96 : (mP (mR (mnQ p1 q1) k1) (mR (mxQ p1 q1) k1)).S w83 (sl a82 11) := ms84.g 3 _ 11 rfl (by decide) trivial rfl
 refine tl_put rfl rfl rfl (m' := (mP (mR (mnQ p0 q0) k0) (mR (mxQ p0 q0) k0))) x92 (ev s88) s95 (mP.cv (fun _ h => (isR.cv h)) (fun _ h => (isR.cv h)) s95) info_Interval ?_
 intro w97 x98 ex99 ot100 bl101
 have B102 := bl101 w (by omega) B85
 have x103 := ot100 (by omega) x93
 have x104 := ot100 (by omega) x94
 have s105 := (mP (mR (mnQ p0 q0) k0) (mR (mxQ p0 q0) k0)).mono _ _ _ ex99 s95
 have s106 := (mP (mR (mnQ p1 q1) k1) (mR (mxQ p1 q1) k1)).mono _ _ _ ex99 s96
 refine tl_put rfl rfl rfl (m' := (mP (mR (mnQ p1 q1) k1) (mR (mxQ p1 q1) k1))) x103 (ev s89) s106 (mP.cv (fun _ h => (isR.cv h)) (fun _ h => (isR.cv h)) s106) info_Interval ?_
 intro w107 x108 ex109 ot110 bl111
 have B112 := bl111 w (by omega) B102
 have x113 := ot110 (by omega) x98
 have x114 := ot110 (by omega) x104
 have s115 := (mP (mR (mnQ p0 q0) k0) (mR (mxQ p0 q0) k0)).mono _ _ _ ex109 s105
 have s116 := (mP (mR (mnQ p1 q1) k1) (mR (mxQ p1 q1) k1)).mono _ _ _ ex109 s106
 refine wpList_nil (then_normal ?_)
 refine wp_seq ?_
 refine wp_region_mono 12 [] (mG [(mV (.pointer (some ⟨g11, 0, none⟩))).b, (mR (mnQ p0 q0) k0).b, (mV (.pointer (some ⟨g28, 0, none⟩))).b, (mR (mnQ p1 q1) k1).b, (mR (mxQ (mnQ p0 q0) (mnQ p1 q1)) (k0 + k1)).b, (mV (.pointer (some ⟨g11, 3, none⟩))).b, (mR (mxQ p0 q0) k0).b, (mV (.pointer (some ⟨g28, 3, none⟩))).b, (mR (mxQ p1 q1) k1).b, (mR (mnQ (mxQ p0 q0) (mxQ p1 q1)) (k0 + k1)).b, (mNew w107.heap.size 26 3), (mNew w107.heap.size 26 3)]) (by kernel_rfl) (by rw [z86]; kernel_rfl) (fun h => absurd rfl h) (mG_mono _) (ops_ok ⟨?_, ?_, ?_, ?_, ?_, ?_, ?_, ?_, ?_, ?_, ?_, ?_, trivial⟩) ?_
 · exact opk_pure rfl rfl fun a w hb hf hd => ⟨_, fa_Interval_0 rfl (ev ((hf 2 (out_of (by kernel_rfl))).trans s88)), fun _ _ => rfl⟩
 · refine opk_pure rfl rfl fun a w hb hf hd => ?_
   obtain ⟨x0, x1, x2, h1, h2⟩ := (bx.below hb x113).lo
   exact ⟨_, run_load_mid _ _ rfl (ev (hd.at 0 rfl rfl rfl rfl)) h1 Tryz.underlying26 rfl info_Rat, fun _ _ => h2⟩
 · exact opk_pure rfl rfl fun a w hb hf hd => ⟨_, fa_Interval_0 rfl (ev ((hf 3 (out_of (by kernel_rfl))).trans s89)), fun _ _ => rfl⟩
 · refine opk_pure rfl rfl fun a w hb hf hd => ?_
   obtain ⟨x0, x1, x2, h1, h2⟩ := (bx.below hb x108).lo
   exact ⟨_, run_load_mid _ _ rfl (ev (hd.at 0 rfl rfl rfl rfl)) h1 Tryz.underlying26 rfl info_Rat, fun _ _ => h2⟩
 · refine opk_call rfl rfl fun a w hb hf hd => ?_
   have e0 : a.eval (.tmp 13) = sl a 13 := rfl
   have e1 : a.eval (.tmp 15) = sl a 15 := rfl
   exact ⟨99, #[sl a 13, sl a 15], run_call rfl rfl (fun _ _ => by kernel_rfl) (args_2 e0 e1), (iv_greater  (by omega) (by omega) (hd.at 0 rfl rfl rfl rfl) (hd.at 1 rfl rfl rfl rfl) (hT.below (B112.trans (hb.mono B112.size)))).mono fun _ _ r => RetS.imp (fun _ _ h => fun _ _ => (isR.mono h (by omega))) r⟩
 · exact opk_pure rfl rfl fun a w hb hf hd => ⟨_, fa_Interval_1 rfl (ev ((hf 2 (out_of (by kernel_rfl))).trans s88)), fun _ _ => rfl⟩
 · refine opk_pure rfl rfl fun a w hb hf hd => ?_
   obtain ⟨x0, x1, x2, h1, h2⟩ := (bx.below hb x113).hi
   exact ⟨_, run_load_mid _ _ rfl (ev (hd.at 0 rfl rfl rfl rfl)) h1 Tryz.underlying26 rfl info_Rat, fun _ _ => h2⟩
 · exact opk_pure rfl rfl fun a w hb hf hd => ⟨_, fa_Interval_1 rfl (ev ((hf 3 (out_of (by kernel_rfl))).trans s89)), fun _ _ => rfl⟩
 · refine opk_pure rfl rfl fun a w hb hf hd => ?_
   obtain ⟨x0, x1, x2, h1, h2⟩ := (bx.below hb x108).hi
   exact ⟨_, run_load_mid _ _ rfl (ev (hd.at 0 rfl rfl rfl rfl)) h1 Tryz.underlying26 rfl info_Rat, fun _ _ => h2⟩
 · refine opk_call rfl rfl fun a w hb hf hd => ?_
   have e0 : a.eval (.tmp 18) = sl a 18 := rfl
   have e1 : a.eval (.tmp 20) = sl a 20 := rfl
   exact ⟨100, #[sl a 18, sl a 20], run_call rfl rfl (fun _ _ => by kernel_rfl) (args_2 e0 e1), (iv_lesser  (by omega) (by omega) (hd.at 0 rfl rfl rfl rfl) (hd.at 1 rfl rfl rfl rfl) (hT.below (B112.trans (hb.mono B112.size)))).mono fun _ _ r => RetS.imp (fun _ _ h => fun _ _ => (isR.mono h (by omega))) r⟩
 · refine opk_alloc rfl fun a w hb hf hd => ⟨_, _, run_alloc_op rfl zero_Rat, below_alloc _ _, fun _ _ => ⟨_, rfl, hb.size, bx_Rat (heap_alloc_at _ _)⟩, fun _ => ⟨_, rfl, Nat.le_refl _, by simp⟩⟩
 · refine opk_alloc rfl fun a w hb hf hd => ⟨_, _, run_alloc_op rfl zero_Rat, below_alloc _ _, fun _ _ => ⟨_, rfl, hb.size, bx_Rat (heap_alloc_at _ _)⟩, fun _ => ⟨_, rfl, Nat.le_refl _, by simp⟩⟩
 intro a117 w118 ms119
 have B120 := B112.trans (ms119.b.mono B112.size)
 have z121 := ms119.sz.trans z86
 have d122 := ms119.df.trans d87
 have s125 := (ms119.fr 4 (out_of (by kernel_rfl))).trans s90
 have x127 := bx.below ms119.b x108
 have x128 := bx.below ms119.b x113
 have x129 := bx.below ms119.b x114
 have s130 : (mR (mxQ (mnQ p0 q0) (mnQ p1 q1)) (k0 + k1)).S w118 (sl a117 16) := ms119.g 4 _ 16 rfl (by decide) trivial rfl
 have s131 : (mR (mnQ (mxQ p0 q0) (mxQ p1 q1)) (k0 + k1)).S w118 (sl a117 21) := ms119.g 9 _ 21 rfl (by decide) trivial rfl
 obtain ⟨g133, s132, e135, x134⟩ := ms119.g 10 _ 6 rfl (by decide) trivial rfl
 have ne136 : g11 ≠ g133 := by have := x113.lt; omega
 have ne137 : g28 ≠ g133 := by have := x108.lt; omega
 have ne138 : g48 ≠ g133 := by have := x114.lt; omega
 have lw139 : w.heap.size ≤ g133 := by have := B112.size; omega
 obtain ⟨g141, s140, e143, x142⟩ := ms119.g 11 _ 7 rfl (by decide) trivial rfl
 have ne144 : g11 ≠ g141 := by have := x113.lt; omega
 have ne145 : g28 ≠ g141 := by have := x108.lt; omega
 have ne146 : g48 ≠ g141 := by have := x114.lt; omega
 have lw147 : w.heap.size ≤ g141 := by have := B112.size; omega
 have ne148 : g133 ≠ g141 := fun e => ms119.ne 10 _ 6 11 _ 7 rfl (by decide) trivial rfl rfl rfl (by decide) trivial rfl rfl (by decide) (by rw [s132, s140, e])
 refine tl_put rfl rfl rfl (m' := (mR (mxQ (mnQ p0 q0) (mnQ p1 q1)) (k0 + k1))) x134 (ev s132) s130 (isR.cv s130) info_Rat ?_
 intro w149 x150 ex151 ot152 bl153
 have B154 := bl153 w (by omega) B120
 have x155 := ot152 (by omega) x127
 have x156 := ot152 (by omega) x128
 have x157 := ot152 (by omega) x129
 have x158 := ot152 (by omega) x142
 have s159 := (mR (mxQ (mnQ p0 q0) (mnQ p1 q1)) (k0 + k1)).mono _ _ _ ex151 s130
 have s160 := (mR (mnQ (mxQ p0 q0) (mxQ p1 q1)) (k0 + k1)).mono _ _ _ ex151 s131
 refine tl_put rfl rfl rfl (m' := (mR (mnQ (mxQ p0 q0) (mxQ p1 q1)) (k0 + k1))) x158 (ev s140) s160 (isR.cv s160) info_Rat ?_
 intro w161 x162 ex163 ot164 bl165
 have B166 := bl165 w (by omega) B154
 have x167 := ot164 (by omega) x150
 have x168 := ot164 (by omega) x155
 have x169 := ot164 (by omega) x156
 have x170 := ot164 (by omega) x157
 have s171 := (mR (mxQ (mnQ p0 q0) (mnQ p1 q1)) (k0 + k1)).mono _ _ _ ex163 s159
 have s172 := (mR (mnQ (mxQ p0 q0) (mxQ p1 q1)) (k0 + k1)).mono _ _ _ ex163 s160
 refine wpList_nil (then_normal ?_)
 refine wp_seq ?_
 refine wp_seq ?_
 refine wp_region_seq 4 (mG [(mR (mxQ (mnQ p0 q0) (mnQ p1 q1)) (k0 + k1)).b, (mR (mnQ (mxQ p0 q0) (mxQ p1 q1)) (k0 + k1)).b, (mV (.int .i64 (cmpQ (mxQ (mnQ p0 q0) (mnQ p1 q1)) (mnQ (mxQ p0 q0) (mxQ p1 q1))))).b, (mV (.bool (decide (0 < (cmpQ (mxQ (mnQ p0 q0) (mnQ p1 q1)) (mnQ (mxQ p0 q0) (mxQ p1 q1))))))).b]) (by rw [z121]; kernel_rfl) (mG_mono _) (ops_ok ⟨?_, ?_, ?_, ?_, trivial⟩) ?_
 · refine opk_pure rfl rfl fun a w hb hf hd => ?_
   obtain ⟨cs, h1, h2, h3, h4, h5⟩ := bx.below hb x167
   exact ⟨_, run_load_row _ _ rfl (ev ((hf 6 (out_of (by kernel_rfl))).trans s132)) h1 Tryz.underlying26 rfl (by rw [h2]; exact info_Rat), fun _ _ => h5⟩
 · refine opk_pure rfl rfl fun a w hb hf hd => ?_
   obtain ⟨cs, h1, h2, h3, h4, h5⟩ := bx.below hb x162
   exact ⟨_, run_load_row _ _ rfl (ev ((hf 7 (out_of (by kernel_rfl))).trans s140)) h1 Tryz.underlying26 rfl (by rw [h2]; exact info_Rat), fun _ _ => h5⟩
 · refine opk_call rfl rfl fun a w hb hf hd => ?_
   have e0 : a.eval (.tmp 22) = sl a 22 := rfl
   have e1 : a.eval (.tmp 23) = sl a 23 := rfl
   exact ⟨21, #[sl a 22, sl a 23], run_call rfl rfl (fun _ _ => by kernel_rfl) (args_2 e0 e1), (c_cmp (by omega) (by omega) (hd.at 0 rfl rfl rfl rfl) (hd.at 1 rfl rfl rfl rfl) (hT.below (B166.trans (hb.mono B166.size)))).mono fun _ _ r => RetS.imp (fun _ _ h => fun _ _ => h) r⟩
 · exact opk_pure rfl rfl fun a w hb hf hd => ⟨_, run_gtr rfl (ev (hd.at 0 rfl rfl rfl rfl)) rfl, fun _ _ => rfl⟩
 intro a173 w174 ms175
 have B176 := B166.trans (ms175.b.mono B166.size)
 have z177 := ms175.sz.trans z121
 have d178 := ms175.df.trans d122
 have s181 := (ms175.fr 4 (out_of (by kernel_rfl))).trans s125
 have s183 := (ms175.fr 6 (out_of (by kernel_rfl))).trans s132
 have s184 := (ms175.fr 7 (out_of (by kernel_rfl))).trans s140
 have x185 := bx.below ms175.b x162
 have x186 := bx.below ms175.b x167
 have x187 := bx.below ms175.b x168
 have x188 := bx.below ms175.b x169
 have x189 := bx.below ms175.b x170
 have s190 : sl a173 25 = .bool (decide (0 < (cmpQ (mxQ (mnQ p0 q0) (mnQ p1 q1)) (mnQ (mxQ p0 q0) (mxQ p1 q1))))) := ms175.g 3 _ 25 rfl (by decide) trivial rfl
 refine wpList_nil (then_normal ?_)
 refine cond_b (decide (0 < (cmpQ (mxQ (mnQ p0 q0) (mnQ p1 q1)) (mnQ (mxQ p0 q0) (mxQ p1 q1))))) (ev s190) (fun hb191 => ?_) (fun hb191 => ?_)
 · skip
   have hb191p := of_decide_eq_true hb191
   refine wp_seq ?_
   refine wp_region_seq 1 (mG [(mP mZ mZ).b]) (by rw [z177]; kernel_rfl) (mG_mono _) (ops_ok ⟨?_, trivial⟩) ?_
   · exact opk_pure rfl rfl fun a w hb hf hd => ⟨_, run_build_op _ _ rfl built_zero6, fun _ _ => zero6 w⟩
   intro a192 w193 ms194
   have B195 := B176.trans (ms194.b.mono B176.size)
   have z196 := ms194.sz.trans z177
   have d197 := ms194.df.trans d178
   have s200 := (ms194.fr 4 (out_of (by kernel_rfl))).trans s181
   have x204 := bx.below ms194.b x185
   have x205 := bx.below ms194.b x186
   have x206 := bx.below ms194.b x187
   have x207 := bx.below ms194.b x188
   have x208 := bx.below ms194.b x189
   have s209 : (mP mZ mZ).S w193 (sl a192 26) := ms194.g 0 _ 26 rfl (by decide) trivial rfl
   refine tl_put rfl rfl rfl (m' := (mP mZ mZ)) x208 (ev s200) s209 (mP.cv (fun _ h => (isZ.cv h)) (fun _ h => (isZ.cv h)) s209) info_Interval ?_
   intro w210 x211 ex212 ot213 bl214
   have B215 := bl214 w (by omega) B195
   have x216 := ot213 (by omega) x204
   have x217 := ot213 (by omega) x205
   have x218 := ot213 (by omega) x206
   have x219 := ot213 (by omega) x207
   have s220 := (mP mZ mZ).mono _ _ _ ex212 s209
   refine tl_set rfl rfl (run_assign rfl) (by rw [z196]; decide) ?_
   intro a221 z222 d223 s224 fr225
   have s226 : sl a221 5 = .bool false := s224.trans rfl
   have d228 := d223.trans d197
   have s231 := (fr225 4 (by decide)).trans s200
   refine wpList_nil (then_normal ?_)
   refine wp_ret ?_
   exact end_cell_tmp rfl d228 s231 x211 Tryz.underlying44 rfl info_Interval B215 (fun v h => ⟨v, _, rfl, (mP_imp (fun _ h => isZ.e (by rw [meE_t hb191]; decide) h) (fun _ h => isZ.e (by rw [meE_t hb191]; decide) h) h), (s226).trans (by first | (rw [meE_t (by assumption)]; rfl) | (rw [meE_f (by assumption)]; rfl))⟩)
 · skip
   have hb191p := of_decide_eq_false hb191
   refine wp_skip (then_normal ?_)
   refine wp_seq ?_
   refine wp_region_seq 3 (mG [(mR (mxQ (mnQ p0 q0) (mnQ p1 q1)) (k0 + k1)).b, (mR (mnQ (mxQ p0 q0) (mxQ p1 q1)) (k0 + k1)).b, (mP (mC (mnQ (mxQ (mnQ p0 q0) (mnQ p1 q1)) (mnQ (mxQ p0 q0) (mxQ p1 q1))) (k0 + k1 + k0 + k1 + 1)) (mC (mxQ (mxQ (mnQ p0 q0) (mnQ p1 q1)) (mnQ (mxQ p0 q0) (mxQ p1 q1))) (k0 + k1 + k0 + k1 + 1))).b]) (by rw [z177]; kernel_rfl) (mG_mono _) (ops_ok ⟨?_, ?_, ?_, trivial⟩) ?_
   · refine opk_pure rfl rfl fun a w hb hf hd => ?_
     obtain ⟨cs, h1, h2, h3, h4, h5⟩ := bx.below hb x186
     exact ⟨_, run_load_row _ _ rfl (ev ((hf 6 (out_of (by kernel_rfl))).trans s183)) h1 Tryz.underlying26 rfl (by rw [h2]; exact info_Rat), fun _ _ => h5⟩
   · refine opk_pure rfl rfl fun a w hb hf hd => ?_
     obtain ⟨cs, h1, h2, h3, h4, h5⟩ := bx.below hb x185
     exact ⟨_, run_load_row _ _ rfl (ev ((hf 7 (out_of (by kernel_rfl))).trans s184)) h1 Tryz.underlying26 rfl (by rw [h2]; exact info_Rat), fun _ _ => h5⟩
   · refine opk_call rfl rfl fun a w hb hf hd => ?_
     have e0 : a.eval (.tmp 27) = sl a 27 := rfl
     have e1 : a.eval (.tmp 28) = sl a 28 := rfl
     exact ⟨43, #[sl a 27, sl a 28], run_call rfl rfl (fun _ _ => by kernel_rfl) (args_2 e0 e1), (iv_make  (by omega) (by omega) (hd.at 0 rfl rfl rfl rfl) (hd.at 1 rfl rfl rfl rfl) (hT.below (B176.trans (hb.mono B176.size)))).mono fun _ _ r => RetS.imp (fun _ _ h => fun _ _ => (mP_imp (fun _ h => (isC.mono h (by omega))) (fun _ h => (isC.mono h (by omega))) h)) r⟩
   intro a236 w237 ms238
   have B239 := B176.trans (ms238.b.mono B176.size)
   have z240 := ms238.sz.trans z177
   have d241 := ms238.df.trans d178
   have s244 := (ms238.fr 4 (out_of (by kernel_rfl))).trans s181
   have x248 := bx.below ms238.b x185
   have x249 := bx.below ms238.b x186
   have x250 := bx.below ms238.b x187
   have x251 := bx.below ms238.b x188
   have x252 := bx.below ms238.b x189
   have s253 : (mP (mC (mnQ (mxQ (mnQ p0 q0) (mnQ p1 q1)) (mnQ (mxQ p0 q0) (mxQ p1 q1))) (k0 + k1 + k0 + k1 + 1)) (mC (mxQ (mxQ (mnQ p0 q0) (mnQ p1 q1)) (mnQ (mxQ p0 q0) (mxQ p1 q1))) (k0 + k1 + k0 + k1 + 1))).S w237 (sl a236 29) := ms238.g 2 _ 29 rfl (by decide) trivial rfl
   refine tl_put rfl rfl rfl (m' := (mP (mC (mnQ (mxQ (mnQ p0 q0) (mnQ p1 q1)) (mnQ (mxQ p0 q0) (mxQ p1 q1))) (k0 + k1 + k0 + k1 + 1)) (mC (mxQ (mxQ (mnQ p0 q0) (mnQ p1 q1)) (mnQ (mxQ p0 q0) (mxQ p1 q1))) (k0 + k1 + k0 + k1 + 1)))) x252 (ev s244) s253 (mP.cv (fun _ h => (isC.cv h)) (fun _ h => (isC.cv h)) s253) info_Interval ?_
   intro w254 x255 ex256 ot257 bl258
   have B259 := bl258 w (by omega) B239
   have x260 := ot257 (by omega) x248
   have x261 := ot257 (by omega) x249
   have x262 := ot257 (by omega) x250
   have x263 := ot257 (by omega) x251
   have s264 := (mP (mC (mnQ (mxQ (mnQ p0 q0) (mnQ p1 q1)) (mnQ (mxQ p0 q0) (mxQ p1 q1))) (k0 + k1 + k0 + k1 + 1)) (mC (mxQ (mxQ (mnQ p0 q0) (mnQ p1 q1)) (mnQ (mxQ p0 q0) (mxQ p1 q1))) (k0 + k1 + k0 + k1 + 1))).mono _ _ _ ex256 s253
   refine tl_set rfl rfl (run_assign rfl) (by rw [z240]; decide) ?_
   intro a265 z266 d267 s268 fr269
   have s270 : sl a265 5 = .bool true := s268.trans rfl
   have d272 := d267.trans d241
   have s275 := (fr269 4 (by decide)).trans s244
   refine wpList_nil (then_normal ?_)
   refine wp_ret ?_
   exact end_cell_tmp rfl d272 s275 x255 Tryz.underlying44 rfl info_Interval B259 (fun v h => ⟨v, _, rfl, (mP_imp (fun _ h => isE.mono (isC.e (meE_f hb191) (isC.of h (ord_f hb191).1)) (by omega)) (fun _ h => isE.mono (isC.e (meE_f hb191) (isC.of h (ord_f hb191).2)) (by omega)) h), (s270).trans (by first | (rw [meE_t (by assumption)]; rfl) | (rw [meE_f (by assumption)]; rfl))⟩)

theorem k_smallon {x y : Bool} {v0 : Value} {w : World}  (pf0 : (mP (mS x) (mS y)).S w v0) :
   Calls Tryz.prog 24 #[v0] w (RetS (mV (.bool (x && y))).S w) := by
 obtain ⟨c0, rfl, n0, u0, o0⟩ := (mP.cv (fun _ h => (isS.cv h)) (fun _ h => (isS.cv h)) pf0)
 refine calls_abs 11 Tryz.func24 rfl rfl (by simp) ?_
 intro a0 z0 d0 ha
 have s0_0 : sl a0 0 = .agg c0 := ha 0 (by simp)
 have B0 : Below w.heap.size w w := Below.refl _ _
 refine wp_seq ?_
 refine wp_region_seq 0 (mG []) (by rw [z0]; kernel_rfl) (mG_mono _) (ops_ok trivial) ?_
 intro a1 w2 ms3
 have B4 := B0.trans (ms3.b.mono B0.size)
 have z5 := ms3.sz.trans z0
 have d6 := ms3.df.trans d0
 have s7 := (ms3.fr 0 (out_of (by kernel_rfl))).trans s0_0
 refine tl_new rfl rfl (run_box_op rfl (ev s7)) (by rw [z5]; decide) ?_
 intro a8 w9 g10 z11 d12 s13 fr14 hg15 hc16 hb17
 have z18 := z11.trans z5
 have d19 := d12.trans d6
 have B21 := B4.trans (hb17.mono B4.size)
 have lw23 : w.heap.size ≤ g10 := by have := B4.size; omega
 have x22 : bx 44 6 (mP (mS x) (mS y)) w9 g10 := ⟨c0, hc16, n0, u0, o0, (mP (mS x) (mS y)).mono _ _ _ (Ext.of B21) pf0⟩
 refine tl_set rfl rfl (run_assign rfl) (by rw [z18]; decide) ?_
 intro a24 z25 d26 s27 fr28
 have z30 := z25.trans z18
 have d31 := d26.trans d19
 have s33 := (fr28 1 (by decide)).trans s13
 refine wpList_nil (then_normal ?_)
 refine wp_seq ?_
 refine wp_region_seq 8 (mG [(mV (.pointer (some ⟨g10, 0, none⟩))).b, (mS x).b, (mV (.bool x)).b, (mV (.bool x)).b, (mIf x (mV (.pointer (some ⟨g10, 3, none⟩)))).b, (mIf x (mS y)).b, (mIf x (mV (.bool y))).b, (mV (.bool (x && y))).b]) (by rw [z30]; kernel_rfl) (mG_mono _) (ops_ok ⟨?_, ?_, ?_, ?_, ?_, ?_, ?_, ?_, trivial⟩) ?_
 · exact opk_pure rfl rfl fun a w hb hf hd => ⟨_, fa_Interval_0 rfl (ev ((hf 1 (out_of (by kernel_rfl))).trans s33)), fun _ _ => rfl⟩
 · refine opk_pure rfl rfl fun a w hb hf hd => ?_
   obtain ⟨x0, x1, x2, h1, h2⟩ := (bx.below hb x22).lo
   exact ⟨_, run_load_mid _ _ rfl (ev (hd.at 0 rfl rfl rfl rfl)) h1 Tryz.underlying26 rfl info_Rat, fun _ _ => h2⟩
 · refine opk_call rfl rfl fun a w hb hf hd => ?_
   have e0 : a.eval (.tmp 4) = sl a 4 := rfl
   exact ⟨9, #[sl a 4], run_call rfl rfl (fun _ _ => by kernel_rfl) (args_1 e0), (k_small (hd.at 0 rfl rfl rfl rfl)).mono fun _ _ r => RetS.imp (fun _ _ h => fun _ _ => h) r⟩
 · exact opk_pure rfl rfl fun a w hb hf hd => ⟨_, run_move rfl, fun _ _ => (hd.at 0 rfl rfl rfl rfl)⟩
 · refine opk_guard x rfl rfl rfl rfl (by rw [z30]; decide) (fun a w hb hf hd => (hd.at 0 rfl rfl rfl rfl)) (fun hne _ hγ => absurd hγ hne) (fun hγ => ?_)
   exact opk_pure rfl rfl fun a w hb hf hd => ⟨_, fa_Interval_1 rfl (ev ((hf 1 (out_of (by kernel_rfl))).trans s33)), fun _ _ _ => rfl⟩
 · refine opk_guard x rfl rfl rfl rfl (by rw [z30]; decide) (fun a w hb hf hd => (hd.at 1 rfl rfl rfl rfl)) (fun hne _ hγ => absurd hγ hne) (fun hγ => ?_)
   refine opk_pure rfl rfl fun a w hb hf hd => ?_
   obtain ⟨x0, x1, x2, h1, h2⟩ := (bx.below hb x22).hi
   exact ⟨_, run_load_mid _ _ rfl (ev ((hd.at 0 rfl rfl rfl rfl) hγ)) h1 Tryz.underlying26 rfl info_Rat, fun _ _ _ => h2⟩
 · refine opk_guard x rfl rfl rfl rfl (by rw [z30]; decide) (fun a w hb hf hd => (hd.at 1 rfl rfl rfl rfl)) (fun hne _ hγ => absurd hγ hne) (fun hγ => ?_)
   refine opk_call rfl rfl fun a w hb hf hd => ?_
   have e0 : a.eval (.tmp 8) = sl a 8 := rfl
   exact ⟨9, #[sl a 8], run_call rfl rfl (fun _ _ => by kernel_rfl) (args_1 e0), (k_small ((hd.at 0 rfl rfl rfl rfl) hγ)).mono fun _ _ r => RetS.imp (fun _ _ h => fun _ _ _ => h) r⟩
 · exact opk_pure rfl rfl fun a w hb hf hd => ⟨_, run_pick rfl (ev (hd.at 0 rfl rfl rfl rfl)), fun _ _ => pick_and (hd.at 1 rfl rfl rfl rfl)⟩
 intro a34 w35 ms36
 have B37 := B21.trans (ms36.b.mono B21.size)
 have z38 := ms36.sz.trans z30
 have d39 := ms36.df.trans d31
 have x40 := bx.below ms36.b x22
 have s41 : sl a34 10 = .bool (x && y) := ms36.g 7 _ 10 rfl (by decide) trivial rfl
 refine tl_set rfl rfl (run_assign rfl) (by rw [z38]; decide) ?_
 intro a42 z43 d44 s45 fr46
 have s47 := s45.trans s41
 have d49 := d44.trans d39
 refine wpList_nil (then_normal ?_)
 refine wp_ret ?_
 exact end_tmp rfl d49 B37 s47
end Go.Proofs.YtbjijmjhlpkomaaGreatDoor

namespace Go.Proofs.YtbjijmjhlpkomaaGreatDoor
open Go.RowKit Num

def ext (qs : Nat → Rat) (i l g : Nat) : Prop := i ≤ 4 ∧ l < 4 ∧ g < 4 ∧ (∀ j, j < i → qs l ≤ qs j) ∧ (∀ j, j < i → qs j ≤ qs g)
theorem ext_init (qs : Nat → Rat) : ext qs 0 0 0 := ⟨by omega, by omega, by omega, fun j hj => by omega, fun j hj => by omega⟩
def XL (qs : Nat → Rat) (i l l' : Nat) : Prop := (l' = i ∧ qs i < qs l) ∨ (l' = l ∧ qs l ≤ qs i)
def XG (qs : Nat → Rat) (i g g' : Nat) : Prop := (g' = i ∧ qs g ≤ qs i) ∨ (g' = g ∧ qs i ≤ qs g)
theorem xl_t {qs : Nat → Rat} {i l : Nat} (h : cmpQ (qs i) (qs l) < 0) : XL qs i l i := by
 refine Or.inl ⟨rfl, ?_⟩
 have h1 := @cmpq_pos (qs l) (qs i)
 have h2 := cmpQ_swap (qs i) (qs l)
 exact h1.1 (by omega)
theorem xl_f {qs : Nat → Rat} {i l : Nat} (h : ¬ cmpQ (qs i) (qs l) < 0) : XL qs i l l := Or.inr ⟨rfl, Rat.not_lt.1 (cmpq_ge.1 (by omega))⟩
theorem xg_t {qs : Nat → Rat} {i g : Nat} (h : 0 ≤ cmpQ (qs i) (qs g)) : XG qs i g i := Or.inl ⟨rfl, Rat.not_lt.1 (cmpq_ge.1 h)⟩
theorem xg_f {qs : Nat → Rat} {i g : Nat} (h : ¬ 0 ≤ cmpQ (qs i) (qs g)) : XG qs i g g := Or.inr ⟨rfl, Rat.not_lt.1 (cmpq_le.1 (by omega))⟩
theorem ext_step {qs : Nat → Rat} {i l g l' g' : Nat} (h : ext qs i l g) (hi : i < 4) (h1 : XL qs i l l') (h2 : XG qs i g g') : ext qs (i + 1) l' g' := by
 obtain ⟨e1, e2, e3, e4, e5⟩ := h
 refine ⟨by omega, ?_, ?_, fun j hj => ?_, fun j hj => ?_⟩
 · rcases h1 with ⟨rfl, _⟩ | ⟨rfl, _⟩ <;> omega
 · rcases h2 with ⟨rfl, _⟩ | ⟨rfl, _⟩ <;> omega
 · rcases h1 with ⟨rfl, h⟩ | ⟨rfl, h⟩
   · by_cases hj' : j < l'
     · exact Rat.le_trans (Rat.le_of_lt h) (e4 j hj')
     · obtain rfl : j = l' := by omega
       exact Rat.le_refl
   · by_cases hj' : j < i
     · exact e4 j hj'
     · obtain rfl : j = i := by omega
       exact h
 · rcases h2 with ⟨rfl, h⟩ | ⟨rfl, h⟩
   · by_cases hj' : j < g'
     · exact Rat.le_trans (e5 j hj') h
     · obtain rfl : j = g' := by omega
       exact Rat.le_refl
   · by_cases hj' : j < i
     · exact e5 j hj'
     · obtain rfl : j = i := by omega
       exact h
theorem mn_cases (p q : Rat) : mnQ p q = p ∨ mnQ p q = q := by unfold mnQ; split <;> simp
theorem mx_cases (p q : Rat) : mxQ p q = p ∨ mxQ p q = q := by unfold mxQ; split <;> simp
theorem ext_end {qs : Nat → Rat} {i l g : Nat} (h : ext qs i l g) (hi : ¬ i < 4) : qs l = mn4 (qs 0) (qs 1) (qs 2) (qs 3) ∧ qs g = mx4 (qs 0) (qs 1) (qs 2) (qs 3) := by
 obtain ⟨e1, e2, e3, e4, e5⟩ := h
 have a0 := e4 0 (by omega)
 have a1 := e4 1 (by omega)
 have a2 := e4 2 (by omega)
 have a3 := e4 3 (by omega)
 have b0 := e5 0 (by omega)
 have b1 := e5 1 (by omega)
 have b2 := e5 2 (by omega)
 have b3 := e5 3 (by omega)
 constructor
 · refine Rat.le_antisymm ?_ ?_
   · unfold mn4
     rcases mn_cases (mnQ (qs 0) (qs 1)) (mnQ (qs 2) (qs 3)) with h | h <;> rw [h]
     · rcases mn_cases (qs 0) (qs 1) with h | h <;> rw [h] <;> assumption
     · rcases mn_cases (qs 2) (qs 3) with h | h <;> rw [h] <;> assumption
   · have m1 : mn4 (qs 0) (qs 1) (qs 2) (qs 3) ≤ mnQ (qs 0) (qs 1) := mn_le_l _ _
     have m2 : mn4 (qs 0) (qs 1) (qs 2) (qs 3) ≤ mnQ (qs 2) (qs 3) := mn_le_r _ _
     match l, e2 with
     | 0, _ => exact Rat.le_trans m1 (mn_le_l _ _)
     | 1, _ => exact Rat.le_trans m1 (mn_le_r _ _)
     | 2, _ => exact Rat.le_trans m2 (mn_le_l _ _)
     | 3, _ => exact Rat.le_trans m2 (mn_le_r _ _)
 · refine Rat.le_antisymm ?_ ?_
   · have m1 : mxQ (qs 0) (qs 1) ≤ mx4 (qs 0) (qs 1) (qs 2) (qs 3) := le_mx_l _ _
     have m2 : mxQ (qs 2) (qs 3) ≤ mx4 (qs 0) (qs 1) (qs 2) (qs 3) := le_mx_r _ _
     match g, e3 with
     | 0, _ => exact Rat.le_trans (le_mx_l _ _) m1
     | 1, _ => exact Rat.le_trans (le_mx_r _ _) m1
     | 2, _ => exact Rat.le_trans (le_mx_l _ _) m2
     | 3, _ => exact Rat.le_trans (le_mx_r _ _) m2
   · unfold mx4
     rcases mx_cases (mxQ (qs 0) (qs 1)) (mxQ (qs 2) (qs 3)) with h | h <;> rw [h]
     · rcases mx_cases (qs 0) (qs 1) with h | h <;> rw [h] <;> assumption
     · rcases mx_cases (qs 2) (qs 3) with h | h <;> rw [h] <;> assumption
end Go.Proofs.YtbjijmjhlpkomaaGreatDoor

namespace Go.Proofs.YtbjijmjhlpkomaaGreatDoor
open Go.RowKit Num

theorem iv_extremesC {qs : Nat → Rat} {k : Nat} {v0 : Value} {w : World} (hk : k ≤ 99999) (pf0 : (mA4C qs k).S w v0) (hT : Tb w) :
   Calls Tryz.prog 112 #[v0] w (RetS (mP (mC (mn4 (qs 0) (qs 1) (qs 2) (qs 3)) k) (mC (mx4 (qs 0) (qs 1) (qs 2) (qs 3)) k)).S w) := by
 obtain ⟨c0, rfl, n0, u0, o0⟩ := (isA4C.cv pf0)
 refine calls_abs 34 Tryz.func112 rfl rfl (by simp) ?_
 intro a0 z0 d0 ha
 have s0_0 : sl a0 0 = .agg c0 := ha 0 (by simp)
 have B0 : Below w.heap.size w w := Below.refl _ _
 refine wp_seq ?_
 refine wp_region_seq 0 (mG []) (by rw [z0]; kernel_rfl) (mG_mono _) (ops_ok trivial) ?_
 intro a1 w2 ms3
 have B4 := B0.trans (ms3.b.mono B0.size)
 have z5 := ms3.sz.trans z0
 have d6 := ms3.df.trans d0
 have s7 := (ms3.fr 0 (out_of (by kernel_rfl))).trans s0_0
 refine tl_new rfl rfl (run_box_op rfl (ev s7)) (by rw [z5]; decide) ?_
 intro a8 w9 g10 z11 d12 s13 fr14 hg15 hc16 hb17
 have z18 := z11.trans z5
 have d19 := d12.trans d6
 have B21 := B4.trans (hb17.mono B4.size)
 have lw23 : w.heap.size ≤ g10 := by have := B4.size; omega
 have x22 : bx 97 12 (mA4C qs k) w9 g10 := ⟨c0, hc16, n0, u0, o0, (mA4C qs k).mono _ _ _ (Ext.of B21) pf0⟩
 refine tl_new rfl rfl (run_alloc_op rfl zero_Interval) (by rw [z18]; decide) ?_
 intro a24 w25 g26 z27 d28 s29 fr30 hg31 hc32 hb33
 have z34 := z27.trans z18
 have d35 := d28.trans d19
 have s37 := (fr30 1 (by decide)).trans s13
 have B38 := B21.trans (hb33.mono B21.size)
 have ne40 : g10 ≠ g26 := by have := x22.lt; omega
 have x39 := bx.below hb33 x22
 have lw42 : w.heap.size ≤ g26 := by have := B21.size; omega
 have x41 := bx_Interval hc32
 refine wpList_nil (then_normal ?_)
 refine wp_seq ?_
 refine wp_region_seq 0 (mG []) (by rw [z34]; kernel_rfl) (mG_mono _) (ops_ok trivial) ?_
 intro a43 w44 ms45
 have B46 := B38.trans (ms45.b.mono B38.size)
 have z47 := ms45.sz.trans z34
 have d48 := ms45.df.trans d35
 have s49 := (ms45.fr 1 (out_of (by kernel_rfl))).trans s37
 have s50 := (ms45.fr 2 (out_of (by kernel_rfl))).trans s29
 have x51 := bx.below ms45.b x39
 have x52 := bx.below ms45.b x41
 refine tl_set rfl rfl (run_assign rfl) (by rw [z47]; decide) ?_
 intro a53 z54 d55 s56 fr57
 have s58 : sl a53 3 = .int .i64 0 := s56.trans rfl
 have z59 := z54.trans z47
 have d60 := d55.trans d48
 have s61 := (fr57 1 (by decide)).trans s49
 have s62 := (fr57 2 (by decide)).trans s50
 refine tl_set rfl rfl (run_assign rfl) (by rw [z59]; decide) ?_
 intro a63 z64 d65 s66 fr67
 have s68 : sl a63 4 = .int .i64 0 := s66.trans rfl
 have z69 := z64.trans z59
 have d70 := d65.trans d60
 have s71 := (fr67 1 (by decide)).trans s61
 have s72 := (fr67 2 (by decide)).trans s62
 have s73 := (fr67 3 (by decide)).trans s58
 refine wpList_nil (then_normal ?_)
 refine wp_seq ?_
 refine wp_seq ?_
 refine wp_region_seq 2 (mG [(mA4C qs k).b, (mV (.int .i64 0)).b]) (by rw [z69]; kernel_rfl) (mG_mono _) (ops_ok ⟨?_, ?_, trivial⟩) ?_
 · refine opk_pure rfl rfl fun a w hb hf hd => ?_
   obtain ⟨cs, h1, h2, h3, h4, h5⟩ := bx.below hb x51
   exact ⟨_, run_load_row _ _ rfl (ev ((hf 1 (out_of (by kernel_rfl))).trans s71)) h1 Tryz.underlying97 rfl (by rw [h2]; exact info_Arr4), fun _ _ => h5⟩
 · exact opk_pure rfl rfl fun a w hb hf hd => ⟨_, run_move rfl, fun _ _ => rfl⟩
 intro a74 w75 ms76
 have B77 := B46.trans (ms76.b.mono B46.size)
 have z78 := ms76.sz.trans z69
 have d79 := ms76.df.trans d70
 have s80 := (ms76.fr 1 (out_of (by kernel_rfl))).trans s71
 have s81 := (ms76.fr 2 (out_of (by kernel_rfl))).trans s72
 have s82 := (ms76.fr 3 (out_of (by kernel_rfl))).trans s73
 have s83 := (ms76.fr 4 (out_of (by kernel_rfl))).trans s68
 have x84 := bx.below ms76.b x51
 have x85 := bx.below ms76.b x52
 have s86 : (mA4C qs k).S w75 (sl a74 7) := ms76.g 0 _ 7 rfl (by decide) trivial rfl
 have s87 : sl a74 8 = .int .i64 0 := ms76.g 1 _ 8 rfl (by decide) trivial rfl
 refine wpList_nil (then_normal ?_)
 refine wp_block ?_
 refine wp_loop_ghost (fun n a w' => ∃ i l g : Nat, n = 4 - i ∧ (ext qs i l g) ∧ a.tmps.size = 34 ∧ a.defers = [] ∧ Below w.heap.size w w' ∧ sl a 1 = .pointer (some ⟨g10, 0, none⟩) ∧ sl a 2 = .pointer (some ⟨g26, 0, none⟩) ∧ sl a 3 = .int .i64 ((l : Nat) : Int) ∧ sl a 4 = .int .i64 ((g : Nat) : Int) ∧ (mA4C qs k).S w' (sl a 7) ∧ sl a 8 = .int .i64 ((i : Nat) : Int) ∧ bx 97 12 (mA4C qs k) w' g10 ∧ bx 44 6 mTop w' g26) _ ⟨0, 0, 0, rfl, (ext_init qs), z78, d79, B77, s80, s81, (s82).trans (by simp), (s83).trans (by simp), s86, (s87).trans (by simp), x84, x85⟩ ?_
 rintro n88 a89 w90 ⟨i, l, g, rfl, hp91, z92, d93, B94, s95, s96, s97, s98, s99, s100, x101, x102⟩
 have hi0 := hp91.1
 have hl0 := hp91.2.1
 have hg0 := hp91.2.2.1
 refine wp_seq ?_
 refine wp_region_seq 1 (mG [(mV (.bool (decide ((((i : Nat) : Int)) < 4)))).b]) (by rw [z92]; kernel_rfl) (mG_mono _) (ops_ok ⟨?_, trivial⟩) ?_
 · exact opk_pure rfl rfl fun a w hb hf hd => ⟨_, run_lss rfl (ev ((hf 8 (out_of (by kernel_rfl))).trans s100)) rfl, fun _ _ => rfl⟩
 intro a103 w104 ms105
 have B106 := B94.trans (ms105.b.mono B94.size)
 have z107 := ms105.sz.trans z92
 have d108 := ms105.df.trans d93
 have s109 := (ms105.fr 1 (out_of (by kernel_rfl))).trans s95
 have s110 := (ms105.fr 2 (out_of (by kernel_rfl))).trans s96
 have s111 := (ms105.fr 3 (out_of (by kernel_rfl))).trans s97
 have s112 := (ms105.fr 4 (out_of (by kernel_rfl))).trans s98
 have s113 : (mA4C qs k).S w104 (sl a103 7) := by rw [ms105.fr 7 (out_of (by kernel_rfl))]; exact (mA4C qs k).mono _ _ _ (Ext.of ms105.b) s99
 have s114 := (ms105.fr 8 (out_of (by kernel_rfl))).trans s100
 have x115 := bx.below ms105.b x101
 have x116 := bx.below ms105.b x102
 have s117 : sl a103 9 = .bool (decide ((((i : Nat) : Int)) < 4)) := ms105.g 0 _ 9 rfl (by decide) trivial rfl
 refine wpList_nil (then_normal ?_)
 refine wp_seq ?_
 refine cond_b (decide ((((i : Nat) : Int)) < 4)) (ev s117) (fun hb118 => ?_) (fun hb118 => ?_)
 · skip
   have hb118p := of_decide_eq_true hb118
   refine wp_skip (then_normal ?_)
   refine wp_seq ?_
   refine wp_block ?_
   refine wp_seq ?_
   refine wp_region_seq 2 (mG [(mV (.int .i64 ((i : Nat) : Int))).b, (mC (qs i) k).b]) (by rw [z107]; kernel_rfl) (mG_mono _) (ops_ok ⟨?_, ?_, trivial⟩) ?_
   · exact opk_pure rfl rfl fun a w hb hf hd => ⟨_, run_move rfl, fun _ _ => ((hf 8 (out_of (by kernel_rfl))).trans s114)⟩
   · refine opk_pure rfl rfl fun a w hb hf hd => ?_
     refine index_a4c (out_pred (m := (mA4C qs k)) (hf 7 (out_of (by kernel_rfl))) hb s113) rfl (ev (t := 7) rfl) (ev ((hf 8 (out_of (by kernel_rfl))).trans s114)) (i := i) (by omega) (fun u hu => ?_)
     exact fun _ _ => hu
   intro a119 w120 ms121
   have B122 := B106.trans (ms121.b.mono B106.size)
   have z123 := ms121.sz.trans z107
   have d124 := ms121.df.trans d108
   have s125 := (ms121.fr 1 (out_of (by kernel_rfl))).trans s109
   have s126 := (ms121.fr 2 (out_of (by kernel_rfl))).trans s110
   have s127 := (ms121.fr 3 (out_of (by kernel_rfl))).trans s111
   have s128 := (ms121.fr 4 (out_of (by kernel_rfl))).trans s112
   have s129 : (mA4C qs k).S w120 (sl a119 7) := by rw [ms121.fr 7 (out_of (by kernel_rfl))]; exact (mA4C qs k).mono _ _ _ (Ext.of ms121.b) s113
   have s130 := (ms121.fr 8 (out_of (by kernel_rfl))).trans s114
   have x132 := bx.below ms121.b x115
   have x133 := bx.below ms121.b x116
   have s134 : sl a119 10 = .int .i64 ((i : Nat) : Int) := ms121.g 0 _ 10 rfl (by decide) trivial rfl
   have s135 : (mC (qs i) k).S w120 (sl a119 11) := ms121.g 1 _ 11 rfl (by decide) trivial rfl
   refine tl_new rfl rfl (run_alloc_op rfl zero_Rat) (by rw [z123]; decide) ?_
   intro a136 w137 g138 z139 d140 s141 fr142 hg143 hc144 hb145
   have z146 := z139.trans z123
   have d147 := d140.trans d124
   have s148 := (fr142 1 (by decide)).trans s125
   have s149 := (fr142 2 (by decide)).trans s126
   have s150 := (fr142 3 (by decide)).trans s127
   have s151 := (fr142 4 (by decide)).trans s128
   have s152 : (mA4C qs k).S w120 (sl a136 7) := by rw [fr142 7 (by decide)]; exact s129
   have s153 := (fr142 8 (by decide)).trans s130
   have s155 := (fr142 10 (by decide)).trans s134
   have s156 : (mC (qs i) k).S w120 (sl a136 11) := by rw [fr142 11 (by decide)]; exact s135
   have B157 := B122.trans (hb145.mono B122.size)
   have ne159 : g10 ≠ g138 := by have := x132.lt; omega
   have x158 := bx.below hb145 x132
   have ne161 : g26 ≠ g138 := by have := x133.lt; omega
   have x160 := bx.below hb145 x133
   have s162 := (mA4C qs k).mono _ _ _ (Ext.of hb145) s152
   have s163 := (mC (qs i) k).mono _ _ _ (Ext.of hb145) s156
   have lw165 : w.heap.size ≤ g138 := by have := B122.size; omega
   have x164 := bx_Rat hc144
   refine tl_set rfl rfl (run_assign rfl) (by rw [z146]; decide) ?_
   intro a166 z167 d168 s169 fr170
   have s171 := s169.trans s155
   have z172 := z167.trans z146
   have d173 := d168.trans d147
   have s174 := (fr170 1 (by decide)).trans s148
   have s175 := (fr170 2 (by decide)).trans s149
   have s176 := (fr170 3 (by decide)).trans s150
   have s177 := (fr170 4 (by decide)).trans s151
   have s178 : (mA4C qs k).S w137 (sl a166 7) := by rw [fr170 7 (by decide)]; exact s162
   have s179 := (fr170 8 (by decide)).trans s153
   have s182 : (mC (qs i) k).S w137 (sl a166 11) := by rw [fr170 11 (by decide)]; exact s163
   have s183 := (fr170 6 (by decide)).trans s141
   refine tl_put rfl rfl rfl (m' := (mC (qs i) k)) x164 (ev s183) s182 (isC.cv s182) info_Rat ?_
   intro w184 x185 ex186 ot187 bl188
   have B189 := bl188 w (by omega) B157
   have x190 := ot187 (by omega) x158
   have x191 := ot187 (by omega) x160
   have s192 := (mA4C qs k).mono _ _ _ ex186 s178
   have s193 := (mC (qs i) k).mono _ _ _ ex186 s182
   refine wpList_nil (then_normal ?_)
   refine wp_seq ?_
   refine wp_seq ?_
   refine wp_region_mono 6 [] (mG [(mC (qs i) k).b, (mV (.int .i64 ((l : Nat) : Int))).b, (mV (.pointer (some ⟨g10, 3 * l, none⟩))).b, (mC (qs l) k).b, (mV (.int .i64 (cmpQ (qs i) (qs l)))).b, (mV (.bool (decide ((cmpQ (qs i) (qs l)) < 0)))).b]) (by kernel_rfl) (by rw [z172]; kernel_rfl) (fun h => absurd rfl h) (mG_mono _) (ops_ok ⟨?_, ?_, ?_, ?_, ?_, ?_, trivial⟩) ?_
   · refine opk_pure rfl rfl fun a w hb hf hd => ?_
     obtain ⟨cs, h1, h2, h3, h4, h5⟩ := bx.below hb x185
     exact ⟨_, run_load_row _ _ rfl (ev ((hf 6 (out_of (by kernel_rfl))).trans s183)) h1 Tryz.underlying26 rfl (by rw [h2]; exact info_Rat), fun _ _ => h5⟩
   · exact opk_pure rfl rfl fun a w hb hf hd => ⟨_, run_move rfl, fun _ _ => ((hf 3 (out_of (by kernel_rfl))).trans s176)⟩
   · exact opk_pure rfl rfl fun a w hb hf hd => ⟨_, addr_a4 rfl (ev ((hf 1 (out_of (by kernel_rfl))).trans s174)) (ev (hd.at 0 rfl rfl rfl rfl)) (by omega), fun _ _ => rfl⟩
   · refine opk_pure rfl rfl fun a w hb hf hd => ?_
     obtain ⟨x0, x1, x2, h1, h2⟩ := bx.a4c (bx.below hb x190) l (by omega)
     exact ⟨_, run_load_mid _ _ rfl (ev (hd.at 0 rfl rfl rfl rfl)) h1 Tryz.underlying26 rfl info_Rat, fun _ _ => h2⟩
   · refine opk_call rfl rfl fun a w hb hf hd => ?_
     have e0 : a.eval (.tmp 12) = sl a 12 := rfl
     have e1 : a.eval (.tmp 15) = sl a 15 := rfl
     exact ⟨21, #[sl a 12, sl a 15], run_call rfl rfl (fun _ _ => by kernel_rfl) (args_2 e0 e1), (c_cmp (by omega) (by omega) (isC.r (hd.at 0 rfl rfl rfl rfl)) (isC.r (hd.at 1 rfl rfl rfl rfl)) (hT.below (B189.trans (hb.mono B189.size)))).mono fun _ _ r => RetS.imp (fun _ _ h => fun _ _ => h) r⟩
   · exact opk_pure rfl rfl fun a w hb hf hd => ⟨_, run_lss rfl (ev (hd.at 0 rfl rfl rfl rfl)) rfl, fun _ _ => rfl⟩
   intro a194 w195 ms196
   have B197 := B189.trans (ms196.b.mono B189.size)
   have z198 := ms196.sz.trans z172
   have d199 := ms196.df.trans d173
   have s200 := (ms196.fr 1 (out_of (by kernel_rfl))).trans s174
   have s201 := (ms196.fr 2 (out_of (by kernel_rfl))).trans s175
   have s202 := (ms196.fr 3 (out_of (by kernel_rfl))).trans s176
   have s203 := (ms196.fr 4 (out_of (by kernel_rfl))).trans s177
   have s204 : (mA4C qs k).S w195 (sl a194 7) := by rw [ms196.fr 7 (out_of (by kernel_rfl))]; exact (mA4C qs k).mono _ _ _ (Ext.of ms196.b) s192
   have s205 := (ms196.fr 8 (out_of (by kernel_rfl))).trans s179
   have s207 := (ms196.fr 6 (out_of (by kernel_rfl))).trans s183
   have s208 := (ms196.fr 5 (out_of (by kernel_rfl))).trans s171
   have x209 := bx.below ms196.b x185
   have x210 := bx.below ms196.b x190
   have x211 := bx.below ms196.b x191
   have s212 : sl a194 17 = .bool (decide ((cmpQ (qs i) (qs l)) < 0)) := ms196.g 5 _ 17 rfl (by decide) trivial rfl
   refine wpList_nil (then_normal ?_)
   refine cond_b (decide ((cmpQ (qs i) (qs l)) < 0)) (ev s212) (fun hb213 => ?_) (fun hb213 => ?_)
   · skip
     have hb213p := of_decide_eq_true hb213
     refine wp_region_seq 1 (mG [(mV (.int .i64 ((i : Nat) : Int))).b]) (by rw [z198]; kernel_rfl) (mG_mono _) (ops_ok ⟨?_, trivial⟩) ?_
     · exact opk_pure rfl rfl fun a w hb hf hd => ⟨_, run_move rfl, fun _ _ => ((hf 5 (out_of (by kernel_rfl))).trans s208)⟩
     intro a214 w215 ms216
     have B217 := B197.trans (ms216.b.mono B197.size)
     have z218 := ms216.sz.trans z198
     have d219 := ms216.df.trans d199
     have s220 := (ms216.fr 1 (out_of (by kernel_rfl))).trans s200
     have s221 := (ms216.fr 2 (out_of (by kernel_rfl))).trans s201
     have s222 := (ms216.fr 4 (out_of (by kernel_rfl))).trans s203
     have s223 : (mA4C qs k).S w215 (sl a214 7) := by rw [ms216.fr 7 (out_of (by kernel_rfl))]; exact (mA4C qs k).mono _ _ _ (Ext.of ms216.b) s204
     have s224 := (ms216.fr 8 (out_of (by kernel_rfl))).trans s205
     have s226 := (ms216.fr 6 (out_of (by kernel_rfl))).trans s207
     have s227 := (ms216.fr 5 (out_of (by kernel_rfl))).trans s208
     have x229 := bx.below ms216.b x209
     have x230 := bx.below ms216.b x210
     have x231 := bx.below ms216.b x211
     have s232 : sl a214 18 = .int .i64 ((i : Nat) : Int) := ms216.g 0 _ 18 rfl (by decide) trivial rfl
     refine tl_set rfl rfl (run_assign rfl) (by rw [z218]; decide) ?_
     intro a233 z234 d235 s236 fr237
     have s238 := s236.trans s232
     have z239 := z234.trans z218
     have d240 := d235.trans d219
     have s241 := (fr237 1 (by decide)).trans s220
     have s242 := (fr237 2 (by decide)).trans s221
     have s243 := (fr237 4 (by decide)).trans s222
     have s244 : (mA4C qs k).S w215 (sl a233 7) := by rw [fr237 7 (by decide)]; exact s223
     have s245 := (fr237 8 (by decide)).trans s224
     have s247 := (fr237 6 (by decide)).trans s226
     have s248 := (fr237 5 (by decide)).trans s227
     refine wpList_nil (then_normal ?_)
     refine wp_seq ?_
     refine wp_region_mono 6 [] (mG [(mC (qs i) k).b, (mV (.int .i64 ((g : Nat) : Int))).b, (mV (.pointer (some ⟨g10, 3 * g, none⟩))).b, (mC (qs g) k).b, (mV (.int .i64 (cmpQ (qs i) (qs g)))).b, (mV (.bool (decide (0 ≤ (cmpQ (qs i) (qs g)))))).b]) (by kernel_rfl) (by rw [z239]; kernel_rfl) (fun h => absurd rfl h) (mG_mono _) (ops_ok ⟨?_, ?_, ?_, ?_, ?_, ?_, trivial⟩) ?_
     · refine opk_pure rfl rfl fun a w hb hf hd => ?_
       obtain ⟨cs, h1, h2, h3, h4, h5⟩ := bx.below hb x229
       exact ⟨_, run_load_row _ _ rfl (ev ((hf 6 (out_of (by kernel_rfl))).trans s247)) h1 Tryz.underlying26 rfl (by rw [h2]; exact info_Rat), fun _ _ => h5⟩
     · exact opk_pure rfl rfl fun a w hb hf hd => ⟨_, run_move rfl, fun _ _ => ((hf 4 (out_of (by kernel_rfl))).trans s243)⟩
     · exact opk_pure rfl rfl fun a w hb hf hd => ⟨_, addr_a4 rfl (ev ((hf 1 (out_of (by kernel_rfl))).trans s241)) (ev (hd.at 0 rfl rfl rfl rfl)) (by omega), fun _ _ => rfl⟩
     · refine opk_pure rfl rfl fun a w hb hf hd => ?_
       obtain ⟨x0, x1, x2, h1, h2⟩ := bx.a4c (bx.below hb x230) g (by omega)
       exact ⟨_, run_load_mid _ _ rfl (ev (hd.at 0 rfl rfl rfl rfl)) h1 Tryz.underlying26 rfl info_Rat, fun _ _ => h2⟩
     · refine opk_call rfl rfl fun a w hb hf hd => ?_
       have e0 : a.eval (.tmp 19) = sl a 19 := rfl
       have e1 : a.eval (.tmp 22) = sl a 22 := rfl
       exact ⟨21, #[sl a 19, sl a 22], run_call rfl rfl (fun _ _ => by kernel_rfl) (args_2 e0 e1), (c_cmp (by omega) (by omega) (isC.r (hd.at 0 rfl rfl rfl rfl)) (isC.r (hd.at 1 rfl rfl rfl rfl)) (hT.below (B217.trans (hb.mono B217.size)))).mono fun _ _ r => RetS.imp (fun _ _ h => fun _ _ => h) r⟩
     · exact opk_pure rfl rfl fun a w hb hf hd => ⟨_, run_geq rfl (ev (hd.at 0 rfl rfl rfl rfl)) rfl, fun _ _ => rfl⟩
     intro a251 w252 ms253
     have B254 := B217.trans (ms253.b.mono B217.size)
     have z255 := ms253.sz.trans z239
     have d256 := ms253.df.trans d240
     have s257 := (ms253.fr 1 (out_of (by kernel_rfl))).trans s241
     have s258 := (ms253.fr 2 (out_of (by kernel_rfl))).trans s242
     have s259 := (ms253.fr 4 (out_of (by kernel_rfl))).trans s243
     have s260 : (mA4C qs k).S w252 (sl a251 7) := by rw [ms253.fr 7 (out_of (by kernel_rfl))]; exact (mA4C qs k).mono _ _ _ (Ext.of ms253.b) s244
     have s261 := (ms253.fr 8 (out_of (by kernel_rfl))).trans s245
     have s264 := (ms253.fr 5 (out_of (by kernel_rfl))).trans s248
     have s266 := (ms253.fr 3 (out_of (by kernel_rfl))).trans s238
     have x267 := bx.below ms253.b x229
     have x268 := bx.below ms253.b x230
     have x269 := bx.below ms253.b x231
     have s270 : sl a251 24 = .bool (decide (0 ≤ (cmpQ (qs i) (qs g)))) := ms253.g 5 _ 24 rfl (by decide) trivial rfl
     refine wpList_nil (then_normal ?_)
     refine cond_b (decide (0 ≤ (cmpQ (qs i) (qs g)))) (ev s270) (fun hb271 => ?_) (fun hb271 => ?_)
     · skip
       have hb271p := of_decide_eq_true hb271
       refine wp_region_seq 1 (mG [(mV (.int .i64 ((i : Nat) : Int))).b]) (by rw [z255]; kernel_rfl) (mG_mono _) (ops_ok ⟨?_, trivial⟩) ?_
       · exact opk_pure rfl rfl fun a w hb hf hd => ⟨_, run_move rfl, fun _ _ => ((hf 5 (out_of (by kernel_rfl))).trans s264)⟩
       intro a272 w273 ms274
       have B275 := B254.trans (ms274.b.mono B254.size)
       have z276 := ms274.sz.trans z255
       have d277 := ms274.df.trans d256
       have s278 := (ms274.fr 1 (out_of (by kernel_rfl))).trans s257
       have s279 := (ms274.fr 2 (out_of (by kernel_rfl))).trans s258
       have s280 : (mA4C qs k).S w273 (sl a272 7) := by rw [ms274.fr 7 (out_of (by kernel_rfl))]; exact (mA4C qs k).mono _ _ _ (Ext.of ms274.b) s260
       have s281 := (ms274.fr 8 (out_of (by kernel_rfl))).trans s261
       have s286 := (ms274.fr 3 (out_of (by kernel_rfl))).trans s266
       have x288 := bx.below ms274.b x267
       have x289 := bx.below ms274.b x268
       have x290 := bx.below ms274.b x269
       have s291 : sl a272 25 = .int .i64 ((i : Nat) : Int) := ms274.g 0 _ 25 rfl (by decide) trivial rfl
       refine tl_set rfl rfl (run_assign rfl) (by rw [z276]; decide) ?_
       intro a292 z293 d294 s295 fr296
       have s297 := s295.trans s291
       have z298 := z293.trans z276
       have d299 := d294.trans d277
       have s300 := (fr296 1 (by decide)).trans s278
       have s301 := (fr296 2 (by decide)).trans s279
       have s302 : (mA4C qs k).S w273 (sl a292 7) := by rw [fr296 7 (by decide)]; exact s280
       have s303 := (fr296 8 (by decide)).trans s281
       have s308 := (fr296 3 (by decide)).trans s286
       refine wpList_nil (in_normal (then_normal ?_))
       refine wp_region_seq 1 (mG [(mV (.int .i64 ((((i : Nat) : Int)) + 1))).b]) (by rw [z298]; kernel_rfl) (mG_mono _) (ops_ok ⟨?_, trivial⟩) ?_
       · exact opk_pure rfl rfl fun a w hb hf hd => ⟨_, run_add rfl (ev ((hf 8 (out_of (by kernel_rfl))).trans s303)) rfl (by omega) (by omega), fun _ _ => rfl⟩
       intro a311 w312 ms313
       have B314 := B275.trans (ms313.b.mono B275.size)
       have z315 := ms313.sz.trans z298
       have d316 := ms313.df.trans d299
       have s317 := (ms313.fr 1 (out_of (by kernel_rfl))).trans s300
       have s318 := (ms313.fr 2 (out_of (by kernel_rfl))).trans s301
       have s319 : (mA4C qs k).S w312 (sl a311 7) := by rw [ms313.fr 7 (out_of (by kernel_rfl))]; exact (mA4C qs k).mono _ _ _ (Ext.of ms313.b) s302
       have s325 := (ms313.fr 3 (out_of (by kernel_rfl))).trans s308
       have s327 := (ms313.fr 4 (out_of (by kernel_rfl))).trans s297
       have x328 := bx.below ms313.b x288
       have x329 := bx.below ms313.b x289
       have x330 := bx.below ms313.b x290
       have s331 : sl a311 26 = .int .i64 ((((i : Nat) : Int)) + 1) := ms313.g 0 _ 26 rfl (by decide) trivial rfl
       refine tl_set rfl rfl (run_move rfl) (by rw [z315]; decide) ?_
       intro a332 z333 d334 s335 fr336
       have s337 := s335.trans s331
       have z338 := z333.trans z315
       have d339 := d334.trans d316
       have s340 := (fr336 1 (by decide)).trans s317
       have s341 := (fr336 2 (by decide)).trans s318
       have s342 : (mA4C qs k).S w312 (sl a332 7) := by rw [fr336 7 (by decide)]; exact s319
       have s347 := (fr336 3 (by decide)).trans s325
       have s349 := (fr336 4 (by decide)).trans s327
       refine wpList_nil (then_normal ?_)
       exact ⟨_, (by omega), i + 1, i, i, rfl, (ext_step hp91 (by omega) (xl_t hb213p) (xg_t hb271p)), z338, d339, B314, s340, s341, (s347).trans (by first | rfl | exact congrArg _ (by omega)), (s349).trans (by first | rfl | exact congrArg _ (by omega)), s342, (s337).trans (by first | rfl | exact congrArg _ (by omega)), x329, x330⟩
     · skip
       have hb271p := of_decide_eq_false hb271
       refine wp_skip (in_normal (then_normal ?_))
       refine wp_region_seq 1 (mG [(mV (.int .i64 ((((i : Nat) : Int)) + 1))).b]) (by rw [z255]; kernel_rfl) (mG_mono _) (ops_ok ⟨?_, trivial⟩) ?_
       · exact opk_pure rfl rfl fun a w hb hf hd => ⟨_, run_add rfl (ev ((hf 8 (out_of (by kernel_rfl))).trans s261)) rfl (by omega) (by omega), fun _ _ => rfl⟩
       intro a351 w352 ms353
       have B354 := B254.trans (ms353.b.mono B254.size)
       have z355 := ms353.sz.trans z255
       have d356 := ms353.df.trans d256
       have s357 := (ms353.fr 1 (out_of (by kernel_rfl))).trans s257
       have s358 := (ms353.fr 2 (out_of (by kernel_rfl))).trans s258
       have s359 := (ms353.fr 4 (out_of (by kernel_rfl))).trans s259
       have s360 : (mA4C qs k).S w352 (sl a351 7) := by rw [ms353.fr 7 (out_of (by kernel_rfl))]; exact (mA4C qs k).mono _ _ _ (Ext.of ms353.b) s260
       have s366 := (ms353.fr 3 (out_of (by kernel_rfl))).trans s266
       have x368 := bx.below ms353.b x267
       have x369 := bx.below ms353.b x268
       have x370 := bx.below ms353.b x269
       have s371 : sl a351 26 = .int .i64 ((((i : Nat) : Int)) + 1) := ms353.g 0 _ 26 rfl (by decide) trivial rfl
       refine tl_set rfl rfl (run_move rfl) (by rw [z355]; decide) ?_
       intro a372 z373 d374 s375 fr376
       have s377 := s375.trans s371
       have z378 := z373.trans z355
       have d379 := d374.trans d356
       have s380 := (fr376 1 (by decide)).trans s357
       have s381 := (fr376 2 (by decide)).trans s358
       have s382 := (fr376 4 (by decide)).trans s359
       have s383 : (mA4C qs k).S w352 (sl a372 7) := by rw [fr376 7 (by decide)]; exact s360
       have s388 := (fr376 3 (by decide)).trans s366
       refine wpList_nil (then_normal ?_)
       exact ⟨_, (by omega), i + 1, i, g, rfl, (ext_step hp91 (by omega) (xl_t hb213p) (xg_f hb271p)), z378, d379, B354, s380, s381, (s388).trans (by first | rfl | exact congrArg _ (by omega)), (s382).trans (by first | rfl | exact congrArg _ (by omega)), s383, (s377).trans (by first | rfl | exact congrArg _ (by omega)), x369, x370⟩
   · skip
     have hb213p := of_decide_eq_false hb213
     refine wp_skip (then_normal ?_)
     refine wp_seq ?_
     refine wp_region_mono 6 [] (mG [(mC (qs i) k).b, (mV (.int .i64 ((g : Nat) : Int))).b, (mV (.pointer (some ⟨g10, 3 * g, none⟩))).b, (mC (qs g) k).b, (mV (.int .i64 (cmpQ (qs i) (qs g)))).b, (mV (.bool (decide (0 ≤ (cmpQ (qs i) (qs g)))))).b]) (by kernel_rfl) (by rw [z198]; kernel_rfl) (fun h => absurd rfl h) (mG_mono _) (ops_ok ⟨?_, ?_, ?_, ?_, ?_, ?_, trivial⟩) ?_
     · refine opk_pure rfl rfl fun a w hb hf hd => ?_
       obtain ⟨cs, h1, h2, h3, h4, h5⟩ := bx.below hb x209
       exact ⟨_, run_load_row _ _ rfl (ev ((hf 6 (out_of (by kernel_rfl))).trans s207)) h1 Tryz.underlying26 rfl (by rw [h2]; exact info_Rat), fun _ _ => h5⟩
     · exact opk_pure rfl rfl fun a w hb hf hd => ⟨_, run_move rfl, fun _ _ => ((hf 4 (out_of (by kernel_rfl))).trans s203)⟩
     · exact opk_pure rfl rfl fun a w hb hf hd => ⟨_, addr_a4 rfl (ev ((hf 1 (out_of (by kernel_rfl))).trans s200)) (ev (hd.at 0 rfl rfl rfl rfl)) (by omega), fun _ _ => rfl⟩
     · refine opk_pure rfl rfl fun a w hb hf hd => ?_
       obtain ⟨x0, x1, x2, h1, h2⟩ := bx.a4c (bx.below hb x210) g (by omega)
       exact ⟨_, run_load_mid _ _ rfl (ev (hd.at 0 rfl rfl rfl rfl)) h1 Tryz.underlying26 rfl info_Rat, fun _ _ => h2⟩
     · refine opk_call rfl rfl fun a w hb hf hd => ?_
       have e0 : a.eval (.tmp 19) = sl a 19 := rfl
       have e1 : a.eval (.tmp 22) = sl a 22 := rfl
       exact ⟨21, #[sl a 19, sl a 22], run_call rfl rfl (fun _ _ => by kernel_rfl) (args_2 e0 e1), (c_cmp (by omega) (by omega) (isC.r (hd.at 0 rfl rfl rfl rfl)) (isC.r (hd.at 1 rfl rfl rfl rfl)) (hT.below (B197.trans (hb.mono B197.size)))).mono fun _ _ r => RetS.imp (fun _ _ h => fun _ _ => h) r⟩
     · exact opk_pure rfl rfl fun a w hb hf hd => ⟨_, run_geq rfl (ev (hd.at 0 rfl rfl rfl rfl)) rfl, fun _ _ => rfl⟩
     intro a391 w392 ms393
     have B394 := B197.trans (ms393.b.mono B197.size)
     have z395 := ms393.sz.trans z198
     have d396 := ms393.df.trans d199
     have s397 := (ms393.fr 1 (out_of (by kernel_rfl))).trans s200
     have s398 := (ms393.fr 2 (out_of (by kernel_rfl))).trans s201
     have s399 := (ms393.fr 3 (out_of (by kernel_rfl))).trans s202
     have s400 := (ms393.fr 4 (out_of (by kernel_rfl))).trans s203
     have s401 : (mA4C qs k).S w392 (sl a391 7) := by rw [ms393.fr 7 (out_of (by kernel_rfl))]; exact (mA4C qs k).mono _ _ _ (Ext.of ms393.b) s204
     have s402 := (ms393.fr 8 (out_of (by kernel_rfl))).trans s205
     have s405 := (ms393.fr 5 (out_of (by kernel_rfl))).trans s208
     have x407 := bx.below ms393.b x209
     have x408 := bx.below ms393.b x210
     have x409 := bx.below ms393.b x211
     have s410 : sl a391 24 = .bool (decide (0 ≤ (cmpQ (qs i) (qs g)))) := ms393.g 5 _ 24 rfl (by decide) trivial rfl
     refine wpList_nil (then_normal ?_)
     refine cond_b (decide (0 ≤ (cmpQ (qs i) (qs g)))) (ev s410) (fun hb411 => ?_) (fun hb411 => ?_)
     · skip
       have hb411p := of_decide_eq_true hb411
       refine wp_region_seq 1 (mG [(mV (.int .i64 ((i : Nat) : Int))).b]) (by rw [z395]; kernel_rfl) (mG_mono _) (ops_ok ⟨?_, trivial⟩) ?_
       · exact opk_pure rfl rfl fun a w hb hf hd => ⟨_, run_move rfl, fun _ _ => ((hf 5 (out_of (by kernel_rfl))).trans s405)⟩
       intro a412 w413 ms414
       have B415 := B394.trans (ms414.b.mono B394.size)
       have z416 := ms414.sz.trans z395
       have d417 := ms414.df.trans d396
       have s418 := (ms414.fr 1 (out_of (by kernel_rfl))).trans s397
       have s419 := (ms414.fr 2 (out_of (by kernel_rfl))).trans s398
       have s420 := (ms414.fr 3 (out_of (by kernel_rfl))).trans s399
       have s421 : (mA4C qs k).S w413 (sl a412 7) := by rw [ms414.fr 7 (out_of (by kernel_rfl))]; exact (mA4C qs k).mono _ _ _ (Ext.of ms414.b) s401
       have s422 := (ms414.fr 8 (out_of (by kernel_rfl))).trans s402
       have x428 := bx.below ms414.b x407
       have x429 := bx.below ms414.b x408
       have x430 := bx.below ms414.b x409
       have s431 : sl a412 25 = .int .i64 ((i : Nat) : Int) := ms414.g 0 _ 25 rfl (by decide) trivial rfl
       refine tl_set rfl rfl (run_assign rfl) (by rw [z416]; decide) ?_
       intro a432 z433 d434 s435 fr436
       have s437 := s435.trans s431
       have z438 := z433.trans z416
       have d439 := d434.trans d417
       have s440 := (fr436 1 (by decide)).trans s418
       have s441 := (fr436 2 (by decide)).trans s419
       have s442 := (fr436 3 (by decide)).trans s420
       have s443 : (mA4C qs k).S w413 (sl a432 7) := by rw [fr436 7 (by decide)]; exact s421
       have s444 := (fr436 8 (by decide)).trans s422
       refine wpList_nil (in_normal (then_normal ?_))
       refine wp_region_seq 1 (mG [(mV (.int .i64 ((((i : Nat) : Int)) + 1))).b]) (by rw [z438]; kernel_rfl) (mG_mono _) (ops_ok ⟨?_, trivial⟩) ?_
       · exact opk_pure rfl rfl fun a w hb hf hd => ⟨_, run_add rfl (ev ((hf 8 (out_of (by kernel_rfl))).trans s444)) rfl (by omega) (by omega), fun _ _ => rfl⟩
       intro a451 w452 ms453
       have B454 := B415.trans (ms453.b.mono B415.size)
       have z455 := ms453.sz.trans z438
       have d456 := ms453.df.trans d439
       have s457 := (ms453.fr 1 (out_of (by kernel_rfl))).trans s440
       have s458 := (ms453.fr 2 (out_of (by kernel_rfl))).trans s441
       have s459 := (ms453.fr 3 (out_of (by kernel_rfl))).trans s442
       have s460 : (mA4C qs k).S w452 (sl a451 7) := by rw [ms453.fr 7 (out_of (by kernel_rfl))]; exact (mA4C qs k).mono _ _ _ (Ext.of ms453.b) s443
       have s467 := (ms453.fr 4 (out_of (by kernel_rfl))).trans s437
       have x468 := bx.below ms453.b x428
       have x469 := bx.below ms453.b x429
       have x470 := bx.below ms453.b x430
       have s471 : sl a451 26 = .int .i64 ((((i : Nat) : Int)) + 1) := ms453.g 0 _ 26 rfl (by decide) trivial rfl
       refine tl_set rfl rfl (run_move rfl) (by rw [z455]; decide) ?_
       intro a472 z473 d474 s475 fr476
       have s477 := s475.trans s471
       have z478 := z473.trans z455
       have d479 := d474.trans d456
       have s480 := (fr476 1 (by decide)).trans s457
       have s481 := (fr476 2 (by decide)).trans s458
       have s482 := (fr476 3 (by decide)).trans s459
       have s483 : (mA4C qs k).S w452 (sl a472 7) := by rw [fr476 7 (by decide)]; exact s460
       have s489 := (fr476 4 (by decide)).trans s467
       refine wpList_nil (then_normal ?_)
       exact ⟨_, (by omega), i + 1, l, i, rfl, (ext_step hp91 (by omega) (xl_f hb213p) (xg_t hb411p)), z478, d479, B454, s480, s481, (s482).trans (by first | rfl | exact congrArg _ (by omega)), (s489).trans (by first | rfl | exact congrArg _ (by omega)), s483, (s477).trans (by first | rfl | exact congrArg _ (by omega)), x469, x470⟩
     · skip
       have hb411p := of_decide_eq_false hb411
       refine wp_skip (in_normal (then_normal ?_))
       refine wp_region_seq 1 (mG [(mV (.int .i64 ((((i : Nat) : Int)) + 1))).b]) (by rw [z395]; kernel_rfl) (mG_mono _) (ops_ok ⟨?_, trivial⟩) ?_
       · exact opk_pure rfl rfl fun a w hb hf hd => ⟨_, run_add rfl (ev ((hf 8 (out_of (by kernel_rfl))).trans s402)) rfl (by omega) (by omega), fun _ _ => rfl⟩
       intro a491 w492 ms493
       have B494 := B394.trans (ms493.b.mono B394.size)
       have z495 := ms493.sz.trans z395
       have d496 := ms493.df.trans d396
       have s497 := (ms493.fr 1 (out_of (by kernel_rfl))).trans s397
       have s498 := (ms493.fr 2 (out_of (by kernel_rfl))).trans s398
       have s499 := (ms493.fr 3 (out_of (by kernel_rfl))).trans s399
       have s500 := (ms493.fr 4 (out_of (by kernel_rfl))).trans s400
       have s501 : (mA4C qs k).S w492 (sl a491 7) := by rw [ms493.fr 7 (out_of (by kernel_rfl))]; exact (mA4C qs k).mono _ _ _ (Ext.of ms493.b) s401
       have x508 := bx.below ms493.b x407
       have x509 := bx.below ms493.b x408
       have x510 := bx.below ms493.b x409
       have s511 : sl a491 26 = .int .i64 ((((i : Nat) : Int)) + 1) := ms493.g 0 _ 26 rfl (by decide) trivial rfl
       refine tl_set rfl rfl (run_move rfl) (by rw [z495]; decide) ?_
       intro a512 z513 d514 s515 fr516
       have s517 := s515.trans s511
       have z518 := z513.trans z495
       have d519 := d514.trans d496
       have s520 := (fr516 1 (by decide)).trans s497
       have s521 := (fr516 2 (by decide)).trans s498
       have s522 := (fr516 3 (by decide)).trans s499
       have s523 := (fr516 4 (by decide)).trans s500
       have s524 : (mA4C qs k).S w492 (sl a512 7) := by rw [fr516 7 (by decide)]; exact s501
       refine wpList_nil (then_normal ?_)
       exact ⟨_, (by omega), i + 1, l, g, rfl, (ext_step hp91 (by omega) (xl_f hb213p) (xg_f hb411p)), z518, d519, B494, s520, s521, (s522).trans (by first | rfl | exact congrArg _ (by omega)), (s523).trans (by first | rfl | exact congrArg _ (by omega)), s524, (s517).trans (by first | rfl | exact congrArg _ (by omega)), x509, x510⟩
 · skip
   have hb118p := of_decide_eq_false hb118
   refine wp_exit ?_
   repeat (first | refine exit_in ?_ | refine exit_then ?_ | refine exit_out (by decide) ?_)
   refine (then_normal ?_)
   refine wp_seq ?_
   refine wp_region_mono 7 [] (mG [(mV (.int .i64 ((l : Nat) : Int))).b, (mV (.pointer (some ⟨g10, 3 * l, none⟩))).b, (mC (qs l) k).b, (mV (.int .i64 ((g : Nat) : Int))).b, (mV (.pointer (some ⟨g10, 3 * g, none⟩))).b, (mC (qs g) k).b, (mP (mC (qs l) k) (mC (qs g) k)).b]) (by kernel_rfl) (by rw [z107]; kernel_rfl) (fun h => absurd rfl h) (mG_mono _) (ops_ok ⟨?_, ?_, ?_, ?_, ?_, ?_, ?_, trivial⟩) ?_
   · exact opk_pure rfl rfl fun a w hb hf hd => ⟨_, run_move rfl, fun _ _ => ((hf 3 (out_of (by kernel_rfl))).trans s111)⟩
   · exact opk_pure rfl rfl fun a w hb hf hd => ⟨_, addr_a4 rfl (ev ((hf 1 (out_of (by kernel_rfl))).trans s109)) (ev (hd.at 0 rfl rfl rfl rfl)) (by omega), fun _ _ => rfl⟩
   · refine opk_pure rfl rfl fun a w hb hf hd => ?_
     obtain ⟨x0, x1, x2, h1, h2⟩ := bx.a4c (bx.below hb x115) l (by omega)
     exact ⟨_, run_load_mid _ _ rfl (ev (hd.at 0 rfl rfl rfl rfl)) h1 Tryz.underlying26 rfl info_Rat, fun _ _ => h2⟩
   · exact opk_pure rfl rfl fun a w hb hf hd => ⟨_, run_move rfl, fun _ _ => ((hf 4 (out_of (by kernel_rfl))).trans s112)⟩
   · exact opk_pure rfl rfl fun a w hb hf hd => ⟨_, addr_a4 rfl (ev ((hf 1 (out_of (by kernel_rfl))).trans s109)) (ev (hd.at 0 rfl rfl rfl rfl)) (by omega), fun _ _ => rfl⟩
   · refine opk_pure rfl rfl fun a w hb hf hd => ?_
     obtain ⟨x0, x1, x2, h1, h2⟩ := bx.a4c (bx.below hb x115) g (by omega)
     exact ⟨_, run_load_mid _ _ rfl (ev (hd.at 0 rfl rfl rfl rfl)) h1 Tryz.underlying26 rfl info_Rat, fun _ _ => h2⟩
   · refine opk_pure rfl rfl fun a w hb hf hd => ?_
     have kk1 : (mC (qs l) k).S w (sl a 29) := (hd.at 0 rfl rfl rfl rfl)
     have kk2 : (mC (qs g) k).S w (sl a 32) := (hd.at 1 rfl rfl rfl rfl)
     obtain ⟨x0, x1, x2, qq1⟩ := cv3 (isC.cv kk1)
     obtain ⟨y0, y1, y2, qq2⟩ := cv3 (isC.cv kk2)
     rw [qq1] at kk1; rw [qq2] at kk2
     exact ⟨_, run_build_op _ _ rfl (built_pair qq1 qq2), fun _ _ => ⟨x0, x1, x2, y0, y1, y2, rfl, kk1, kk2⟩⟩
   intro a531 w532 ms533
   have B534 := B106.trans (ms533.b.mono B106.size)
   have d536 := ms533.df.trans d108
   have s538 := (ms533.fr 2 (out_of (by kernel_rfl))).trans s110
   have s541 : (mA4C qs k).S w532 (sl a531 7) := by rw [ms533.fr 7 (out_of (by kernel_rfl))]; exact (mA4C qs k).mono _ _ _ (Ext.of ms533.b) s113
   have x544 := bx.below ms533.b x115
   have x545 := bx.below ms533.b x116
   have s546 : (mP (mC (qs l) k) (mC (qs g) k)).S w532 (sl a531 33) := ms533.g 6 _ 33 rfl (by decide) trivial rfl
   refine tl_put rfl rfl rfl (m' := (mP (mC (qs l) k) (mC (qs g) k))) x545 (ev s538) s546 (mP.cv (fun _ h => (isC.cv h)) (fun _ h => (isC.cv h)) s546) info_Interval ?_
   intro w547 x548 ex549 ot550 bl551
   have B552 := bl551 w (by omega) B534
   have x553 := ot550 (by omega) x544
   have s554 := (mA4C qs k).mono _ _ _ ex549 s541
   have s555 := (mP (mC (qs l) k) (mC (qs g) k)).mono _ _ _ ex549 s546
   refine wpList_nil (then_normal ?_)
   refine wp_ret ?_
   exact end_cell rfl d536 s538 x548 Tryz.underlying44 rfl info_Interval B552 (fun v h => (by have e := ext_end hp91 (by omega); rw [← e.1, ← e.2]; exact h))
end Go.Proofs.YtbjijmjhlpkomaaGreatDoor

namespace Go.Proofs.YtbjijmjhlpkomaaGreatDoor
open Go.RowKit Num

theorem iv_mul {p0 q0 : Rat} {k0 : Nat} {p1 q1 : Rat} {k1 : Nat} {v0 : Value} {v1 : Value} {w : World} (hk0 : k0 ≤ 29999) (hk1 : k1 ≤ 29999) (pf0 : (mP (mR p0 k0) (mR q0 k0)).S w v0) (pf1 : (mP (mR p1 k1) (mR q1 k1)).S w v1) (hT : Tb w) :
   Calls Tryz.prog 53 #[v0, v1] w (RetS (mP (mC (mn4 (p0 * p1) (p0 * q1) (q0 * p1) (q0 * q1)) (k0 + k1 + 3)) (mC (mx4 (p0 * p1) (p0 * q1) (q0 * p1) (q0 * q1)) (k0 + k1 + 3))).S w) := by
 obtain ⟨c0, rfl, n0, u0, o0⟩ := (mP.cv (fun _ h => (isR.cv h)) (fun _ h => (isR.cv h)) pf0)
 obtain ⟨c1, rfl, n1, u1, o1⟩ := (mP.cv (fun _ h => (isR.cv h)) (fun _ h => (isR.cv h)) pf1)
 refine calls_abs 27 Tryz.func53 rfl rfl (by simp) ?_
 intro a0 z0 d0 ha
 have s0_0 : sl a0 0 = .agg c0 := ha 0 (by simp)
 have s0_1 : sl a0 1 = .agg c1 := ha 1 (by simp)
 have B0 : Below w.heap.size w w := Below.refl _ _
 refine wp_seq ?_
 refine wp_region_seq 0 (mG []) (by rw [z0]; kernel_rfl) (mG_mono _) (ops_ok trivial) ?_
 intro a1 w2 ms3
 have B4 := B0.trans (ms3.b.mono B0.size)
 have z5 := ms3.sz.trans z0
 have d6 := ms3.df.trans d0
 have s7 := (ms3.fr 0 (out_of (by kernel_rfl))).trans s0_0
 have s8 := (ms3.fr 1 (out_of (by kernel_rfl))).trans s0_1
 refine tl_new rfl rfl (run_box_op rfl (ev s7)) (by rw [z5]; decide) ?_
 intro a9 w10 g11 z12 d13 s14 fr15 hg16 hc17 hb18
 have z19 := z12.trans z5
 have d20 := d13.trans d6
 have s22 := (fr15 1 (by decide)).trans s8
 have B23 := B4.trans (hb18.mono B4.size)
 have lw25 : w.heap.size ≤ g11 := by have := B4.size; omega
 have x24 : bx 44 6 (mP (mR p0 k0) (mR q0 k0)) w10 g11 := ⟨c0, hc17, n0, u0, o0, (mP (mR p0 k0) (mR q0 k0)).mono _ _ _ (Ext.of B23) pf0⟩
 refine tl_new rfl rfl (run_box_op rfl (ev s22)) (by rw [z19]; decide) ?_
 intro a26 w27 g28 z29 d30 s31 fr32 hg33 hc34 hb35
 have z36 := z29.trans z19
 have d37 := d30.trans d20
 have s40 := (fr32 2 (by decide)).trans s14
 have B41 := B23.trans (hb35.mono B23.size)
 have ne43 : g11 ≠ g28 := by have := x24.lt; omega
 have x42 := bx.below hb35 x24
 have lw45 : w.heap.size ≤ g28 := by have := B23.size; omega
 have x44 : bx 44 6 (mP (mR p1 k1) (mR q1 k1)) w27 g28 := ⟨c1, hc34, n1, u1, o1, (mP (mR p1 k1) (mR q1 k1)).mono _ _ _ (Ext.of B41) pf1⟩
 refine tl_new rfl rfl (run_alloc_op rfl zero_Interval) (by rw [z36]; decide) ?_
 intro a46 w47 g48 z49 d50 s51 fr52 hg53 hc54 hb55
 have z56 := z49.trans z36
 have d57 := d50.trans d37
 have s60 := (fr52 2 (by decide)).trans s40
 have s61 := (fr52 3 (by decide)).trans s31
 have B62 := B41.trans (hb55.mono B41.size)
 have ne64 : g11 ≠ g48 := by have := x42.lt; omega
 have x63 := bx.below hb55 x42
 have ne66 : g28 ≠ g48 := by have := x44.lt; omega
 have x65 := bx.below hb55 x44
 have lw68 : w.heap.size ≤ g48 := by have := B41.size; omega
 have x67 := bx_Interval hc54
 refine wpList_nil (then_normal ?_)
 refine wp_seq ?_
 refine wp_region_mono 22 [] (mG [(mV (.pointer (some ⟨g11, 0, none⟩))).b, (mR p0 k0).b, (mV (.pointer (some ⟨g28, 0, none⟩))).b, (mR p1 k1).b, (mC (p0 * p1) (k0 + k1 + 3)).b, (mV (.pointer (some ⟨g11, 0, none⟩))).b, (mR p0 k0).b, (mV (.pointer (some ⟨g28, 3, none⟩))).b, (mR q1 k1).b, (mC (p0 * q1) (k0 + k1 + 3)).b, (mV (.pointer (some ⟨g11, 3, none⟩))).b, (mR q0 k0).b, (mV (.pointer (some ⟨g28, 0, none⟩))).b, (mR p1 k1).b, (mC (q0 * p1) (k0 + k1 + 3)).b, (mV (.pointer (some ⟨g11, 3, none⟩))).b, (mR q0 k0).b, (mV (.pointer (some ⟨g28, 3, none⟩))).b, (mR q1 k1).b, (mC (q0 * q1) (k0 + k1 + 3)).b, (mA4C (qs4 (p0 * p1) (p0 * q1) (q0 * p1) (q0 * q1)) (k0 + k1 + 3)).b, (mP (mC (mn4 ((qs4 (p0 * p1) (p0 * q1) (q0 * p1) (q0 * q1)) 0) ((qs4 (p0 * p1) (p0 * q1) (q0 * p1) (q0 * q1)) 1) ((qs4 (p0 * p1) (p0 * q1) (q0 * p1) (q0 * q1)) 2) ((qs4 (p0 * p1) (p0 * q1) (q0 * p1) (q0 * q1)) 3)) (k0 + k1 + 3)) (mC (mx4 ((qs4 (p0 * p1) (p0 * q1) (q0 * p1) (q0 * q1)) 0) ((qs4 (p0 * p1) (p0 * q1) (q0 * p1) (q0 * q1)) 1) ((qs4 (p0 * p1) (p0 * q1) (q0 * p1) (q0 * q1)) 2) ((qs4 (p0 * p1) (p0 * q1) (q0 * p1) (q0 * q1)) 3)) (k0 + k1 + 3))).b]) (by kernel_rfl) (by rw [z56]; kernel_rfl) (fun h => absurd rfl h) (mG_mono _) (ops_ok ⟨?_, ?_, ?_, ?_, ?_, ?_, ?_, ?_, ?_, ?_, ?_, ?_, ?_, ?_, ?_, ?_, ?_, ?_, ?_, ?_, ?_, ?_, trivial⟩) ?_
 · exact opk_pure rfl rfl fun a w hb hf hd => ⟨_, fa_Interval_0 rfl (ev ((hf 2 (out_of (by kernel_rfl))).trans s60)), fun _ _ => rfl⟩
 · refine opk_pure rfl rfl fun a w hb hf hd => ?_
   obtain ⟨x0, x1, x2, h1, h2⟩ := (bx.below hb x63).lo
   exact ⟨_, run_load_mid _ _ rfl (ev (hd.at 0 rfl rfl rfl rfl)) h1 Tryz.underlying26 rfl info_Rat, fun _ _ => h2⟩
 · exact opk_pure rfl rfl fun a w hb hf hd => ⟨_, fa_Interval_0 rfl (ev ((hf 3 (out_of (by kernel_rfl))).trans s61)), fun _ _ => rfl⟩
 · refine opk_pure rfl rfl fun a w hb hf hd => ?_
   obtain ⟨x0, x1, x2, h1, h2⟩ := (bx.below hb x65).lo
   exact ⟨_, run_load_mid _ _ rfl (ev (hd.at 0 rfl rfl rfl rfl)) h1 Tryz.underlying26 rfl info_Rat, fun _ _ => h2⟩
 · refine opk_call rfl rfl fun a w hb hf hd => ?_
   have e0 : a.eval (.tmp 6) = sl a 6 := rfl
   have e1 : a.eval (.tmp 8) = sl a 8 := rfl
   exact ⟨110, #[sl a 6, sl a 8], run_call rfl rfl (fun _ _ => by kernel_rfl) (args_2 e0 e1), (c_mul (by omega) (by omega) (hd.at 0 rfl rfl rfl rfl) (hd.at 1 rfl rfl rfl rfl) (hT.below (B62.trans (hb.mono B62.size)))).mono fun _ _ r => RetS.imp (fun _ _ h => fun _ _ => (isC.mono h (by omega))) r⟩
 · exact opk_pure rfl rfl fun a w hb hf hd => ⟨_, fa_Interval_0 rfl (ev ((hf 2 (out_of (by kernel_rfl))).trans s60)), fun _ _ => rfl⟩
 · refine opk_pure rfl rfl fun a w hb hf hd => ?_
   obtain ⟨x0, x1, x2, h1, h2⟩ := (bx.below hb x63).lo
   exact ⟨_, run_load_mid _ _ rfl (ev (hd.at 0 rfl rfl rfl rfl)) h1 Tryz.underlying26 rfl info_Rat, fun _ _ => h2⟩
 · exact opk_pure rfl rfl fun a w hb hf hd => ⟨_, fa_Interval_1 rfl (ev ((hf 3 (out_of (by kernel_rfl))).trans s61)), fun _ _ => rfl⟩
 · refine opk_pure rfl rfl fun a w hb hf hd => ?_
   obtain ⟨x0, x1, x2, h1, h2⟩ := (bx.below hb x65).hi
   exact ⟨_, run_load_mid _ _ rfl (ev (hd.at 0 rfl rfl rfl rfl)) h1 Tryz.underlying26 rfl info_Rat, fun _ _ => h2⟩
 · refine opk_call rfl rfl fun a w hb hf hd => ?_
   have e0 : a.eval (.tmp 11) = sl a 11 := rfl
   have e1 : a.eval (.tmp 13) = sl a 13 := rfl
   exact ⟨110, #[sl a 11, sl a 13], run_call rfl rfl (fun _ _ => by kernel_rfl) (args_2 e0 e1), (c_mul (by omega) (by omega) (hd.at 0 rfl rfl rfl rfl) (hd.at 1 rfl rfl rfl rfl) (hT.below (B62.trans (hb.mono B62.size)))).mono fun _ _ r => RetS.imp (fun _ _ h => fun _ _ => (isC.mono h (by omega))) r⟩
 · exact opk_pure rfl rfl fun a w hb hf hd => ⟨_, fa_Interval_1 rfl (ev ((hf 2 (out_of (by kernel_rfl))).trans s60)), fun _ _ => rfl⟩
 · refine opk_pure rfl rfl fun a w hb hf hd => ?_
   obtain ⟨x0, x1, x2, h1, h2⟩ := (bx.below hb x63).hi
   exact ⟨_, run_load_mid _ _ rfl (ev (hd.at 0 rfl rfl rfl rfl)) h1 Tryz.underlying26 rfl info_Rat, fun _ _ => h2⟩
 · exact opk_pure rfl rfl fun a w hb hf hd => ⟨_, fa_Interval_0 rfl (ev ((hf 3 (out_of (by kernel_rfl))).trans s61)), fun _ _ => rfl⟩
 · refine opk_pure rfl rfl fun a w hb hf hd => ?_
   obtain ⟨x0, x1, x2, h1, h2⟩ := (bx.below hb x65).lo
   exact ⟨_, run_load_mid _ _ rfl (ev (hd.at 0 rfl rfl rfl rfl)) h1 Tryz.underlying26 rfl info_Rat, fun _ _ => h2⟩
 · refine opk_call rfl rfl fun a w hb hf hd => ?_
   have e0 : a.eval (.tmp 16) = sl a 16 := rfl
   have e1 : a.eval (.tmp 18) = sl a 18 := rfl
   exact ⟨110, #[sl a 16, sl a 18], run_call rfl rfl (fun _ _ => by kernel_rfl) (args_2 e0 e1), (c_mul (by omega) (by omega) (hd.at 0 rfl rfl rfl rfl) (hd.at 1 rfl rfl rfl rfl) (hT.below (B62.trans (hb.mono B62.size)))).mono fun _ _ r => RetS.imp (fun _ _ h => fun _ _ => (isC.mono h (by omega))) r⟩
 · exact opk_pure rfl rfl fun a w hb hf hd => ⟨_, fa_Interval_1 rfl (ev ((hf 2 (out_of (by kernel_rfl))).trans s60)), fun _ _ => rfl⟩
 · refine opk_pure rfl rfl fun a w hb hf hd => ?_
   obtain ⟨x0, x1, x2, h1, h2⟩ := (bx.below hb x63).hi
   exact ⟨_, run_load_mid _ _ rfl (ev (hd.at 0 rfl rfl rfl rfl)) h1 Tryz.underlying26 rfl info_Rat, fun _ _ => h2⟩
 · exact opk_pure rfl rfl fun a w hb hf hd => ⟨_, fa_Interval_1 rfl (ev ((hf 3 (out_of (by kernel_rfl))).trans s61)), fun _ _ => rfl⟩
 · refine opk_pure rfl rfl fun a w hb hf hd => ?_
   obtain ⟨x0, x1, x2, h1, h2⟩ := (bx.below hb x65).hi
   exact ⟨_, run_load_mid _ _ rfl (ev (hd.at 0 rfl rfl rfl rfl)) h1 Tryz.underlying26 rfl info_Rat, fun _ _ => h2⟩
 · refine opk_call rfl rfl fun a w hb hf hd => ?_
   have e0 : a.eval (.tmp 21) = sl a 21 := rfl
   have e1 : a.eval (.tmp 23) = sl a 23 := rfl
   exact ⟨110, #[sl a 21, sl a 23], run_call rfl rfl (fun _ _ => by kernel_rfl) (args_2 e0 e1), (c_mul (by omega) (by omega) (hd.at 0 rfl rfl rfl rfl) (hd.at 1 rfl rfl rfl rfl) (hT.below (B62.trans (hb.mono B62.size)))).mono fun _ _ r => RetS.imp (fun _ _ h => fun _ _ => (isC.mono h (by omega))) r⟩
 · refine opk_pure rfl rfl fun a w hb hf hd => ?_
   have kk0 : (mC (p0 * p1) (k0 + k1 + 3)).S w (sl a 9) := (hd.at 0 rfl rfl rfl rfl)
   obtain ⟨x00, x01, x02, qq0⟩ := cv3 (isC.cv kk0)
   rw [qq0] at kk0
   have kk1 : (mC (p0 * q1) (k0 + k1 + 3)).S w (sl a 14) := (hd.at 1 rfl rfl rfl rfl)
   obtain ⟨x10, x11, x12, qq1⟩ := cv3 (isC.cv kk1)
   rw [qq1] at kk1
   have kk2 : (mC (q0 * p1) (k0 + k1 + 3)).S w (sl a 19) := (hd.at 2 rfl rfl rfl rfl)
   obtain ⟨x20, x21, x22, qq2⟩ := cv3 (isC.cv kk2)
   rw [qq2] at kk2
   have kk3 : (mC (q0 * q1) (k0 + k1 + 3)).S w (sl a 24) := (hd.at 3 rfl rfl rfl rfl)
   obtain ⟨x30, x31, x32, qq3⟩ := cv3 (isC.cv kk3)
   rw [qq3] at kk3
   exact ⟨_, run_build_op _ _ rfl (built_a4 qq0 qq1 qq2 qq3), fun _ _ => ⟨x00, x01, x02, x10, x11, x12, x20, x21, x22, x30, x31, x32, rfl, kk0, kk1, kk2, kk3⟩⟩
 · refine opk_call rfl rfl fun a w hb hf hd => ?_
   have e0 : a.eval (.tmp 25) = sl a 25 := rfl
   exact ⟨112, #[sl a 25], run_call rfl rfl (fun _ _ => by kernel_rfl) (args_1 e0), (iv_extremesC (qs := (qs4 (p0 * p1) (p0 * q1) (q0 * p1) (q0 * q1))) (k := k0 + k1 + 3) (by omega) (hd.at 0 rfl rfl rfl rfl) (hT.below (B62.trans (hb.mono B62.size)))).mono fun _ _ r => RetS.imp (fun _ _ h => fun _ _ => (mP_imp (fun _ h => (isC.mono h (by omega))) (fun _ h => (isC.mono h (by omega))) h)) r⟩
 intro a69 w70 ms71
 have B72 := B62.trans (ms71.b.mono B62.size)
 have d74 := ms71.df.trans d57
 have s75 := (ms71.fr 4 (out_of (by kernel_rfl))).trans s51
 have x76 := bx.below ms71.b x63
 have x77 := bx.below ms71.b x65
 have x78 := bx.below ms71.b x67
 have s79 : (mP (mC (mn4 ((qs4 (p0 * p1) (p0 * q1) (q0 * p1) (q0 * q1)) 0) ((qs4 (p0 * p1) (p0 * q1) (q0 * p1) (q0 * q1)) 1) ((qs4 (p0 * p1) (p0 * q1) (q0 * p1) (q0 * q1)) 2) ((qs4 (p0 * p1) (p0 * q1) (q0 * p1) (q0 * q1)) 3)) (k0 + k1 + 3)) (mC (mx4 ((qs4 (p0 * p1) (p0 * q1) (q0 * p1) (q0 * q1)) 0) ((qs4 (p0 * p1) (p0 * q1) (q0 * p1) (q0 * q1)) 1) ((qs4 (p0 * p1) (p0 * q1) (q0 * p1) (q0 * q1)) 2) ((qs4 (p0 * p1) (p0 * q1) (q0 * p1) (q0 * q1)) 3)) (k0 + k1 + 3))).S w70 (sl a69 26) := ms71.g 21 _ 26 rfl (by decide) trivial rfl
 refine tl_put rfl rfl rfl (m' := (mP (mC (mn4 ((qs4 (p0 * p1) (p0 * q1) (q0 * p1) (q0 * q1)) 0) ((qs4 (p0 * p1) (p0 * q1) (q0 * p1) (q0 * q1)) 1) ((qs4 (p0 * p1) (p0 * q1) (q0 * p1) (q0 * q1)) 2) ((qs4 (p0 * p1) (p0 * q1) (q0 * p1) (q0 * q1)) 3)) (k0 + k1 + 3)) (mC (mx4 ((qs4 (p0 * p1) (p0 * q1) (q0 * p1) (q0 * q1)) 0) ((qs4 (p0 * p1) (p0 * q1) (q0 * p1) (q0 * q1)) 1) ((qs4 (p0 * p1) (p0 * q1) (q0 * p1) (q0 * q1)) 2) ((qs4 (p0 * p1) (p0 * q1) (q0 * p1) (q0 * q1)) 3)) (k0 + k1 + 3)))) x78 (ev s75) s79 (mP.cv (fun _ h => (isC.cv h)) (fun _ h => (isC.cv h)) s79) info_Interval ?_
 intro w80 x81 ex82 ot83 bl84
 have B85 := bl84 w (by omega) B72
 have x86 := ot83 (by omega) x76
 have x87 := ot83 (by omega) x77
 have s88 := (mP (mC (mn4 ((qs4 (p0 * p1) (p0 * q1) (q0 * p1) (q0 * q1)) 0) ((qs4 (p0 * p1) (p0 * q1) (q0 * p1) (q0 * q1)) 1) ((qs4 (p0 * p1) (p0 * q1) (q0 * p1) (q0 * q1)) 2) ((qs4 (p0 * p1) (p0 * q1) (q0 * p1) (q0 * q1)) 3)) (k0 + k1 + 3)) (mC (mx4 ((qs4 (p0 * p1) (p0 * q1) (q0 * p1) (q0 * q1)) 0) ((qs4 (p0 * p1) (p0 * q1) (q0 * p1) (q0 * q1)) 1) ((qs4 (p0 * p1) (p0 * q1) (q0 * p1) (q0 * q1)) 2) ((qs4 (p0 * p1) (p0 * q1) (q0 * p1) (q0 * q1)) 3)) (k0 + k1 + 3))).mono _ _ _ ex82 s79
 refine wpList_nil (then_normal ?_)
 refine wp_ret ?_
 exact end_cell rfl d74 s75 x81 Tryz.underlying44 rfl info_Interval B85 (fun v h => (mP_imp (fun _ h => (isC.mono h (by omega))) (fun _ h => (isC.mono h (by omega))) h))

theorem iv_div {p0 q0 : Rat} {k0 : Nat} {p1 q1 : Rat} {k1 : Nat} {v0 : Value} {v1 : Value} {w : World} (hk0 : k0 ≤ 9999) (hk1 : k1 ≤ 9999) (pf0 : (mP (mR p0 k0) (mR q0 k0)).S w v0) (pf1 : (mP (mR p1 k1) (mR q1 k1)).S w v1) (hT : Tb w) :
   Calls Tryz.prog 26 #[v0, v1] w (RetS (mT (mP (mE (mn4 (p0 * mnQ (((1 : Int) : Rat) / p1) (((1 : Int) : Rat) / q1)) (p0 * mxQ (((1 : Int) : Rat) / p1) (((1 : Int) : Rat) / q1)) (q0 * mnQ (((1 : Int) : Rat) / p1) (((1 : Int) : Rat) / q1)) (q0 * mxQ (((1 : Int) : Rat) / p1) (((1 : Int) : Rat) / q1))) (sgE p1 q1) (k0 + k1 + 8)) (mE (mx4 (p0 * mnQ (((1 : Int) : Rat) / p1) (((1 : Int) : Rat) / q1)) (p0 * mxQ (((1 : Int) : Rat) / p1) (((1 : Int) : Rat) / q1)) (q0 * mnQ (((1 : Int) : Rat) / p1) (((1 : Int) : Rat) / q1)) (q0 * mxQ (((1 : Int) : Rat) / p1) (((1 : Int) : Rat) / q1))) (sgE p1 q1) (k0 + k1 + 8))) (mV (.int .i64 (sgE p1 q1)))).S w) := by
 obtain ⟨c0, rfl, n0, u0, o0⟩ := (mP.cv (fun _ h => (isR.cv h)) (fun _ h => (isR.cv h)) pf0)
 obtain ⟨c1, rfl, n1, u1, o1⟩ := (mP.cv (fun _ h => (isR.cv h)) (fun _ h => (isR.cv h)) pf1)
 refine calls_abs 19 Tryz.func26 rfl rfl (by simp) ?_
 intro a0 z0 d0 ha
 have s0_0 : sl a0 0 = .agg c0 := ha 0 (by simp)
 have s0_1 : sl a0 1 = .agg c1 := ha 1 (by simp)
 have B0 : Below w.heap.size w w := Below.refl _ _
 refine wp_seq ?_
 refine wp_region_seq 0 (mG []) (by rw [z0]; kernel_rfl) (mG_mono _) (ops_ok trivial) ?_
 intro a1 w2 ms3
 have B4 := B0.trans (ms3.b.mono B0.size)
 have z5 := ms3.sz.trans z0
 have d6 := ms3.df.trans d0
 have s7 := (ms3.fr 0 (out_of (by kernel_rfl))).trans s0_0
 have s8 := (ms3.fr 1 (out_of (by kernel_rfl))).trans s0_1
 refine tl_new rfl rfl (run_box_op rfl (ev s7)) (by rw [z5]; decide) ?_
 intro a9 w10 g11 z12 d13 s14 fr15 hg16 hc17 hb18
 have z19 := z12.trans z5
 have d20 := d13.trans d6
 have s22 := (fr15 1 (by decide)).trans s8
 have B23 := B4.trans (hb18.mono B4.size)
 have lw25 : w.heap.size ≤ g11 := by have := B4.size; omega
 have x24 : bx 44 6 (mP (mR p0 k0) (mR q0 k0)) w10 g11 := ⟨c0, hc17, n0, u0, o0, (mP (mR p0 k0) (mR q0 k0)).mono _ _ _ (Ext.of B23) pf0⟩
 refine tl_new rfl rfl (run_box_op rfl (ev s22)) (by rw [z19]; decide) ?_
 intro a26 w27 g28 z29 d30 s31 fr32 hg33 hc34 hb35
 have z36 := z29.trans z19
 have d37 := d30.trans d20
 have s40 := (fr32 2 (by decide)).trans s14
 have B41 := B23.trans (hb35.mono B23.size)
 have ne43 : g11 ≠ g28 := by have := x24.lt; omega
 have x42 := bx.below hb35 x24
 have lw45 : w.heap.size ≤ g28 := by have := B23.size; omega
 have x44 : bx 44 6 (mP (mR p1 k1) (mR q1 k1)) w27 g28 := ⟨c1, hc34, n1, u1, o1, (mP (mR p1 k1) (mR q1 k1)).mono _ _ _ (Ext.of B41) pf1⟩
 refine tl_new rfl rfl (run_alloc_op rfl zero_Interval) (by rw [z36]; decide) ?_
 intro a46 w47 g48 z49 d50 s51 fr52 hg53 hc54 hb55
 have z56 := z49.trans z36
 have d57 := d50.trans d37
 have s60 := (fr52 2 (by decide)).trans s40
 have s61 := (fr52 3 (by decide)).trans s31
 have B62 := B41.trans (hb55.mono B41.size)
 have ne64 : g11 ≠ g48 := by have := x42.lt; omega
 have x63 := bx.below hb55 x42
 have ne66 : g28 ≠ g48 := by have := x44.lt; omega
 have x65 := bx.below hb55 x44
 have lw68 : w.heap.size ≤ g48 := by have := B41.size; omega
 have x67 := bx_Interval hc54
 refine tl_set rfl rfl (run_assign rfl) (by rw [z56]; decide) ?_
 intro a69 z70 d71 s72 fr73
 have z75 := z70.trans z56
 have d76 := d71.trans d57
 have s79 := (fr73 2 (by decide)).trans s60
 have s80 := (fr73 3 (by decide)).trans s61
 have s81 := (fr73 4 (by decide)).trans s51
 refine wpList_nil (then_normal ?_)
 refine wp_seq ?_
 refine wp_seq ?_
 refine wp_region_seq 3 (mG [(mP (mR p1 k1) (mR q1 k1)).b, (mV (.int .i64 (sgI p1 q1))).b, (mV (.bool (decide ((sgI p1 q1) = 0)))).b]) (by rw [z75]; kernel_rfl) (mG_mono _) (ops_ok ⟨?_, ?_, ?_, trivial⟩) ?_
 · refine opk_pure rfl rfl fun a w hb hf hd => ?_
   obtain ⟨cs, h1, h2, h3, h4, h5⟩ := bx.below hb x65
   exact ⟨_, run_load_row _ _ rfl (ev ((hf 3 (out_of (by kernel_rfl))).trans s80)) h1 Tryz.underlying44 rfl (by rw [h2]; exact info_Interval), fun _ _ => h5⟩
 · refine opk_call rfl rfl fun a w hb hf hd => ?_
   have e0 : a.eval (.tmp 6) = sl a 6 := rfl
   exact ⟨37, #[sl a 6], run_call rfl rfl (fun _ _ => by kernel_rfl) (args_1 e0), (iv_sign  (by omega) (mP_imp (m1' := (mR p1 k1)) (m2' := (mR q1 k1)) (fun _ h => h) (fun _ h => h) (hd.at 0 rfl rfl rfl rfl))).mono fun _ _ r => RetS.imp (fun _ _ h => fun _ _ => h) r⟩
 · exact opk_pure rfl rfl fun a w hb hf hd => ⟨_, run_eql rfl (ev (hd.at 0 rfl rfl rfl rfl)) rfl, fun _ _ => rfl⟩
 intro a82 w83 ms84
 have B85 := B62.trans (ms84.b.mono B62.size)
 have z86 := ms84.sz.trans z75
 have d87 := ms84.df.trans d76
 have s88 := (ms84.fr 2 (out_of (by kernel_rfl))).trans s79
 have s89 := (ms84.fr 3 (out_of (by kernel_rfl))).trans s80
 have s90 := (ms84.fr 4 (out_of (by kernel_rfl))).trans s81
 have x92 := bx.below ms84.b x63
 have x93 := bx.below ms84.b x65
 have x94 := bx.below ms84.b x67
 have s95 : sl a82 8 = .bool (decide ((sgI p1 q1) = 0)) := ms84.g 2 _ 8 rfl (by decide) trivial rfl
 refine wpList_nil (then_normal ?_)
 refine cond_b (decide ((sgI p1 q1) = 0)) (ev s95) (fun hb96 => ?_) (fun hb96 => ?_)
 · skip
   have hb96p := of_decide_eq_true hb96
   refine wp_seq ?_
   refine wp_region_seq 1 (mG [(mP mZ mZ).b]) (by rw [z86]; kernel_rfl) (mG_mono _) (ops_ok ⟨?_, trivial⟩) ?_
   · exact opk_pure rfl rfl fun a w hb hf hd => ⟨_, run_build_op _ _ rfl built_zero6, fun _ _ => zero6 w⟩
   intro a97 w98 ms99
   have B100 := B85.trans (ms99.b.mono B85.size)
   have z101 := ms99.sz.trans z86
   have d102 := ms99.df.trans d87
   have s105 := (ms99.fr 4 (out_of (by kernel_rfl))).trans s90
   have x107 := bx.below ms99.b x92
   have x108 := bx.below ms99.b x93
   have x109 := bx.below ms99.b x94
   have s110 : (mP mZ mZ).S w98 (sl a97 9) := ms99.g 0 _ 9 rfl (by decide) trivial rfl
   refine tl_put rfl rfl rfl (m' := (mP mZ mZ)) x109 (ev s105) s110 (mP.cv (fun _ h => (isZ.cv h)) (fun _ h => (isZ.cv h)) s110) info_Interval ?_
   intro w111 x112 ex113 ot114 bl115
   have B116 := bl115 w (by omega) B100
   have x117 := ot114 (by omega) x107
   have x118 := ot114 (by omega) x108
   have s119 := (mP mZ mZ).mono _ _ _ ex113 s110
   refine tl_set rfl rfl (run_assign rfl) (by rw [z101]; decide) ?_
   intro a120 z121 d122 s123 fr124
   have s125 : sl a120 5 = .int .i64 3 := s123.trans rfl
   have d127 := d122.trans d102
   have s130 := (fr124 4 (by decide)).trans s105
   refine wpList_nil (then_normal ?_)
   refine wp_ret ?_
   exact end_cell_tmp rfl d127 s130 x112 Tryz.underlying44 rfl info_Interval B116 (fun v h => ⟨v, _, rfl, (mP_imp (fun _ h => isZ.e (by rw [sgE_t hb96]; decide) h) (fun _ h => isZ.e (by rw [sgE_t hb96]; decide) h) h), (s125).trans (by first | rw [sgE_t (by assumption)] | rw [sgE_f (by assumption)])⟩)
 · skip
   have hb96p := of_decide_eq_false hb96
   refine wp_skip (then_normal ?_)
   refine wp_seq ?_
   refine wp_region_mono 9 [] (mG [(mP (mR p0 k0) (mR q0 k0)).b, (mV (.pointer (some ⟨g28, 0, none⟩))).b, (mR p1 k1).b, (mR (((1 : Int) : Rat) / p1) (k1 + 5)).b, (mV (.pointer (some ⟨g28, 3, none⟩))).b, (mR q1 k1).b, (mR (((1 : Int) : Rat) / q1) (k1 + 5)).b, (mP (mR (((1 : Int) : Rat) / p1) (k1 + 5)) (mR (((1 : Int) : Rat) / q1) (k1 + 5))).b, (mP (mC (mn4 (p0 * (((1 : Int) : Rat) / p1)) (p0 * (((1 : Int) : Rat) / q1)) (q0 * (((1 : Int) : Rat) / p1)) (q0 * (((1 : Int) : Rat) / q1))) (k0 + k1 + 5 + 3)) (mC (mx4 (p0 * (((1 : Int) : Rat) / p1)) (p0 * (((1 : Int) : Rat) / q1)) (q0 * (((1 : Int) : Rat) / p1)) (q0 * (((1 : Int) : Rat) / q1))) (k0 + k1 + 5 + 3))).b]) (by kernel_rfl) (by rw [z86]; kernel_rfl) (fun h => absurd rfl h) (mG_mono _) (ops_ok ⟨?_, ?_, ?_, ?_, ?_, ?_, ?_, ?_, ?_, trivial⟩) ?_
   · refine opk_pure rfl rfl fun a w hb hf hd => ?_
     obtain ⟨cs, h1, h2, h3, h4, h5⟩ := bx.below hb x92
     exact ⟨_, run_load_row _ _ rfl (ev ((hf 2 (out_of (by kernel_rfl))).trans s88)) h1 Tryz.underlying44 rfl (by rw [h2]; exact info_Interval), fun _ _ => h5⟩
   · exact opk_pure rfl rfl fun a w hb hf hd => ⟨_, fa_Interval_0 rfl (ev ((hf 3 (out_of (by kernel_rfl))).trans s89)), fun _ _ => rfl⟩
   · refine opk_pure rfl rfl fun a w hb hf hd => ?_
     obtain ⟨x0, x1, x2, h1, h2⟩ := (bx.below hb x93).lo
     exact ⟨_, run_load_mid _ _ rfl (ev (hd.at 0 rfl rfl rfl rfl)) h1 Tryz.underlying26 rfl info_Rat, fun _ _ => h2⟩
   · refine opk_call rfl rfl fun a w hb hf hd => ?_
     have e0 : a.eval (.tmp 12) = sl a 12 := rfl
     exact ⟨97, #[sl a 12], run_call rfl rfl (fun _ _ => by kernel_rfl) (args_1 e0), (iv_inverse  (by omega) (hd.at 0 rfl rfl rfl rfl) (hT.below (B85.trans (hb.mono B85.size)))).mono fun _ _ r => RetS.imp (fun _ _ h => fun _ _ => (isR.mono h (by omega))) r⟩
   · exact opk_pure rfl rfl fun a w hb hf hd => ⟨_, fa_Interval_1 rfl (ev ((hf 3 (out_of (by kernel_rfl))).trans s89)), fun _ _ => rfl⟩
   · refine opk_pure rfl rfl fun a w hb hf hd => ?_
     obtain ⟨x0, x1, x2, h1, h2⟩ := (bx.below hb x93).hi
     exact ⟨_, run_load_mid _ _ rfl (ev (hd.at 0 rfl rfl rfl rfl)) h1 Tryz.underlying26 rfl info_Rat, fun _ _ => h2⟩
   · refine opk_call rfl rfl fun a w hb hf hd => ?_
     have e0 : a.eval (.tmp 15) = sl a 15 := rfl
     exact ⟨97, #[sl a 15], run_call rfl rfl (fun _ _ => by kernel_rfl) (args_1 e0), (iv_inverse  (by omega) (hd.at 0 rfl rfl rfl rfl) (hT.below (B85.trans (hb.mono B85.size)))).mono fun _ _ r => RetS.imp (fun _ _ h => fun _ _ => (isR.mono h (by omega))) r⟩
   · refine opk_pure rfl rfl fun a w hb hf hd => ?_
     have kk1 : (mR (((1 : Int) : Rat) / p1) (k1 + 5)).S w (sl a 13) := (hd.at 0 rfl rfl rfl rfl)
     have kk2 : (mR (((1 : Int) : Rat) / q1) (k1 + 5)).S w (sl a 16) := (hd.at 1 rfl rfl rfl rfl)
     obtain ⟨x0, x1, x2, qq1⟩ := cv3 (isR.cv kk1)
     obtain ⟨y0, y1, y2, qq2⟩ := cv3 (isR.cv kk2)
     rw [qq1] at kk1; rw [qq2] at kk2
     exact ⟨_, run_build_op _ _ rfl (built_pair qq1 qq2), fun _ _ => ⟨x0, x1, x2, y0, y1, y2, rfl, kk1, kk2⟩⟩
   · refine opk_call rfl rfl fun a w hb hf hd => ?_
     have e0 : a.eval (.tmp 10) = sl a 10 := rfl
     have e1 : a.eval (.tmp 17) = sl a 17 := rfl
     exact ⟨53, #[sl a 10, sl a 17], run_call rfl rfl (fun _ _ => by kernel_rfl) (args_2 e0 e1), (iv_mul  (by omega) (by omega) (mP_imp (m1' := (mR p0 k0)) (m2' := (mR q0 k0)) (fun _ h => h) (fun _ h => h) (hd.at 0 rfl rfl rfl rfl)) (mP_imp (m1' := (mR (((1 : Int) : Rat) / p1) (k1 + 5))) (m2' := (mR (((1 : Int) : Rat) / q1) (k1 + 5))) (fun _ h => h) (fun _ h => h) (hd.at 1 rfl rfl rfl rfl)) (hT.below (B85.trans (hb.mono B85.size)))).mono fun _ _ r => RetS.imp (fun _ _ h => fun _ _ => (mP_imp (fun _ h => (isC.mono h (by omega))) (fun _ h => (isC.mono h (by omega))) h)) r⟩
   intro a133 w134 ms135
   have B136 := B85.trans (ms135.b.mono B85.size)
   have z137 := ms135.sz.trans z86
   have d138 := ms135.df.trans d87
   have s140 := (ms135.fr 4 (out_of (by kernel_rfl))).trans s90
   have x142 := bx.below ms135.b x92
   have x143 := bx.below ms135.b x93
   have x144 := bx.below ms135.b x94
   have s145 : (mP (mC (mn4 (p0 * (((1 : Int) : Rat) / p1)) (p0 * (((1 : Int) : Rat) / q1)) (q0 * (((1 : Int) : Rat) / p1)) (q0 * (((1 : Int) : Rat) / q1))) (k0 + k1 + 5 + 3)) (mC (mx4 (p0 * (((1 : Int) : Rat) / p1)) (p0 * (((1 : Int) : Rat) / q1)) (q0 * (((1 : Int) : Rat) / p1)) (q0 * (((1 : Int) : Rat) / q1))) (k0 + k1 + 5 + 3))).S w134 (sl a133 18) := ms135.g 8 _ 18 rfl (by decide) trivial rfl
   refine tl_put rfl rfl rfl (m' := (mP (mC (mn4 (p0 * (((1 : Int) : Rat) / p1)) (p0 * (((1 : Int) : Rat) / q1)) (q0 * (((1 : Int) : Rat) / p1)) (q0 * (((1 : Int) : Rat) / q1))) (k0 + k1 + 5 + 3)) (mC (mx4 (p0 * (((1 : Int) : Rat) / p1)) (p0 * (((1 : Int) : Rat) / q1)) (q0 * (((1 : Int) : Rat) / p1)) (q0 * (((1 : Int) : Rat) / q1))) (k0 + k1 + 5 + 3)))) x144 (ev s140) s145 (mP.cv (fun _ h => (isC.cv h)) (fun _ h => (isC.cv h)) s145) info_Interval ?_
   intro w146 x147 ex148 ot149 bl150
   have B151 := bl150 w (by omega) B136
   have x152 := ot149 (by omega) x142
   have x153 := ot149 (by omega) x143
   have s154 := (mP (mC (mn4 (p0 * (((1 : Int) : Rat) / p1)) (p0 * (((1 : Int) : Rat) / q1)) (q0 * (((1 : Int) : Rat) / p1)) (q0 * (((1 : Int) : Rat) / q1))) (k0 + k1 + 5 + 3)) (mC (mx4 (p0 * (((1 : Int) : Rat) / p1)) (p0 * (((1 : Int) : Rat) / q1)) (q0 * (((1 : Int) : Rat) / p1)) (q0 * (((1 : Int) : Rat) / q1))) (k0 + k1 + 5 + 3))).mono _ _ _ ex148 s145
   refine tl_set rfl rfl (run_assign rfl) (by rw [z137]; decide) ?_
   intro a155 z156 d157 s158 fr159
   have s160 : sl a155 5 = .int .i64 0 := s158.trans rfl
   have d162 := d157.trans d138
   have s164 := (fr159 4 (by decide)).trans s140
   refine wpList_nil (then_normal ?_)
   refine wp_ret ?_
   exact end_cell_tmp rfl d162 s164 x147 Tryz.underlying44 rfl info_Interval B151 (fun v h => ⟨v, _, rfl, (mP_imp (fun _ h => isE.mono (isC.e (sgE_f hb96) (isC.of h mn4_ord)) (by omega)) (fun _ h => isE.mono (isC.e (sgE_f hb96) (isC.of h mx4_ord)) (by omega)) h), (s160).trans (by first | rw [sgE_t (by assumption)] | rw [sgE_f (by assumption)])⟩)
end Go.Proofs.YtbjijmjhlpkomaaGreatDoor
