/-  -/
import Derived.Test.YtbjijmjhlpkomaaGreatDoorQcb

set_option linter.unusedVariables false
set_option linter.unusedSimpArgs false
set_option linter.unusedSectionVars false
set_option maxRecDepth 100000
set_option maxHeartbeats 3200000

namespace Go.Proofs.YtbjijmjhlpkomaaGreatDoor
open Go.RowKit Num

theorem iv_ordered {p0 q0 : Rat} {k0 : Nat} {v0 : Value} {w : World} (hk0 : k0 ≤ 199999) (pf0 : (mP (mR p0 k0) (mR q0 k0)).S w v0) (hT : Tb w) :
   Calls Tryz.prog 98 #[v0] w (RetS (mP (mR (mnQ p0 q0) k0) (mR (mxQ p0 q0) k0)).S w) := by
 obtain ⟨c0, rfl, n0, u0, o0⟩ := (mP.cv (fun _ h => (isR.cv h)) (fun _ h => (isR.cv h)) pf0)
 refine calls_abs 16 Tryz.func98 rfl rfl (by simp) ?_
 intro a0 z0 d0 ha
 have s0_0 : sl a0 0 = .agg c0 := ha 0 (by simp)
 have B0 : Below w.heap.size w w := Below.refl _ _
 refine wp_seq ?_
 refine wp_region_seq 0 (mG []) (by rw [z0]; kernel_rfl) (mG_mono _) (ops_ok trivial) ?_
 intro a1 w2 ms3
 have B4 := B0.trans (ms3.b.mono B0.size)
 have z5 := ms3.sz.trans z0
 have d6 := ms3.df.trans d0
 have s7 := (ms3.fr 0 (out_of (by kernel_rfl))).trans s0_0
 refine tl_new rfl rfl (run_box_op rfl (ev s7)) (by rw [z5]; decide) ?_
 intro a8 w9 g10 z11 d12 s13 fr14 hg15 hc16 hb17
 have z18 := z11.trans z5
 have d19 := d12.trans d6
 have B21 := B4.trans (hb17.mono B4.size)
 have lw23 : w.heap.size ≤ g10 := by have := B4.size; omega
 have x22 : bx 44 6 (mP (mR p0 k0) (mR q0 k0)) w9 g10 := ⟨c0, hc16, n0, u0, o0, (mP (mR p0 k0) (mR q0 k0)).mono _ _ _ (Ext.of B21) pf0⟩
 refine tl_new rfl rfl (run_alloc_op rfl zero_Interval) (by rw [z18]; decide) ?_
 intro a24 w25 g26 z27 d28 s29 fr30 hg31 hc32 hb33
 have z34 := z27.trans z18
 have d35 := d28.trans d19
 have s37 := (fr30 1 (by decide)).trans s13
 have B38 := B21.trans (hb33.mono B21.size)
 have ne40 : g10 ≠ g26 := by have := x22.lt; omega
 have x39 := bx.below hb33 x22
 have lw42 : w.heap.size ≤ g26 := by have := B21.size; omega
 have x41 := bx_Interval hc32
 refine wpList_nil (then_normal ?_)
 refine wp_seq ?_
 refine wp_seq ?_
 refine wp_region_seq 6 (mG [(mV (.pointer (some ⟨g10, 0, none⟩))).b, (mR p0 k0).b, (mV (.pointer (some ⟨g10, 3, none⟩))).b, (mR q0 k0).b, (mV (.int .i64 (cmpQ p0 q0))).b, (mV (.bool (decide (0 < (cmpQ p0 q0))))).b]) (by rw [z34]; kernel_rfl) (mG_mono _) (ops_ok ⟨?_, ?_, ?_, ?_, ?_, ?_, trivial⟩) ?_
 · exact opk_pure rfl rfl fun a w hb hf hd => ⟨_, fa_Interval_0 rfl (ev ((hf 1 (out_of (by kernel_rfl))).trans s37)), fun _ _ => rfl⟩
 · refine opk_pure rfl rfl fun a w hb hf hd => ?_
   obtain ⟨x0, x1, x2, h1, h2⟩ := (bx.below hb x39).lo
   exact ⟨_, run_load_mid _ _ rfl (ev (hd.at 0 rfl rfl rfl rfl)) h1 Tryz.underlying26 rfl info_Rat, fun _ _ => h2⟩
 · exact opk_pure rfl rfl fun a w hb hf hd => ⟨_, fa_Interval_1 rfl (ev ((hf 1 (out_of (by kernel_rfl))).trans s37)), fun _ _ => rfl⟩
 · refine opk_pure rfl rfl fun a w hb hf hd => ?_
   obtain ⟨x0, x1, x2, h1, h2⟩ := (bx.below hb x39).hi
   exact ⟨_, run_load_mid _ _ rfl (ev (hd.at 0 rfl rfl rfl rfl)) h1 Tryz.underlying26 rfl info_Rat, fun _ _ => h2⟩
 · refine opk_call rfl rfl fun a w hb hf hd => ?_
   have e0 : a.eval (.tmp 4) = sl a 4 := rfl
   have e1 : a.eval (.tmp 6) = sl a 6 := rfl
   exact ⟨21, #[sl a 4, sl a 6], run_call rfl rfl (fun _ _ => by kernel_rfl) (args_2 e0 e1), (c_cmp (by omega) (by omega) (hd.at 0 rfl rfl rfl rfl) (hd.at 1 rfl rfl rfl rfl) (hT.below (B38.trans (hb.mono B38.size)))).mono fun _ _ r => RetS.imp (fun _ _ h => fun _ _ => h) r⟩
 · exact opk_pure rfl rfl fun a w hb hf hd => ⟨_, run_gtr rfl (ev (hd.at 0 rfl rfl rfl rfl)) rfl, fun _ _ => rfl⟩
 intro a43 w44 ms45
 have B46 := B38.trans (ms45.b.mono B38.size)
 have z47 := ms45.sz.trans z34
 have d48 := ms45.df.trans d35
 have s49 := (ms45.fr 1 (out_of (by kernel_rfl))).trans s37
 have s50 := (ms45.fr 2 (out_of (by kernel_rfl))).trans s29
 have x51 := bx.below ms45.b x39
 have x52 := bx.below ms45.b x41
 have s53 : sl a43 8 = .bool (decide (0 < (cmpQ p0 q0))) := ms45.g 5 _ 8 rfl (by decide) trivial rfl
 refine wpList_nil (then_normal ?_)
 refine cond_b (decide (0 < (cmpQ p0 q0))) (ev s53) (fun hb54 => ?_) (fun hb54 => ?_)
 · skip
   have hb54p := of_decide_eq_true hb54
   refine wp_region_seq 5 (mG [(mV (.pointer (some ⟨g10, 3, none⟩))).b, (mR q0 k0).b, (mV (.pointer (some ⟨g10, 0, none⟩))).b, (mR p0 k0).b, (mV (.pointer (some ⟨g10, 0, none⟩))).b]) (by rw [z47]; kernel_rfl) (mG_mono _) (ops_ok ⟨?_, ?_, ?_, ?_, ?_, trivial⟩) ?_
   · exact opk_pure rfl rfl fun a w hb hf hd => ⟨_, fa_Interval_1 rfl (ev ((hf 1 (out_of (by kernel_rfl))).trans s49)), fun _ _ => rfl⟩
   · refine opk_pure rfl rfl fun a w hb hf hd => ?_
     obtain ⟨x0, x1, x2, h1, h2⟩ := (bx.below hb x51).hi
     exact ⟨_, run_load_mid _ _ rfl (ev (hd.at 0 rfl rfl rfl rfl)) h1 Tryz.underlying26 rfl info_Rat, fun _ _ => h2⟩
   · exact opk_pure rfl rfl fun a w hb hf hd => ⟨_, fa_Interval_0 rfl (ev ((hf 1 (out_of (by kernel_rfl))).trans s49)), fun _ _ => rfl⟩
   · refine opk_pure rfl rfl fun a w hb hf hd => ?_
     obtain ⟨x0, x1, x2, h1, h2⟩ := (bx.below hb x51).lo
     exact ⟨_, run_load_mid _ _ rfl (ev (hd.at 0 rfl rfl rfl rfl)) h1 Tryz.underlying26 rfl info_Rat, fun _ _ => h2⟩
   · exact opk_pure rfl rfl fun a w hb hf hd => ⟨_, fa_Interval_0 rfl (ev ((hf 1 (out_of (by kernel_rfl))).trans s49)), fun _ _ => rfl⟩
   intro a55 w56 ms57
   have B58 := B46.trans (ms57.b.mono B46.size)
   have z59 := ms57.sz.trans z47
   have d60 := ms57.df.trans d48
   have s61 := (ms57.fr 1 (out_of (by kernel_rfl))).trans s49
   have s62 := (ms57.fr 2 (out_of (by kernel_rfl))).trans s50
   have x64 := bx.below ms57.b x51
   have x65 := bx.below ms57.b x52
   have s66 : (mR q0 k0).S w56 (sl a55 10) := ms57.g 1 _ 10 rfl (by decide) trivial rfl
   have s67 : (mR p0 k0).S w56 (sl a55 12) := ms57.g 3 _ 12 rfl (by decide) trivial rfl
   have s68 : sl a55 13 = .pointer (some ⟨g10, 0, none⟩) := ms57.g 4 _ 13 rfl (by decide) trivial rfl
   refine tl_put_lo rfl rfl rfl (m' := (mR q0 k0)) x64 (ev s68) s66 (isR.cv s66) info_Rat ?_
   intro w69 x70 ex71 ot72 bl73
   have B74 := bl73 w (by omega) B58
   have x75 := ot72 (by omega) x65
   have s76 := (mR q0 k0).mono _ _ _ ex71 s66
   have s77 := (mR p0 k0).mono _ _ _ ex71 s67
   refine tl_set rfl rfl (fa_Interval_1 rfl (ev s61)) (by rw [z59]; decide) ?_
   intro a78 z79 d80 s81 fr82
   have s83 : sl a78 14 = .pointer (some ⟨g10, 3, none⟩) := s81
   have z84 := z79.trans z59
   have d85 := d80.trans d60
   have s86 := (fr82 1 (by decide)).trans s61
   have s87 := (fr82 2 (by decide)).trans s62
   have s89 : (mR q0 k0).S w69 (sl a78 10) := by rw [fr82 10 (by decide)]; exact s76
   have s90 : (mR p0 k0).S w69 (sl a78 12) := by rw [fr82 12 (by decide)]; exact s77
   refine tl_put_hi rfl rfl rfl (m' := (mR p0 k0)) x70 (ev s83) s90 (isR.cv s90) info_Rat ?_
   intro w92 x93 ex94 ot95 bl96
   have B97 := bl96 w (by omega) B74
   have x98 := ot95 (by omega) x75
   have s99 := (mR q0 k0).mono _ _ _ ex94 s89
   have s100 := (mR p0 k0).mono _ _ _ ex94 s90
   refine wpList_nil (then_normal ?_)
   refine wp_seq ?_
   refine wp_region_seq 1 (mG [(mP (mR q0 k0) (mR p0 k0)).b]) (by rw [z84]; kernel_rfl) (mG_mono _) (ops_ok ⟨?_, trivial⟩) ?_
   · refine opk_pure rfl rfl fun a w hb hf hd => ?_
     obtain ⟨cs, h1, h2, h3, h4, h5⟩ := bx.below hb x93
     exact ⟨_, run_load_row _ _ rfl (ev ((hf 1 (out_of (by kernel_rfl))).trans s86)) h1 Tryz.underlying44 rfl (by rw [h2]; exact info_Interval), fun _ _ => h5⟩
   intro a101 w102 ms103
   have B104 := B97.trans (ms103.b.mono B97.size)
   have d106 := ms103.df.trans d85
   have s108 := (ms103.fr 2 (out_of (by kernel_rfl))).trans s87
   have x110 := bx.below ms103.b x93
   have x111 := bx.below ms103.b x98
   have s112 : (mP (mR q0 k0) (mR p0 k0)).S w102 (sl a101 15) := ms103.g 0 _ 15 rfl (by decide) trivial rfl
   refine tl_put rfl rfl rfl (m' := (mP (mR q0 k0) (mR p0 k0))) x111 (ev s108) s112 (mP.cv (fun _ h => (isR.cv h)) (fun _ h => (isR.cv h)) s112) info_Interval ?_
   intro w113 x114 ex115 ot116 bl117
   have B118 := bl117 w (by omega) B104
   have x119 := ot116 (by omega) x110
   have s120 := (mP (mR q0 k0) (mR p0 k0)).mono _ _ _ ex115 s112
   refine wpList_nil (then_normal ?_)
   refine wp_ret ?_
   exact end_cell rfl d106 s108 x114 Tryz.underlying44 rfl info_Interval B118 (fun v h => (by first | (rw [(ord_t (by assumption)).1, (ord_t (by assumption)).2]; exact h) | (rw [(ord_f (by assumption)).1, (ord_f (by assumption)).2]; exact h)))
 · skip
   have hb54p := of_decide_eq_false hb54
   refine wp_skip (then_normal ?_)
   refine wp_seq ?_
   refine wp_region_seq 1 (mG [(mP (mR p0 k0) (mR q0 k0)).b]) (by rw [z47]; kernel_rfl) (mG_mono _) (ops_ok ⟨?_, trivial⟩) ?_
   · refine opk_pure rfl rfl fun a w hb hf hd => ?_
     obtain ⟨cs, h1, h2, h3, h4, h5⟩ := bx.below hb x51
     exact ⟨_, run_load_row _ _ rfl (ev ((hf 1 (out_of (by kernel_rfl))).trans s49)) h1 Tryz.underlying44 rfl (by rw [h2]; exact info_Interval), fun _ _ => h5⟩
   intro a121 w122 ms123
   have B124 := B46.trans (ms123.b.mono B46.size)
   have d126 := ms123.df.trans d48
   have s128 := (ms123.fr 2 (out_of (by kernel_rfl))).trans s50
   have x130 := bx.below ms123.b x51
   have x131 := bx.below ms123.b x52
   have s132 : (mP (mR p0 k0) (mR q0 k0)).S w122 (sl a121 15) := ms123.g 0 _ 15 rfl (by decide) trivial rfl
   refine tl_put rfl rfl rfl (m' := (mP (mR p0 k0) (mR q0 k0))) x131 (ev s128) s132 (mP.cv (fun _ h => (isR.cv h)) (fun _ h => (isR.cv h)) s132) info_Interval ?_
   intro w133 x134 ex135 ot136 bl137
   have B138 := bl137 w (by omega) B124
   have x139 := ot136 (by omega) x130
   have s140 := (mP (mR p0 k0) (mR q0 k0)).mono _ _ _ ex135 s132
   refine wpList_nil (then_normal ?_)
   refine wp_ret ?_
   exact end_cell rfl d126 s128 x134 Tryz.underlying44 rfl info_Interval B138 (fun v h => (by first | (rw [(ord_t (by assumption)).1, (ord_t (by assumption)).2]; exact h) | (rw [(ord_f (by assumption)).1, (ord_f (by assumption)).2]; exact h)))

theorem iv_orderedC {p q : Rat} {k : Nat} {v0 : Value} {w : World} (hk : k ≤ 199999) (pf0 : (mP (mC p k) (mC q k)).S w v0) (hT : Tb w) :
   Calls Tryz.prog 98 #[v0] w (RetS (mP (mC (mnQ p q) k) (mC (mxQ p q) k)).S w) := by
 obtain ⟨c0, rfl, n0, u0, o0⟩ := (mP.cv (fun _ h => (isC.cv h)) (fun _ h => (isC.cv h)) pf0)
 refine calls_abs 16 Tryz.func98 rfl rfl (by simp) ?_
 intro a0 z0 d0 ha
 have s0_0 : sl a0 0 = .agg c0 := ha 0 (by simp)
 have B0 : Below w.heap.size w w := Below.refl _ _
 refine wp_seq ?_
 refine wp_region_seq 0 (mG []) (by rw [z0]; kernel_rfl) (mG_mono _) (ops_ok trivial) ?_
 intro a1 w2 ms3
 have B4 := B0.trans (ms3.b.mono B0.size)
 have z5 := ms3.sz.trans z0
 have d6 := ms3.df.trans d0
 have s7 := (ms3.fr 0 (out_of (by kernel_rfl))).trans s0_0
 refine tl_new rfl rfl (run_box_op rfl (ev s7)) (by rw [z5]; decide) ?_
 intro a8 w9 g10 z11 d12 s13 fr14 hg15 hc16 hb17
 have z18 := z11.trans z5
 have d19 := d12.trans d6
 have B21 := B4.trans (hb17.mono B4.size)
 have lw23 : w.heap.size ≤ g10 := by have := B4.size; omega
 have x22 : bx 44 6 (mP (mC p k) (mC q k)) w9 g10 := ⟨c0, hc16, n0, u0, o0, (mP (mC p k) (mC q k)).mono _ _ _ (Ext.of B21) pf0⟩
 refine tl_new rfl rfl (run_alloc_op rfl zero_Interval) (by rw [z18]; decide) ?_
 intro a24 w25 g26 z27 d28 s29 fr30 hg31 hc32 hb33
 have z34 := z27.trans z18
 have d35 := d28.trans d19
 have s37 := (fr30 1 (by decide)).trans s13
 have B38 := B21.trans (hb33.mono B21.size)
 have ne40 : g10 ≠ g26 := by have := x22.lt; omega
 have x39 := bx.below hb33 x22
 have lw42 : w.heap.size ≤ g26 := by have := B21.size; omega
 have x41 := bx_Interval hc32
 refine wpList_nil (then_normal ?_)
 refine wp_seq ?_
 refine wp_seq ?_
 refine wp_region_seq 6 (mG [(mV (.pointer (some ⟨g10, 0, none⟩))).b, (mC p k).b, (mV (.pointer (some ⟨g10, 3, none⟩))).b, (mC q k).b, (mV (.int .i64 (cmpQ p q))).b, (mV (.bool (decide (0 < (cmpQ p q))))).b]) (by rw [z34]; kernel_rfl) (mG_mono _) (ops_ok ⟨?_, ?_, ?_, ?_, ?_, ?_, trivial⟩) ?_
 · exact opk_pure rfl rfl fun a w hb hf hd => ⟨_, fa_Interval_0 rfl (ev ((hf 1 (out_of (by kernel_rfl))).trans s37)), fun _ _ => rfl⟩
 · refine opk_pure rfl rfl fun a w hb hf hd => ?_
   obtain ⟨x0, x1, x2, h1, h2⟩ := (bx.below hb x39).lo
   exact ⟨_, run_load_mid _ _ rfl (ev (hd.at 0 rfl rfl rfl rfl)) h1 Tryz.underlying26 rfl info_Rat, fun _ _ => h2⟩
 · exact opk_pure rfl rfl fun a w hb hf hd => ⟨_, fa_Interval_1 rfl (ev ((hf 1 (out_of (by kernel_rfl))).trans s37)), fun _ _ => rfl⟩
 · refine opk_pure rfl rfl fun a w hb hf hd => ?_
   obtain ⟨x0, x1, x2, h1, h2⟩ := (bx.below hb x39).hi
   exact ⟨_, run_load_mid _ _ rfl (ev (hd.at 0 rfl rfl rfl rfl)) h1 Tryz.underlying26 rfl info_Rat, fun _ _ => h2⟩
 · refine opk_call rfl rfl fun a w hb hf hd => ?_
   have e0 : a.eval (.tmp 4) = sl a 4 := rfl
   have e1 : a.eval (.tmp 6) = sl a 6 := rfl
   exact ⟨21, #[sl a 4, sl a 6], run_call rfl rfl (fun _ _ => by kernel_rfl) (args_2 e0 e1), (c_cmp (by omega) (by omega) (isC.r (hd.at 0 rfl rfl rfl rfl)) (isC.r (hd.at 1 rfl rfl rfl rfl)) (hT.below (B38.trans (hb.mono B38.size)))).mono fun _ _ r => RetS.imp (fun _ _ h => fun _ _ => h) r⟩
 · exact opk_pure rfl rfl fun a w hb hf hd => ⟨_, run_gtr rfl (ev (hd.at 0 rfl rfl rfl rfl)) rfl, fun _ _ => rfl⟩
 intro a43 w44 ms45
 have B46 := B38.trans (ms45.b.mono B38.size)
 have z47 := ms45.sz.trans z34
 have d48 := ms45.df.trans d35
 have s49 := (ms45.fr 1 (out_of (by kernel_rfl))).trans s37
 have s50 := (ms45.fr 2 (out_of (by kernel_rfl))).trans s29
 have x51 := bx.below ms45.b x39
 have x52 := bx.below ms45.b x41
 have s53 : sl a43 8 = .bool (decide (0 < (cmpQ p q))) := ms45.g 5 _ 8 rfl (by decide) trivial rfl
 refine wpList_nil (then_normal ?_)
 refine cond_b (decide (0 < (cmpQ p q))) (ev s53) (fun hb54 => ?_) (fun hb54 => ?_)
 · skip
   have hb54p := of_decide_eq_true hb54
   refine wp_region_seq 5 (mG [(mV (.pointer (some ⟨g10, 3, none⟩))).b, (mC q k).b, (mV (.pointer (some ⟨g10, 0, none⟩))).b, (mC p k).b, (mV (.pointer (some ⟨g10, 0, none⟩))).b]) (by rw [z47]; kernel_rfl) (mG_mono _) (ops_ok ⟨?_, ?_, ?_, ?_, ?_, trivial⟩) ?_
   · exact opk_pure rfl rfl fun a w hb hf hd => ⟨_, fa_Interval_1 rfl (ev ((hf 1 (out_of (by kernel_rfl))).trans s49)), fun _ _ => rfl⟩
   · refine opk_pure rfl rfl fun a w hb hf hd => ?_
     obtain ⟨x0, x1, x2, h1, h2⟩ := (bx.below hb x51).hi
     exact ⟨_, run_load_mid _ _ rfl (ev (hd.at 0 rfl rfl rfl rfl)) h1 Tryz.underlying26 rfl info_Rat, fun _ _ => h2⟩
   · exact opk_pure rfl rfl fun a w hb hf hd => ⟨_, fa_Interval_0 rfl (ev ((hf 1 (out_of (by kernel_rfl))).trans s49)), fun _ _ => rfl⟩
   · refine opk_pure rfl rfl fun a w hb hf hd => ?_
     obtain ⟨x0, x1, x2, h1, h2⟩ := (bx.below hb x51).lo
     exact ⟨_, run_load_mid _ _ rfl (ev (hd.at 0 rfl rfl rfl rfl)) h1 Tryz.underlying26 rfl info_Rat, fun _ _ => h2⟩
   · exact opk_pure rfl rfl fun a w hb hf hd => ⟨_, fa_Interval_0 rfl (ev ((hf 1 (out_of (by kernel_rfl))).trans s49)), fun _ _ => rfl⟩
   intro a55 w56 ms57
   have B58 := B46.trans (ms57.b.mono B46.size)
   have z59 := ms57.sz.trans z47
   have d60 := ms57.df.trans d48
   have s61 := (ms57.fr 1 (out_of (by kernel_rfl))).trans s49
   have s62 := (ms57.fr 2 (out_of (by kernel_rfl))).trans s50
   have x64 := bx.below ms57.b x51
   have x65 := bx.below ms57.b x52
   have s66 : (mC q k).S w56 (sl a55 10) := ms57.g 1 _ 10 rfl (by decide) trivial rfl
   have s67 : (mC p k).S w56 (sl a55 12) := ms57.g 3 _ 12 rfl (by decide) trivial rfl
   have s68 : sl a55 13 = .pointer (some ⟨g10, 0, none⟩) := ms57.g 4 _ 13 rfl (by decide) trivial rfl
   refine tl_put_lo rfl rfl rfl (m' := (mC q k)) x64 (ev s68) s66 (isC.cv s66) info_Rat ?_
   intro w69 x70 ex71 ot72 bl73
   have B74 := bl73 w (by omega) B58
   have x75 := ot72 (by omega) x65
   have s76 := (mC q k).mono _ _ _ ex71 s66
   have s77 := (mC p k).mono _ _ _ ex71 s67
   refine tl_set rfl rfl (fa_Interval_1 rfl (ev s61)) (by rw [z59]; decide) ?_
   intro a78 z79 d80 s81 fr82
   have s83 : sl a78 14 = .pointer (some ⟨g10, 3, none⟩) := s81
   have z84 := z79.trans z59
   have d85 := d80.trans d60
   have s86 := (fr82 1 (by decide)).trans s61
   have s87 := (fr82 2 (by decide)).trans s62
   have s89 : (mC q k).S w69 (sl a78 10) := by rw [fr82 10 (by decide)]; exact s76
   have s90 : (mC p k).S w69 (sl a78 12) := by rw [fr82 12 (by decide)]; exact s77
   refine tl_put_hi rfl rfl rfl (m' := (mC p k)) x70 (ev s83) s90 (isC.cv s90) info_Rat ?_
   intro w92 x93 ex94 ot95 bl96
   have B97 := bl96 w (by omega) B74
   have x98 := ot95 (by omega) x75
   have s99 := (mC q k).mono _ _ _ ex94 s89
   have s100 := (mC p k).mono _ _ _ ex94 s90
   refine wpList_nil (then_normal ?_)
   refine wp_seq ?_
   refine wp_region_seq 1 (mG [(mP (mC q k) (mC p k)).b]) (by rw [z84]; kernel_rfl) (mG_mono _) (ops_ok ⟨?_, trivial⟩) ?_
   · refine opk_pure rfl rfl fun a w hb hf hd => ?_
     obtain ⟨cs, h1, h2, h3, h4, h5⟩ := bx.below hb x93
     exact ⟨_, run_load_row _ _ rfl (ev ((hf 1 (out_of (by kernel_rfl))).trans s86)) h1 Tryz.underlying44 rfl (by rw [h2]; exact info_Interval), fun _ _ => h5⟩
   intro a101 w102 ms103
   have B104 := B97.trans (ms103.b.mono B97.size)
   have d106 := ms103.df.trans d85
   have s108 := (ms103.fr 2 (out_of (by kernel_rfl))).trans s87
   have x110 := bx.below ms103.b x93
   have x111 := bx.below ms103.b x98
   have s112 : (mP (mC q k) (mC p k)).S w102 (sl a101 15) := ms103.g 0 _ 15 rfl (by decide) trivial rfl
   refine tl_put rfl rfl rfl (m' := (mP (mC q k) (mC p k))) x111 (ev s108) s112 (mP.cv (fun _ h => (isC.cv h)) (fun _ h => (isC.cv h)) s112) info_Interval ?_
   intro w113 x114 ex115 ot116 bl117
   have B118 := bl117 w (by omega) B104
   have x119 := ot116 (by omega) x110
   have s120 := (mP (mC q k) (mC p k)).mono _ _ _ ex115 s112
   refine wpList_nil (then_normal ?_)
   refine wp_ret ?_
   exact end_cell rfl d106 s108 x114 Tryz.underlying44 rfl info_Interval B118 (fun v h => (by first | (rw [(ord_t (by assumption)).1, (ord_t (by assumption)).2]; exact h) | (rw [(ord_f (by assumption)).1, (ord_f (by assumption)).2]; exact h)))
 · skip
   have hb54p := of_decide_eq_false hb54
   refine wp_skip (then_normal ?_)
   refine wp_seq ?_
   refine wp_region_seq 1 (mG [(mP (mC p k) (mC q k)).b]) (by rw [z47]; kernel_rfl) (mG_mono _) (ops_ok ⟨?_, trivial⟩) ?_
   · refine opk_pure rfl rfl fun a w hb hf hd => ?_
     obtain ⟨cs, h1, h2, h3, h4, h5⟩ := bx.below hb x51
     exact ⟨_, run_load_row _ _ rfl (ev ((hf 1 (out_of (by kernel_rfl))).trans s49)) h1 Tryz.underlying44 rfl (by rw [h2]; exact info_Interval), fun _ _ => h5⟩
   intro a121 w122 ms123
   have B124 := B46.trans (ms123.b.mono B46.size)
   have d126 := ms123.df.trans d48
   have s128 := (ms123.fr 2 (out_of (by kernel_rfl))).trans s50
   have x130 := bx.below ms123.b x51
   have x131 := bx.below ms123.b x52
   have s132 : (mP (mC p k) (mC q k)).S w122 (sl a121 15) := ms123.g 0 _ 15 rfl (by decide) trivial rfl
   refine tl_put rfl rfl rfl (m' := (mP (mC p k) (mC q k))) x131 (ev s128) s132 (mP.cv (fun _ h => (isC.cv h)) (fun _ h => (isC.cv h)) s132) info_Interval ?_
   intro w133 x134 ex135 ot136 bl137
   have B138 := bl137 w (by omega) B124
   have x139 := ot136 (by omega) x130
   have s140 := (mP (mC p k) (mC q k)).mono _ _ _ ex135 s132
   refine wpList_nil (then_normal ?_)
   refine wp_ret ?_
   exact end_cell rfl d126 s128 x134 Tryz.underlying44 rfl info_Interval B138 (fun v h => (by first | (rw [(ord_t (by assumption)).1, (ord_t (by assumption)).2]; exact h) | (rw [(ord_f (by assumption)).1, (ord_f (by assumption)).2]; exact h)))

theorem iv_lesser {p0 : Rat} {k0 : Nat} {p1 : Rat} {k1 : Nat} {v0 : Value} {v1 : Value} {w : World} (hk0 : k0 ≤ 199999) (hk1 : k1 ≤ 199999) (pf0 : (mR p0 k0).S w v0) (pf1 : (mR p1 k1).S w v1) (hT : Tb w) :
   Calls Tryz.prog 100 #[v0, v1] w (RetS (mR (mnQ p0 p1) (k0 + k1)).S w) := by
 obtain ⟨c0, rfl, n0, u0, o0⟩ := (isR.cv pf0)
 obtain ⟨c1, rfl, n1, u1, o1⟩ := (isR.cv pf1)
 refine calls_abs 11 Tryz.func100 rfl rfl (by simp) ?_
 intro a0 z0 d0 ha
 have s0_0 : sl a0 0 = .agg c0 := ha 0 (by simp)
 have s0_1 : sl a0 1 = .agg c1 := ha 1 (by simp)
 have B0 : Below w.heap.size w w := Below.refl _ _
 refine wp_seq ?_
 refine wp_region_seq 0 (mG []) (by rw [z0]; kernel_rfl) (mG_mono _) (ops_ok trivial) ?_
 intro a1 w2 ms3
 have B4 := B0.trans (ms3.b.mono B0.size)
 have z5 := ms3.sz.trans z0
 have d6 := ms3.df.trans d0
 have s7 := (ms3.fr 0 (out_of (by kernel_rfl))).trans s0_0
 have s8 := (ms3.fr 1 (out_of (by kernel_rfl))).trans s0_1
 refine tl_new rfl rfl (run_box_op rfl (ev s7)) (by rw [z5]; decide) ?_
 intro a9 w10 g11 z12 d13 s14 fr15 hg16 hc17 hb18
 have z19 := z12.trans z5
 have d20 := d13.trans d6
 have s22 := (fr15 1 (by decide)).trans s8
 have B23 := B4.trans (hb18.mono B4.size)
 have lw25 : w.heap.size ≤ g11 := by have := B4.size; omega
 have x24 : bx 26 3 (mR p0 k0) w10 g11 := ⟨c0, hc17, n0, u0, o0, (mR p0 k0).mono _ _ _ (Ext.of B23) pf0⟩
 refine tl_new rfl rfl (run_box_op rfl (ev s22)) (by rw [z19]; decide) ?_
 intro a26 w27 g28 z29 d30 s31 fr32 hg33 hc34 hb35
 have z36 := z29.trans z19
 have d37 := d30.trans d20
 have s40 := (fr32 2 (by decide)).trans s14
 have B41 := B23.trans (hb35.mono B23.size)
 have ne43 : g11 ≠ g28 := by have := x24.lt; omega
 have x42 := bx.below hb35 x24
 have lw45 : w.heap.size ≤ g28 := by have := B23.size; omega
 have x44 : bx 26 3 (mR p1 k1) w27 g28 := ⟨c1, hc34, n1, u1, o1, (mR p1 k1).mono _ _ _ (Ext.of B41) pf1⟩
 refine tl_new rfl rfl (run_alloc_op rfl zero_Rat) (by rw [z36]; decide) ?_
 intro a46 w47 g48 z49 d50 s51 fr52 hg53 hc54 hb55
 have z56 := z49.trans z36
 have d57 := d50.trans d37
 have s60 := (fr52 2 (by decide)).trans s40
 have s61 := (fr52 3 (by decide)).trans s31
 have B62 := B41.trans (hb55.mono B41.size)
 have ne64 : g11 ≠ g48 := by have := x42.lt; omega
 have x63 := bx.below hb55 x42
 have ne66 : g28 ≠ g48 := by have := x44.lt; omega
 have x65 := bx.below hb55 x44
 have lw68 : w.heap.size ≤ g48 := by have := B41.size; omega
 have x67 := bx_Rat hc54
 refine wpList_nil (then_normal ?_)
 refine wp_seq ?_
 refine wp_seq ?_
 refine wp_region_seq 4 (mG [(mR p0 k0).b, (mR p1 k1).b, (mV (.int .i64 (cmpQ p0 p1))).b, (mV (.bool (decide ((cmpQ p0 p1) ≤ 0)))).b]) (by rw [z56]; kernel_rfl) (mG_mono _) (ops_ok ⟨?_, ?_, ?_, ?_, trivial⟩) ?_
 · refine opk_pure rfl rfl fun a w hb hf hd => ?_
   obtain ⟨cs, h1, h2, h3, h4, h5⟩ := bx.below hb x63
   exact ⟨_, run_load_row _ _ rfl (ev ((hf 2 (out_of (by kernel_rfl))).trans s60)) h1 Tryz.underlying26 rfl (by rw [h2]; exact info_Rat), fun _ _ => h5⟩
 · refine opk_pure rfl rfl fun a w hb hf hd => ?_
   obtain ⟨cs, h1, h2, h3, h4, h5⟩ := bx.below hb x65
   exact ⟨_, run_load_row _ _ rfl (ev ((hf 3 (out_of (by kernel_rfl))).trans s61)) h1 Tryz.underlying26 rfl (by rw [h2]; exact info_Rat), fun _ _ => h5⟩
 · refine opk_call rfl rfl fun a w hb hf hd => ?_
   have e0 : a.eval (.tmp 5) = sl a 5 := rfl
   have e1 : a.eval (.tmp 6) = sl a 6 := rfl
   exact ⟨21, #[sl a 5, sl a 6], run_call rfl rfl (fun _ _ => by kernel_rfl) (args_2 e0 e1), (c_cmp (by omega) (by omega) (hd.at 0 rfl rfl rfl rfl) (hd.at 1 rfl rfl rfl rfl) (hT.below (B62.trans (hb.mono B62.size)))).mono fun _ _ r => RetS.imp (fun _ _ h => fun _ _ => h) r⟩
 · exact opk_pure rfl rfl fun a w hb hf hd => ⟨_, run_leq rfl (ev (hd.at 0 rfl rfl rfl rfl)) rfl, fun _ _ => rfl⟩
 intro a69 w70 ms71
 have B72 := B62.trans (ms71.b.mono B62.size)
 have z73 := ms71.sz.trans z56
 have d74 := ms71.df.trans d57
 have s75 := (ms71.fr 2 (out_of (by kernel_rfl))).trans s60
 have s76 := (ms71.fr 3 (out_of (by kernel_rfl))).trans s61
 have s77 := (ms71.fr 4 (out_of (by kernel_rfl))).trans s51
 have x78 := bx.below ms71.b x63
 have x79 := bx.below ms71.b x65
 have x80 := bx.below ms71.b x67
 have s81 : sl a69 8 = .bool (decide ((cmpQ p0 p1) ≤ 0)) := ms71.g 3 _ 8 rfl (by decide) trivial rfl
 refine wpList_nil (then_normal ?_)
 refine cond_b (decide ((cmpQ p0 p1) ≤ 0)) (ev s81) (fun hb82 => ?_) (fun hb82 => ?_)
 · skip
   have hb82p := of_decide_eq_true hb82
   refine wp_seq ?_
   refine wp_region_seq 1 (mG [(mR p0 k0).b]) (by rw [z73]; kernel_rfl) (mG_mono _) (ops_ok ⟨?_, trivial⟩) ?_
   · refine opk_pure rfl rfl fun a w hb hf hd => ?_
     obtain ⟨cs, h1, h2, h3, h4, h5⟩ := bx.below hb x78
     exact ⟨_, run_load_row _ _ rfl (ev ((hf 2 (out_of (by kernel_rfl))).trans s75)) h1 Tryz.underlying26 rfl (by rw [h2]; exact info_Rat), fun _ _ => h5⟩
   intro a83 w84 ms85
   have B86 := B72.trans (ms85.b.mono B72.size)
   have d88 := ms85.df.trans d74
   have s91 := (ms85.fr 4 (out_of (by kernel_rfl))).trans s77
   have x93 := bx.below ms85.b x78
   have x94 := bx.below ms85.b x79
   have x95 := bx.below ms85.b x80
   have s96 : (mR p0 k0).S w84 (sl a83 9) := ms85.g 0 _ 9 rfl (by decide) trivial rfl
   refine tl_put rfl rfl rfl (m' := (mR p0 k0)) x95 (ev s91) s96 (isR.cv s96) info_Rat ?_
   intro w97 x98 ex99 ot100 bl101
   have B102 := bl101 w (by omega) B86
   have x103 := ot100 (by omega) x93
   have x104 := ot100 (by omega) x94
   have s105 := (mR p0 k0).mono _ _ _ ex99 s96
   refine wpList_nil (then_normal ?_)
   refine wp_ret ?_
   exact end_cell rfl d88 s91 x98 Tryz.underlying26 rfl info_Rat B102 (fun v h => (by first | (rw [les_t (by assumption)]; exact isR.mono h (by omega)) | (rw [les_f (by assumption)]; exact isR.mono h (by omega))))
 · skip
   have hb82p := of_decide_eq_false hb82
   refine wp_skip (then_normal ?_)
   refine wp_seq ?_
   refine wp_region_seq 1 (mG [(mR p1 k1).b]) (by rw [z73]; kernel_rfl) (mG_mono _) (ops_ok ⟨?_, trivial⟩) ?_
   · refine opk_pure rfl rfl fun a w hb hf hd => ?_
     obtain ⟨cs, h1, h2, h3, h4, h5⟩ := bx.below hb x79
     exact ⟨_, run_load_row _ _ rfl (ev ((hf 3 (out_of (by kernel_rfl))).trans s76)) h1 Tryz.underlying26 rfl (by rw [h2]; exact info_Rat), fun _ _ => h5⟩
   intro a106 w107 ms108
   have B109 := B72.trans (ms108.b.mono B72.size)
   have d111 := ms108.df.trans d74
   have s114 := (ms108.fr 4 (out_of (by kernel_rfl))).trans s77
   have x116 := bx.below ms108.b x78
   have x117 := bx.below ms108.b x79
   have x118 := bx.below ms108.b x80
   have s119 : (mR p1 k1).S w107 (sl a106 10) := ms108.g 0 _ 10 rfl (by decide) trivial rfl
   refine tl_put rfl rfl rfl (m' := (mR p1 k1)) x118 (ev s114) s119 (isR.cv s119) info_Rat ?_
   intro w120 x121 ex122 ot123 bl124
   have B125 := bl124 w (by omega) B109
   have x126 := ot123 (by omega) x116
   have x127 := ot123 (by omega) x117
   have s128 := (mR p1 k1).mono _ _ _ ex122 s119
   refine wpList_nil (then_normal ?_)
   refine wp_ret ?_
   exact end_cell rfl d111 s114 x121 Tryz.underlying26 rfl info_Rat B125 (fun v h => (by first | (rw [les_t (by assumption)]; exact isR.mono h (by omega)) | (rw [les_f (by assumption)]; exact isR.mono h (by omega))))

theorem iv_greater {p0 : Rat} {k0 : Nat} {p1 : Rat} {k1 : Nat} {v0 : Value} {v1 : Value} {w : World} (hk0 : k0 ≤ 199999) (hk1 : k1 ≤ 199999) (pf0 : (mR p0 k0).S w v0) (pf1 : (mR p1 k1).S w v1) (hT : Tb w) :
   Calls Tryz.prog 99 #[v0, v1] w (RetS (mR (mxQ p0 p1) (k0 + k1)).S w) := by
 obtain ⟨c0, rfl, n0, u0, o0⟩ := (isR.cv pf0)
 obtain ⟨c1, rfl, n1, u1, o1⟩ := (isR.cv pf1)
 refine calls_abs 11 Tryz.func99 rfl rfl (by simp) ?_
 intro a0 z0 d0 ha
 have s0_0 : sl a0 0 = .agg c0 := ha 0 (by simp)
 have s0_1 : sl a0 1 = .agg c1 := ha 1 (by simp)
 have B0 : Below w.heap.size w w := Below.refl _ _
 refine wp_seq ?_
 refine wp_region_seq 0 (mG []) (by rw [z0]; kernel_rfl) (mG_mono _) (ops_ok trivial) ?_
 intro a1 w2 ms3
 have B4 := B0.trans (ms3.b.mono B0.size)
 have z5 := ms3.sz.trans z0
 have d6 := ms3.df.trans d0
 have s7 := (ms3.fr 0 (out_of (by kernel_rfl))).trans s0_0
 have s8 := (ms3.fr 1 (out_of (by kernel_rfl))).trans s0_1
 refine tl_new rfl rfl (run_box_op rfl (ev s7)) (by rw [z5]; decide) ?_
 intro a9 w10 g11 z12 d13 s14 fr15 hg16 hc17 hb18
 have z19 := z12.trans z5
 have d20 := d13.trans d6
 have s22 := (fr15 1 (by decide)).trans s8
 have B23 := B4.trans (hb18.mono B4.size)
 have lw25 : w.heap.size ≤ g11 := by have := B4.size; omega
 have x24 : bx 26 3 (mR p0 k0) w10 g11 := ⟨c0, hc17, n0, u0, o0, (mR p0 k0).mono _ _ _ (Ext.of B23) pf0⟩
 refine tl_new rfl rfl (run_box_op rfl (ev s22)) (by rw [z19]; decide) ?_
 intro a26 w27 g28 z29 d30 s31 fr32 hg33 hc34 hb35
 have z36 := z29.trans z19
 have d37 := d30.trans d20
 have s40 := (fr32 2 (by decide)).trans s14
 have B41 := B23.trans (hb35.mono B23.size)
 have ne43 : g11 ≠ g28 := by have := x24.lt; omega
 have x42 := bx.below hb35 x24
 have lw45 : w.heap.size ≤ g28 := by have := B23.size; omega
 have x44 : bx 26 3 (mR p1 k1) w27 g28 := ⟨c1, hc34, n1, u1, o1, (mR p1 k1).mono _ _ _ (Ext.of B41) pf1⟩
 refine tl_new rfl rfl (run_alloc_op rfl zero_Rat) (by rw [z36]; decide) ?_
 intro a46 w47 g48 z49 d50 s51 fr52 hg53 hc54 hb55
 have z56 := z49.trans z36
 have d57 := d50.trans d37
 have s60 := (fr52 2 (by decide)).trans s40
 have s61 := (fr52 3 (by decide)).trans s31
 have B62 := B41.trans (hb55.mono B41.size)
 have ne64 : g11 ≠ g48 := by have := x42.lt; omega
 have x63 := bx.below hb55 x42
 have ne66 : g28 ≠ g48 := by have := x44.lt; omega
 have x65 := bx.below hb55 x44
 have lw68 : w.heap.size ≤ g48 := by have := B41.size; omega
 have x67 := bx_Rat hc54
 refine wpList_nil (then_normal ?_)
 refine wp_seq ?_
 refine wp_seq ?_
 refine wp_region_seq 4 (mG [(mR p0 k0).b, (mR p1 k1).b, (mV (.int .i64 (cmpQ p0 p1))).b, (mV (.bool (decide (0 ≤ (cmpQ p0 p1))))).b]) (by rw [z56]; kernel_rfl) (mG_mono _) (ops_ok ⟨?_, ?_, ?_, ?_, trivial⟩) ?_
 · refine opk_pure rfl rfl fun a w hb hf hd => ?_
   obtain ⟨cs, h1, h2, h3, h4, h5⟩ := bx.below hb x63
   exact ⟨_, run_load_row _ _ rfl (ev ((hf 2 (out_of (by kernel_rfl))).trans s60)) h1 Tryz.underlying26 rfl (by rw [h2]; exact info_Rat), fun _ _ => h5⟩
 · refine opk_pure rfl rfl fun a w hb hf hd => ?_
   obtain ⟨cs, h1, h2, h3, h4, h5⟩ := bx.below hb x65
   exact ⟨_, run_load_row _ _ rfl (ev ((hf 3 (out_of (by kernel_rfl))).trans s61)) h1 Tryz.underlying26 rfl (by rw [h2]; exact info_Rat), fun _ _ => h5⟩
 · refine opk_call rfl rfl fun a w hb hf hd => ?_
   have e0 : a.eval (.tmp 5) = sl a 5 := rfl
   have e1 : a.eval (.tmp 6) = sl a 6 := rfl
   exact ⟨21, #[sl a 5, sl a 6], run_call rfl rfl (fun _ _ => by kernel_rfl) (args_2 e0 e1), (c_cmp (by omega) (by omega) (hd.at 0 rfl rfl rfl rfl) (hd.at 1 rfl rfl rfl rfl) (hT.below (B62.trans (hb.mono B62.size)))).mono fun _ _ r => RetS.imp (fun _ _ h => fun _ _ => h) r⟩
 · exact opk_pure rfl rfl fun a w hb hf hd => ⟨_, run_geq rfl (ev (hd.at 0 rfl rfl rfl rfl)) rfl, fun _ _ => rfl⟩
 intro a69 w70 ms71
 have B72 := B62.trans (ms71.b.mono B62.size)
 have z73 := ms71.sz.trans z56
 have d74 := ms71.df.trans d57
 have s75 := (ms71.fr 2 (out_of (by kernel_rfl))).trans s60
 have s76 := (ms71.fr 3 (out_of (by kernel_rfl))).trans s61
 have s77 := (ms71.fr 4 (out_of (by kernel_rfl))).trans s51
 have x78 := bx.below ms71.b x63
 have x79 := bx.below ms71.b x65
 have x80 := bx.below ms71.b x67
 have s81 : sl a69 8 = .bool (decide (0 ≤ (cmpQ p0 p1))) := ms71.g 3 _ 8 rfl (by decide) trivial rfl
 refine wpList_nil (then_normal ?_)
 refine cond_b (decide (0 ≤ (cmpQ p0 p1))) (ev s81) (fun hb82 => ?_) (fun hb82 => ?_)
 · skip
   have hb82p := of_decide_eq_true hb82
   refine wp_seq ?_
   refine wp_region_seq 1 (mG [(mR p0 k0).b]) (by rw [z73]; kernel_rfl) (mG_mono _) (ops_ok ⟨?_, trivial⟩) ?_
   · refine opk_pure rfl rfl fun a w hb hf hd => ?_
     obtain ⟨cs, h1, h2, h3, h4, h5⟩ := bx.below hb x78
     exact ⟨_, run_load_row _ _ rfl (ev ((hf 2 (out_of (by kernel_rfl))).trans s75)) h1 Tryz.underlying26 rfl (by rw [h2]; exact info_Rat), fun _ _ => h5⟩
   intro a83 w84 ms85
   have B86 := B72.trans (ms85.b.mono B72.size)
   have d88 := ms85.df.trans d74
   have s91 := (ms85.fr 4 (out_of (by kernel_rfl))).trans s77
   have x93 := bx.below ms85.b x78
   have x94 := bx.below ms85.b x79
   have x95 := bx.below ms85.b x80
   have s96 : (mR p0 k0).S w84 (sl a83 9) := ms85.g 0 _ 9 rfl (by decide) trivial rfl
   refine tl_put rfl rfl rfl (m' := (mR p0 k0)) x95 (ev s91) s96 (isR.cv s96) info_Rat ?_
   intro w97 x98 ex99 ot100 bl101
   have B102 := bl101 w (by omega) B86
   have x103 := ot100 (by omega) x93
   have x104 := ot100 (by omega) x94
   have s105 := (mR p0 k0).mono _ _ _ ex99 s96
   refine wpList_nil (then_normal ?_)
   refine wp_ret ?_
   exact end_cell rfl d88 s91 x98 Tryz.underlying26 rfl info_Rat B102 (fun v h => (by first | (rw [gre_t (by assumption)]; exact isR.mono h (by omega)) | (rw [gre_f (by assumption)]; exact isR.mono h (by omega))))
 · skip
   have hb82p := of_decide_eq_false hb82
   refine wp_skip (then_normal ?_)
   refine wp_seq ?_
   refine wp_region_seq 1 (mG [(mR p1 k1).b]) (by rw [z73]; kernel_rfl) (mG_mono _) (ops_ok ⟨?_, trivial⟩) ?_
   · refine opk_pure rfl rfl fun a w hb hf hd => ?_
     obtain ⟨cs, h1, h2, h3, h4, h5⟩ := bx.below hb x79
     exact ⟨_, run_load_row _ _ rfl (ev ((hf 3 (out_of (by kernel_rfl))).trans s76)) h1 Tryz.underlying26 rfl (by rw [h2]; exact info_Rat), fun _ _ => h5⟩
   intro a106 w107 ms108
   have B109 := B72.trans (ms108.b.mono B72.size)
   have d111 := ms108.df.trans d74
   have s114 := (ms108.fr 4 (out_of (by kernel_rfl))).trans s77
   have x116 := bx.below ms108.b x78
   have x117 := bx.below ms108.b x79
   have x118 := bx.below ms108.b x80
   have s119 : (mR p1 k1).S w107 (sl a106 10) := ms108.g 0 _ 10 rfl (by decide) trivial rfl
   refine tl_put rfl rfl rfl (m' := (mR p1 k1)) x118 (ev s114) s119 (isR.cv s119) info_Rat ?_
   intro w120 x121 ex122 ot123 bl124
   have B125 := bl124 w (by omega) B109
   have x126 := ot123 (by omega) x116
   have x127 := ot123 (by omega) x117
   have s128 := (mR p1 k1).mono _ _ _ ex122 s119
   refine wpList_nil (then_normal ?_)
   refine wp_ret ?_
   exact end_cell rfl d111 s114 x121 Tryz.underlying26 rfl info_Rat B125 (fun v h => (by first | (rw [gre_t (by assumption)]; exact isR.mono h (by omega)) | (rw [gre_f (by assumption)]; exact isR.mono h (by omega))))
end Go.Proofs.YtbjijmjhlpkomaaGreatDoor

namespace Go.Proofs.YtbjijmjhlpkomaaGreatDoor
open Go.RowKit Num

theorem iv_trim {p0 q0 : Rat} {k0 : Nat} {v0 : Value} {w : World} (hk0 : k0 ≤ 99999) (pf0 : (mP (mR p0 k0) (mR q0 k0)).S w v0) (hT : Tb w) :
   Calls Tryz.prog 41 #[v0] w (RetS (mP (mC (mnQ p0 q0) (k0 + 1)) (mC (mxQ p0 q0) (k0 + 1))).S w) := by
 obtain ⟨c0, rfl, n0, u0, o0⟩ := (mP.cv (fun _ h => (isR.cv h)) (fun _ h => (isR.cv h)) pf0)
 refine calls_abs 12 Tryz.func41 rfl rfl (by simp) ?_
 intro a0 z0 d0 ha
 have s0_0 : sl a0 0 = .agg c0 := ha 0 (by simp)
 have B0 : Below w.heap.size w w := Below.refl _ _
 refine wp_seq ?_
 refine wp_region_seq 0 (mG []) (by rw [z0]; kernel_rfl) (mG_mono _) (ops_ok trivial) ?_
 intro a1 w2 ms3
 have B4 := B0.trans (ms3.b.mono B0.size)
 have z5 := ms3.sz.trans z0
 have d6 := ms3.df.trans d0
 have s7 := (ms3.fr 0 (out_of (by kernel_rfl))).trans s0_0
 refine tl_new rfl rfl (run_box_op rfl (ev s7)) (by rw [z5]; decide) ?_
 intro a8 w9 g10 z11 d12 s13 fr14 hg15 hc16 hb17
 have z18 := z11.trans z5
 have d19 := d12.trans d6
 have B21 := B4.trans (hb17.mono B4.size)
 have lw23 : w.heap.size ≤ g10 := by have := B4.size; omega
 have x22 : bx 44 6 (mP (mR p0 k0) (mR q0 k0)) w9 g10 := ⟨c0, hc16, n0, u0, o0, (mP (mR p0 k0) (mR q0 k0)).mono _ _ _ (Ext.of B21) pf0⟩
 refine tl_new rfl rfl (run_alloc_op rfl zero_Interval) (by rw [z18]; decide) ?_
 intro a24 w25 g26 z27 d28 s29 fr30 hg31 hc32 hb33
 have z34 := z27.trans z18
 have d35 := d28.trans d19
 have s37 := (fr30 1 (by decide)).trans s13
 have B38 := B21.trans (hb33.mono B21.size)
 have ne40 : g10 ≠ g26 := by have := x22.lt; omega
 have x39 := bx.below hb33 x22
 have lw42 : w.heap.size ≤ g26 := by have := B21.size; omega
 have x41 := bx_Interval hc32
 refine wpList_nil (then_normal ?_)
 refine wp_seq ?_
 refine wp_region_seq 2 (mG [(mP (mR p0 k0) (mR q0 k0)).b, (mP (mR (mnQ p0 q0) k0) (mR (mxQ p0 q0) k0)).b]) (by rw [z34]; kernel_rfl) (mG_mono _) (ops_ok ⟨?_, ?_, trivial⟩) ?_
 · refine opk_pure rfl rfl fun a w hb hf hd => ?_
   obtain ⟨cs, h1, h2, h3, h4, h5⟩ := bx.below hb x39
   exact ⟨_, run_load_row _ _ rfl (ev ((hf 1 (out_of (by kernel_rfl))).trans s37)) h1 Tryz.underlying44 rfl (by rw [h2]; exact info_Interval), fun _ _ => h5⟩
 · refine opk_call rfl rfl fun a w hb hf hd => ?_
   have e0 : a.eval (.tmp 3) = sl a 3 := rfl
   exact ⟨98, #[sl a 3], run_call rfl rfl (fun _ _ => by kernel_rfl) (args_1 e0), (iv_ordered  (by omega) (mP_imp (m1' := (mR p0 k0)) (m2' := (mR q0 k0)) (fun _ h => h) (fun _ h => h) (hd.at 0 rfl rfl rfl rfl)) (hT.below (B38.trans (hb.mono B38.size)))).mono fun _ _ r => RetS.imp (fun _ _ h => fun _ _ => (mP_imp (fun _ h => (isR.mono h (by omega))) (fun _ h => (isR.mono h (by omega))) h)) r⟩
 intro a43 w44 ms45
 have B46 := B38.trans (ms45.b.mono B38.size)
 have z47 := ms45.sz.trans z34
 have d48 := ms45.df.trans d35
 have s49 := (ms45.fr 1 (out_of (by kernel_rfl))).trans s37
 have s50 := (ms45.fr 2 (out_of (by kernel_rfl))).trans s29
 have x51 := bx.below ms45.b x39
 have x52 := bx.below ms45.b x41
 have s53 : (mP (mR (mnQ p0 q0) k0) (mR (mxQ p0 q0) k0)).S w44 (sl a43 4) := ms45.g 1 _ 4 rfl (by decide) trivial rfl
 refine tl_put rfl rfl rfl (m' := (mP (mR (mnQ p0 q0) k0) (mR (mxQ p0 q0) k0))) x51 (ev s49) s53 (mP.cv (fun _ h => (isR.cv h)) (fun _ h => (isR.cv h)) s53) info_Interval ?_
 intro w54 x55 ex56 ot57 bl58
 have B59 := bl58 w (by omega) B46
 have x60 := ot57 (by omega) x52
 have s61 := (mP (mR (mnQ p0 q0) k0) (mR (mxQ p0 q0) k0)).mono _ _ _ ex56 s53
 refine wpList_nil (then_normal ?_)
 refine wp_seq ?_
 refine wp_region_mono 7 [] (mG [(mV (.pointer (some ⟨g10, 0, none⟩))).b, (mR (mnQ p0 q0) k0).b, (mC (mnQ p0 q0) (k0 + 1)).b, (mV (.pointer (some ⟨g10, 3, none⟩))).b, (mR (mxQ p0 q0) k0).b, (mC (mxQ p0 q0) (k0 + 1)).b, (mP (mC (mnQ p0 q0) (k0 + 1)) (mC (mxQ p0 q0) (k0 + 1))).b]) (by kernel_rfl) (by rw [z47]; kernel_rfl) (fun h => absurd rfl h) (mG_mono _) (ops_ok ⟨?_, ?_, ?_, ?_, ?_, ?_, ?_, trivial⟩) ?_
 · exact opk_pure rfl rfl fun a w hb hf hd => ⟨_, fa_Interval_0 rfl (ev ((hf 1 (out_of (by kernel_rfl))).trans s49)), fun _ _ => rfl⟩
 · refine opk_pure rfl rfl fun a w hb hf hd => ?_
   obtain ⟨x0, x1, x2, h1, h2⟩ := (bx.below hb x55).lo
   exact ⟨_, run_load_mid _ _ rfl (ev (hd.at 0 rfl rfl rfl rfl)) h1 Tryz.underlying26 rfl info_Rat, fun _ _ => h2⟩
 · refine opk_call rfl rfl fun a w hb hf hd => ?_
   have e0 : a.eval (.tmp 6) = sl a 6 := rfl
   exact ⟨22, #[sl a 6], run_call rfl rfl (fun _ _ => by kernel_rfl) (args_1 e0), (c_trim (by omega) (hd.at 0 rfl rfl rfl rfl) (hT.below (B59.trans (hb.mono B59.size)))).mono fun _ _ r => RetS.imp (fun _ _ h => fun _ _ => (isC.mono h (by omega))) r⟩
 · exact opk_pure rfl rfl fun a w hb hf hd => ⟨_, fa_Interval_1 rfl (ev ((hf 1 (out_of (by kernel_rfl))).trans s49)), fun _ _ => rfl⟩
 · refine opk_pure rfl rfl fun a w hb hf hd => ?_
   obtain ⟨x0, x1, x2, h1, h2⟩ := (bx.below hb x55).hi
   exact ⟨_, run_load_mid _ _ rfl (ev (hd.at 0 rfl rfl rfl rfl)) h1 Tryz.underlying26 rfl info_Rat, fun _ _ => h2⟩
 · refine opk_call rfl rfl fun a w hb hf hd => ?_
   have e0 : a.eval (.tmp 9) = sl a 9 := rfl
   exact ⟨22, #[sl a 9], run_call rfl rfl (fun _ _ => by kernel_rfl) (args_1 e0), (c_trim (by omega) (hd.at 0 rfl rfl rfl rfl) (hT.below (B59.trans (hb.mono B59.size)))).mono fun _ _ r => RetS.imp (fun _ _ h => fun _ _ => (isC.mono h (by omega))) r⟩
 · refine opk_pure rfl rfl fun a w hb hf hd => ?_
   have kk1 : (mC (mnQ p0 q0) (k0 + 1)).S w (sl a 7) := (hd.at 0 rfl rfl rfl rfl)
   have kk2 : (mC (mxQ p0 q0) (k0 + 1)).S w (sl a 10) := (hd.at 1 rfl rfl rfl rfl)
   obtain ⟨x0, x1, x2, qq1⟩ := cv3 (isC.cv kk1)
   obtain ⟨y0, y1, y2, qq2⟩ := cv3 (isC.cv kk2)
   rw [qq1] at kk1; rw [qq2] at kk2
   exact ⟨_, run_build_op _ _ rfl (built_pair qq1 qq2), fun _ _ => ⟨x0, x1, x2, y0, y1, y2, rfl, kk1, kk2⟩⟩
 intro a62 w63 ms64
 have B65 := B59.trans (ms64.b.mono B59.size)
 have d67 := ms64.df.trans d48
 have s69 := (ms64.fr 2 (out_of (by kernel_rfl))).trans s50
 have x70 := bx.below ms64.b x55
 have x71 := bx.below ms64.b x60
 have s72 : (mP (mC (mnQ p0 q0) (k0 + 1)) (mC (mxQ p0 q0) (k0 + 1))).S w63 (sl a62 11) := ms64.g 6 _ 11 rfl (by decide) trivial rfl
 refine tl_put rfl rfl rfl (m' := (mP (mC (mnQ p0 q0) (k0 + 1)) (mC (mxQ p0 q0) (k0 + 1)))) x71 (ev s69) s72 (mP.cv (fun _ h => (isC.cv h)) (fun _ h => (isC.cv h)) s72) info_Interval ?_
 intro w73 x74 ex75 ot76 bl77
 have B78 := bl77 w (by omega) B65
 have x79 := ot76 (by omega) x70
 have s80 := (mP (mC (mnQ p0 q0) (k0 + 1)) (mC (mxQ p0 q0) (k0 + 1))).mono _ _ _ ex75 s72
 refine wpList_nil (then_normal ?_)
 refine wp_ret ?_
 exact end_cell rfl d67 s69 x74 Tryz.underlying44 rfl info_Interval B78 (fun v h => (mP_imp (fun _ h => (isC.mono h (by omega))) (fun _ h => (isC.mono h (by omega))) h))

theorem iv_make {p0 : Rat} {k0 : Nat} {p1 : Rat} {k1 : Nat} {v0 : Value} {v1 : Value} {w : World} (hk0 : k0 ≤ 29999) (hk1 : k1 ≤ 29999) (pf0 : (mR p0 k0).S w v0) (pf1 : (mR p1 k1).S w v1) (hT : Tb w) :
   Calls Tryz.prog 43 #[v0, v1] w (RetS (mP (mC (mnQ p0 p1) (k0 + k1 + 1)) (mC (mxQ p0 p1) (k0 + k1 + 1))).S w) := by
 obtain ⟨c0, rfl, n0, u0, o0⟩ := (isR.cv pf0)
 obtain ⟨c1, rfl, n1, u1, o1⟩ := (isR.cv pf1)
 refine calls_abs 9 Tryz.func43 rfl rfl (by simp) ?_
 intro a0 z0 d0 ha
 have s0_0 : sl a0 0 = .agg c0 := ha 0 (by simp)
 have s0_1 : sl a0 1 = .agg c1 := ha 1 (by simp)
 have B0 : Below w.heap.size w w := Below.refl _ _
 refine wp_seq ?_
 refine wp_region_seq 0 (mG []) (by rw [z0]; kernel_rfl) (mG_mono _) (ops_ok trivial) ?_
 intro a1 w2 ms3
 have B4 := B0.trans (ms3.b.mono B0.size)
 have z5 := ms3.sz.trans z0
 have d6 := ms3.df.trans d0
 have s7 := (ms3.fr 0 (out_of (by kernel_rfl))).trans s0_0
 have s8 := (ms3.fr 1 (out_of (by kernel_rfl))).trans s0_1
 refine tl_new rfl rfl (run_box_op rfl (ev s7)) (by rw [z5]; decide) ?_
 intro a9 w10 g11 z12 d13 s14 fr15 hg16 hc17 hb18
 have z19 := z12.trans z5
 have d20 := d13.trans d6
 have s22 := (fr15 1 (by decide)).trans s8
 have B23 := B4.trans (hb18.mono B4.size)
 have lw25 : w.heap.size ≤ g11 := by have := B4.size; omega
 have x24 : bx 26 3 (mR p0 k0) w10 g11 := ⟨c0, hc17, n0, u0, o0, (mR p0 k0).mono _ _ _ (Ext.of B23) pf0⟩
 refine tl_new rfl rfl (run_box_op rfl (ev s22)) (by rw [z19]; decide) ?_
 intro a26 w27 g28 z29 d30 s31 fr32 hg33 hc34 hb35
 have z36 := z29.trans z19
 have d37 := d30.trans d20
 have s40 := (fr32 2 (by decide)).trans s14
 have B41 := B23.trans (hb35.mono B23.size)
 have ne43 : g11 ≠ g28 := by have := x24.lt; omega
 have x42 := bx.below hb35 x24
 have lw45 : w.heap.size ≤ g28 := by have := B23.size; omega
 have x44 : bx 26 3 (mR p1 k1) w27 g28 := ⟨c1, hc34, n1, u1, o1, (mR p1 k1).mono _ _ _ (Ext.of B41) pf1⟩
 refine tl_new rfl rfl (run_alloc_op rfl zero_Interval) (by rw [z36]; decide) ?_
 intro a46 w47 g48 z49 d50 s51 fr52 hg53 hc54 hb55
 have z56 := z49.trans z36
 have d57 := d50.trans d37
 have s60 := (fr52 2 (by decide)).trans s40
 have s61 := (fr52 3 (by decide)).trans s31
 have B62 := B41.trans (hb55.mono B41.size)
 have ne64 : g11 ≠ g48 := by have := x42.lt; omega
 have x63 := bx.below hb55 x42
 have ne66 : g28 ≠ g48 := by have := x44.lt; omega
 have x65 := bx.below hb55 x44
 have lw68 : w.heap.size ≤ g48 := by have := B41.size; omega
 have x67 := bx_Interval hc54
 refine wpList_nil (then_normal ?_)
 refine wp_seq ?_
 refine wp_region_seq 4 (mG [(mR p0 k0).b, (mR p1 k1).b, (mP (mR p0 k0) (mR p1 k1)).b, (mP (mC (mnQ p0 p1) (k0 + k1 + 1)) (mC (mxQ p0 p1) (k0 + k1 + 1))).b]) (by rw [z56]; kernel_rfl) (mG_mono _) (ops_ok ⟨?_, ?_, ?_, ?_, trivial⟩) ?_
 · refine opk_pure rfl rfl fun a w hb hf hd => ?_
   obtain ⟨cs, h1, h2, h3, h4, h5⟩ := bx.below hb x63
   exact ⟨_, run_load_row _ _ rfl (ev ((hf 2 (out_of (by kernel_rfl))).trans s60)) h1 Tryz.underlying26 rfl (by rw [h2]; exact info_Rat), fun _ _ => h5⟩
 · refine opk_pure rfl rfl fun a w hb hf hd => ?_
   obtain ⟨cs, h1, h2, h3, h4, h5⟩ := bx.below hb x65
   exact ⟨_, run_load_row _ _ rfl (ev ((hf 3 (out_of (by kernel_rfl))).trans s61)) h1 Tryz.underlying26 rfl (by rw [h2]; exact info_Rat), fun _ _ => h5⟩
 · refine opk_pure rfl rfl fun a w hb hf hd => ?_
   have kk1 : (mR p0 k0).S w (sl a 5) := (hd.at 0 rfl rfl rfl rfl)
   have kk2 : (mR p1 k1).S w (sl a 6) := (hd.at 1 rfl rfl rfl rfl)
   obtain ⟨x0, x1, x2, qq1⟩ := cv3 (isR.cv kk1)
   obtain ⟨y0, y1, y2, qq2⟩ := cv3 (isR.cv kk2)
   rw [qq1] at kk1; rw [qq2] at kk2
   exact ⟨_, run_build_op _ _ rfl (built_pair qq1 qq2), fun _ _ => ⟨x0, x1, x2, y0, y1, y2, rfl, kk1, kk2⟩⟩
 · refine opk_call rfl rfl fun a w hb hf hd => ?_
   have e0 : a.eval (.tmp 7) = sl a 7 := rfl
   exact ⟨41, #[sl a 7], run_call rfl rfl (fun _ _ => by kernel_rfl) (args_1 e0), (iv_trim  (by omega) (mP_imp (m1' := (mR p0 (k0 + k1))) (m2' := (mR p1 (k0 + k1))) (fun _ h => (isR.mono h (by omega))) (fun _ h => (isR.mono h (by omega))) (hd.at 0 rfl rfl rfl rfl)) (hT.below (B62.trans (hb.mono B62.size)))).mono fun _ _ r => RetS.imp (fun _ _ h => fun _ _ => (mP_imp (fun _ h => (isC.mono h (by omega))) (fun _ h => (isC.mono h (by omega))) h)) r⟩
 intro a69 w70 ms71
 have B72 := B62.trans (ms71.b.mono B62.size)
 have d74 := ms71.df.trans d57
 have s75 := (ms71.fr 4 (out_of (by kernel_rfl))).trans s51
 have x76 := bx.below ms71.b x63
 have x77 := bx.below ms71.b x65
 have x78 := bx.below ms71.b x67
 have s79 : (mP (mC (mnQ p0 p1) (k0 + k1 + 1)) (mC (mxQ p0 p1) (k0 + k1 + 1))).S w70 (sl a69 8) := ms71.g 3 _ 8 rfl (by decide) trivial rfl
 refine tl_put rfl rfl rfl (m' := (mP (mC (mnQ p0 p1) (k0 + k1 + 1)) (mC (mxQ p0 p1) (k0 + k1 + 1)))) x78 (ev s75) s79 (mP.cv (fun _ h => (isC.cv h)) (fun _ h => (isC.cv h)) s79) info_Interval ?_
 intro w80 x81 ex82 ot83 bl84
 have B85 := bl84 w (by omega) B72
 have x86 := ot83 (by omega) x76
 have x87 := ot83 (by omega) x77
 have s88 := (mP (mC (mnQ p0 p1) (k0 + k1 + 1)) (mC (mxQ p0 p1) (k0 + k1 + 1))).mono _ _ _ ex82 s79
 refine wpList_nil (then_normal ?_)
 refine wp_ret ?_
 exact end_cell rfl d74 s75 x81 Tryz.underlying44 rfl info_Interval B85 (fun v h => (mP_imp (fun _ h => (isC.mono h (by omega))) (fun _ h => (isC.mono h (by omega))) h))

theorem iv_contains {p0 q0 : Rat} {k0 : Nat} {p1 : Rat} {k1 : Nat} {v0 : Value} {v1 : Value} {w : World} (hk0 : k0 ≤ 9999) (hk1 : k1 ≤ 9999) (pf0 : (mP (mR p0 k0) (mR q0 k0)).S w v0) (pf1 : (mR p1 k1).S w v1) (hT : Tb w) :
   Calls Tryz.prog 33 #[v0, v1] w (RetS (mV (.bool ((decide ((cmpQ (mnQ p0 q0) p1) ≤ 0)) && (decide ((cmpQ p1 (mxQ p0 q0)) ≤ 0))))).S w) := by
 obtain ⟨c0, rfl, n0, u0, o0⟩ := (mP.cv (fun _ h => (isR.cv h)) (fun _ h => (isR.cv h)) pf0)
 obtain ⟨c1, rfl, n1, u1, o1⟩ := (isR.cv pf1)
 refine calls_abs 19 Tryz.func33 rfl rfl (by simp) ?_
 intro a0 z0 d0 ha
 have s0_0 : sl a0 0 = .agg c0 := ha 0 (by simp)
 have s0_1 : sl a0 1 = .agg c1 := ha 1 (by simp)
 have B0 : Below w.heap.size w w := Below.refl _ _
 refine wp_seq ?_
 refine wp_region_seq 0 (mG []) (by rw [z0]; kernel_rfl) (mG_mono _) (ops_ok trivial) ?_
 intro a1 w2 ms3
 have B4 := B0.trans (ms3.b.mono B0.size)
 have z5 := ms3.sz.trans z0
 have d6 := ms3.df.trans d0
 have s7 := (ms3.fr 0 (out_of (by kernel_rfl))).trans s0_0
 have s8 := (ms3.fr 1 (out_of (by kernel_rfl))).trans s0_1
 refine tl_new rfl rfl (run_box_op rfl (ev s7)) (by rw [z5]; decide) ?_
 intro a9 w10 g11 z12 d13 s14 fr15 hg16 hc17 hb18
 have z19 := z12.trans z5
 have d20 := d13.trans d6
 have s22 := (fr15 1 (by decide)).trans s8
 have B23 := B4.trans (hb18.mono B4.size)
 have lw25 : w.heap.size ≤ g11 := by have := B4.size; omega
 have x24 : bx 44 6 (mP (mR p0 k0) (mR q0 k0)) w10 g11 := ⟨c0, hc17, n0, u0, o0, (mP (mR p0 k0) (mR q0 k0)).mono _ _ _ (Ext.of B23) pf0⟩
 refine tl_new rfl rfl (run_box_op rfl (ev s22)) (by rw [z19]; decide) ?_
 intro a26 w27 g28 z29 d30 s31 fr32 hg33 hc34 hb35
 have z36 := z29.trans z19
 have d37 := d30.trans d20
 have s40 := (fr32 2 (by decide)).trans s14
 have B41 := B23.trans (hb35.mono B23.size)
 have ne43 : g11 ≠ g28 := by have := x24.lt; omega
 have x42 := bx.below hb35 x24
 have lw45 : w.heap.size ≤ g28 := by have := B23.size; omega
 have x44 : bx 26 3 (mR p1 k1) w27 g28 := ⟨c1, hc34, n1, u1, o1, (mR p1 k1).mono _ _ _ (Ext.of B41) pf1⟩
 refine tl_set rfl rfl (run_assign rfl) (by rw [z36]; decide) ?_
 intro a46 z47 d48 s49 fr50
 have z52 := z47.trans z36
 have d53 := d48.trans d37
 have s56 := (fr50 2 (by decide)).trans s40
 have s57 := (fr50 3 (by decide)).trans s31
 refine wpList_nil (then_normal ?_)
 refine wp_seq ?_
 refine wp_region_seq 2 (mG [(mP (mR p0 k0) (mR q0 k0)).b, (mP (mR (mnQ p0 q0) k0) (mR (mxQ p0 q0) k0)).b]) (by rw [z52]; kernel_rfl) (mG_mono _) (ops_ok ⟨?_, ?_, trivial⟩) ?_
 · refine opk_pure rfl rfl fun a w hb hf hd => ?_
   obtain ⟨cs, h1, h2, h3, h4, h5⟩ := bx.below hb x42
   exact ⟨_, run_load_row _ _ rfl (ev ((hf 2 (out_of (by kernel_rfl))).trans s56)) h1 Tryz.underlying44 rfl (by rw [h2]; exact info_Interval), fun _ _ => h5⟩
 · refine opk_call rfl rfl fun a w hb hf hd => ?_
   have e0 : a.eval (.tmp 5) = sl a 5 := rfl
   exact ⟨98, #[sl a 5], run_call rfl rfl (fun _ _ => by kernel_rfl) (args_1 e0), (iv_ordered  (by omega) (mP_imp (m1' := (mR p0 k0)) (m2' := (mR q0 k0)) (fun _ h => h) (fun _ h => h) (hd.at 0 rfl rfl rfl rfl)) (hT.below (B41.trans (hb.mono B41.size)))).mono fun _ _ r => RetS.imp (fun _ _ h => fun _ _ => (mP_imp (fun _ h => (isR.mono h (by omega))) (fun _ h => (isR.mono h (by omega))) h)) r⟩
 intro a58 w59 ms60
 have B61 := B41.trans (ms60.b.mono B41.size)
 have z62 := ms60.sz.trans z52
 have d63 := ms60.df.trans d53
 have s64 := (ms60.fr 2 (out_of (by kernel_rfl))).trans s56
 have s65 := (ms60.fr 3 (out_of (by kernel_rfl))).trans s57
 have x67 := bx.below ms60.b x42
 have x68 := bx.below ms60.b x44
 have s69 : (mP (mR (mnQ p0 q0) k0) (mR (mxQ p0 q0) k0)).S w59 (sl a58 6) := ms60.g 1 _ 6 rfl (by decide) trivial rfl
 refine tl_put rfl rfl rfl (m' := (mP (mR (mnQ p0 q0) k0) (mR (mxQ p0 q0) k0))) x67 (ev s64) s69 (mP.cv (fun _ h => (isR.cv h)) (fun _ h => (isR.cv h)) s69) info_Interval ?_
 intro w70 x71 ex72 ot73 bl74
 have B75 := bl74 w (by omega) B61
 have x76 := ot73 (by omega) x68
 have s77 := (mP (mR (mnQ p0 q0) k0) (mR (mxQ p0 q0) k0)).mono _ _ _ ex72 s69
 refine wpList_nil (then_normal ?_)
 refine wp_seq ?_
 refine wp_region_seq 12 (mG [(mV (.pointer (some ⟨g11, 0, none⟩))).b, (mR (mnQ p0 q0) k0).b, (mR p1 k1).b, (mV (.int .i64 (cmpQ (mnQ p0 q0) p1))).b, (mV (.bool (decide ((cmpQ (mnQ p0 q0) p1) ≤ 0)))).b, (mV (.bool (decide ((cmpQ (mnQ p0 q0) p1) ≤ 0)))).b, (mIf (decide ((cmpQ (mnQ p0 q0) p1) ≤ 0)) (mR p1 k1)).b, (mIf (decide ((cmpQ (mnQ p0 q0) p1) ≤ 0)) (mV (.pointer (some ⟨g11, 3, none⟩)))).b, (mIf (decide ((cmpQ (mnQ p0 q0) p1) ≤ 0)) (mR (mxQ p0 q0) k0)).b, (mIf (decide ((cmpQ (mnQ p0 q0) p1) ≤ 0)) (mV (.int .i64 (cmpQ p1 (mxQ p0 q0))))).b, (mIf (decide ((cmpQ (mnQ p0 q0) p1) ≤ 0)) (mV (.bool (decide ((cmpQ p1 (mxQ p0 q0)) ≤ 0))))).b, (mV (.bool ((decide ((cmpQ (mnQ p0 q0) p1) ≤ 0)) && (decide ((cmpQ p1 (mxQ p0 q0)) ≤ 0))))).b]) (by rw [z62]; kernel_rfl) (mG_mono _) (ops_ok ⟨?_, ?_, ?_, ?_, ?_, ?_, ?_, ?_, ?_, ?_, ?_, ?_, trivial⟩) ?_
 · exact opk_pure rfl rfl fun a w hb hf hd => ⟨_, fa_Interval_0 rfl (ev ((hf 2 (out_of (by kernel_rfl))).trans s64)), fun _ _ => rfl⟩
 · refine opk_pure rfl rfl fun a w hb hf hd => ?_
   obtain ⟨x0, x1, x2, h1, h2⟩ := (bx.below hb x71).lo
   exact ⟨_, run_load_mid _ _ rfl (ev (hd.at 0 rfl rfl rfl rfl)) h1 Tryz.underlying26 rfl info_Rat, fun _ _ => h2⟩
 · refine opk_pure rfl rfl fun a w hb hf hd => ?_
   obtain ⟨cs, h1, h2, h3, h4, h5⟩ := bx.below hb x76
   exact ⟨_, run_load_row _ _ rfl (ev ((hf 3 (out_of (by kernel_rfl))).trans s65)) h1 Tryz.underlying26 rfl (by rw [h2]; exact info_Rat), fun _ _ => h5⟩
 · refine opk_call rfl rfl fun a w hb hf hd => ?_
   have e0 : a.eval (.tmp 8) = sl a 8 := rfl
   have e1 : a.eval (.tmp 9) = sl a 9 := rfl
   exact ⟨21, #[sl a 8, sl a 9], run_call rfl rfl (fun _ _ => by kernel_rfl) (args_2 e0 e1), (c_cmp (by omega) (by omega) (hd.at 0 rfl rfl rfl rfl) (hd.at 1 rfl rfl rfl rfl) (hT.below (B75.trans (hb.mono B75.size)))).mono fun _ _ r => RetS.imp (fun _ _ h => fun _ _ => h) r⟩
 · exact opk_pure rfl rfl fun a w hb hf hd => ⟨_, run_leq rfl (ev (hd.at 0 rfl rfl rfl rfl)) rfl, fun _ _ => rfl⟩
 · exact opk_pure rfl rfl fun a w hb hf hd => ⟨_, run_move rfl, fun _ _ => (hd.at 0 rfl rfl rfl rfl)⟩
 · refine opk_guard (decide ((cmpQ (mnQ p0 q0) p1) ≤ 0)) rfl rfl rfl rfl (by rw [z62]; decide) (fun a w hb hf hd => (hd.at 0 rfl rfl rfl rfl)) (fun hne _ hγ => absurd hγ hne) (fun hγ => ?_)
   refine opk_pure rfl rfl fun a w hb hf hd => ?_
   obtain ⟨cs, h1, h2, h3, h4, h5⟩ := bx.below hb x76
   exact ⟨_, run_load_row _ _ rfl (ev ((hf 3 (out_of (by kernel_rfl))).trans s65)) h1 Tryz.underlying26 rfl (by rw [h2]; exact info_Rat), fun _ _ _ => h5⟩
 · refine opk_guard (decide ((cmpQ (mnQ p0 q0) p1) ≤ 0)) rfl rfl rfl rfl (by rw [z62]; decide) (fun a w hb hf hd => (hd.at 0 rfl rfl rfl rfl)) (fun hne _ hγ => absurd hγ hne) (fun hγ => ?_)
   exact opk_pure rfl rfl fun a w hb hf hd => ⟨_, fa_Interval_1 rfl (ev ((hf 2 (out_of (by kernel_rfl))).trans s64)), fun _ _ _ => rfl⟩
 · refine opk_guard (decide ((cmpQ (mnQ p0 q0) p1) ≤ 0)) rfl rfl rfl rfl (by rw [z62]; decide) (fun a w hb hf hd => (hd.at 1 rfl rfl rfl rfl)) (fun hne _ hγ => absurd hγ hne) (fun hγ => ?_)
   refine opk_pure rfl rfl fun a w hb hf hd => ?_
   obtain ⟨x0, x1, x2, h1, h2⟩ := (bx.below hb x71).hi
   exact ⟨_, run_load_mid _ _ rfl (ev ((hd.at 0 rfl rfl rfl rfl) hγ)) h1 Tryz.underlying26 rfl info_Rat, fun _ _ _ => h2⟩
 · refine opk_guard (decide ((cmpQ (mnQ p0 q0) p1) ≤ 0)) rfl rfl rfl rfl (by rw [z62]; decide) (fun a w hb hf hd => (hd.at 2 rfl rfl rfl rfl)) (fun hne _ hγ => absurd hγ hne) (fun hγ => ?_)
   refine opk_call rfl rfl fun a w hb hf hd => ?_
   have e0 : a.eval (.tmp 13) = sl a 13 := rfl
   have e1 : a.eval (.tmp 15) = sl a 15 := rfl
   exact ⟨21, #[sl a 13, sl a 15], run_call rfl rfl (fun _ _ => by kernel_rfl) (args_2 e0 e1), (c_cmp (by omega) (by omega) ((hd.at 0 rfl rfl rfl rfl) hγ) ((hd.at 1 rfl rfl rfl rfl) hγ) (hT.below (B75.trans (hb.mono B75.size)))).mono fun _ _ r => RetS.imp (fun _ _ h => fun _ _ _ => h) r⟩
 · refine opk_guard (decide ((cmpQ (mnQ p0 q0) p1) ≤ 0)) rfl rfl rfl rfl (by rw [z62]; decide) (fun a w hb hf hd => (hd.at 1 rfl rfl rfl rfl)) (fun hne _ hγ => absurd hγ hne) (fun hγ => ?_)
   exact opk_pure rfl rfl fun a w hb hf hd => ⟨_, run_leq rfl (ev ((hd.at 0 rfl rfl rfl rfl) hγ)) rfl, fun _ _ _ => rfl⟩
 · exact opk_pure rfl rfl fun a w hb hf hd => ⟨_, run_pick rfl (ev (hd.at 0 rfl rfl rfl rfl)), fun _ _ => pick_and (hd.at 1 rfl rfl rfl rfl)⟩
 intro a78 w79 ms80
 have B81 := B75.trans (ms80.b.mono B75.size)
 have z82 := ms80.sz.trans z62
 have d83 := ms80.df.trans d63
 have x85 := bx.below ms80.b x71
 have x86 := bx.below ms80.b x76
 have s87 : sl a78 18 = .bool ((decide ((cmpQ (mnQ p0 q0) p1) ≤ 0)) && (decide ((cmpQ p1 (mxQ p0 q0)) ≤ 0))) := ms80.g 11 _ 18 rfl (by decide) trivial rfl
 refine tl_set rfl rfl (run_assign rfl) (by rw [z82]; decide) ?_
 intro a88 z89 d90 s91 fr92
 have s93 := s91.trans s87
 have d95 := d90.trans d83
 refine wpList_nil (then_normal ?_)
 refine wp_ret ?_
 exact end_tmp rfl d95 B81 s93

end Go.Proofs.YtbjijmjhlpkomaaGreatDoor
