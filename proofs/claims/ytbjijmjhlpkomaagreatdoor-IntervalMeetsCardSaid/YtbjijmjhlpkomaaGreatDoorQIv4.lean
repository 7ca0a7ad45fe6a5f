/-  -/
import Derived.Test.YtbjijmjhlpkomaaGreatDoorQcb

set_option linter.unusedVariables false
set_option linter.unusedSimpArgs false
set_option linter.unusedSectionVars false
set_option maxRecDepth 100000
set_option maxHeartbeats 3200000

namespace Go.Proofs.YtbjijmjhlpkomaaGreatDoor
open Go.RowKit Num

theorem r3_min {p0 : Rat} {k0 : Nat} {p1 : Rat} {k1 : Nat} {v0 : Value} {v1 : Value} {w : World} (hk0 : k0 ≤ 199999) (hk1 : k1 ≤ 199999) (pf0 : (mR p0 k0).S w v0) (pf1 : (mR p1 k1).S w v1) :
   Calls Tryz.prog 102 #[v0, v1] w (RetS (mC (mnQ p0 p1) (k0 + k1 + 1)).S w) := by
 obtain ⟨c0, rfl, n0, u0, o0⟩ := (isR.cv pf0)
 obtain ⟨c1, rfl, n1, u1, o1⟩ := (isR.cv pf1)
 refine calls_abs 12 Tryz.func102 rfl rfl (by simp) ?_
 intro a0 z0 d0 ha
 have s0_0 : sl a0 0 = .agg c0 := ha 0 (by simp)
 have s0_1 : sl a0 1 = .agg c1 := ha 1 (by simp)
 have B0 : Below w.heap.size w w := Below.refl _ _
 refine wp_seq ?_
 refine wp_region_seq 0 (mG []) (by rw [z0]; kernel_rfl) (mG_mono _) (ops_ok trivial) ?_
 intro a1 w2 ms3
 have B4 := B0.trans (ms3.b.mono B0.size)
 have z5 := ms3.sz.trans z0
 have d6 := ms3.df.trans d0
 have s7 := (ms3.fr 0 (out_of (by kernel_rfl))).trans s0_0
 have s8 := (ms3.fr 1 (out_of (by kernel_rfl))).trans s0_1
 refine tl_new rfl rfl (run_box_op rfl (ev s7)) (by rw [z5]; decide) ?_
 intro a9 w10 g11 z12 d13 s14 fr15 hg16 hc17 hb18
 have z19 := z12.trans z5
 have d20 := d13.trans d6
 have s22 := (fr15 1 (by decide)).trans s8
 have B23 := B4.trans (hb18.mono B4.size)
 have lw25 : w.heap.size ≤ g11 := by have := B4.size; omega
 have x24 : bx 26 3 (mR p0 k0) w10 g11 := ⟨c0, hc17, n0, u0, o0, (mR p0 k0).mono _ _ _ (Ext.of B23) pf0⟩
 refine tl_new rfl rfl (run_box_op rfl (ev s22)) (by rw [z19]; decide) ?_
 intro a26 w27 g28 z29 d30 s31 fr32 hg33 hc34 hb35
 have z36 := z29.trans z19
 have d37 := d30.trans d20
 have s40 := (fr32 2 (by decide)).trans s14
 have B41 := B23.trans (hb35.mono B23.size)
 have ne43 : g11 ≠ g28 := by have := x24.lt; omega
 have x42 := bx.below hb35 x24
 have lw45 : w.heap.size ≤ g28 := by have := B23.size; omega
 have x44 : bx 26 3 (mR p1 k1) w27 g28 := ⟨c1, hc34, n1, u1, o1, (mR p1 k1).mono _ _ _ (Ext.of B41) pf1⟩
 refine tl_new rfl rfl (run_alloc_op rfl zero_Rat) (by rw [z36]; decide) ?_
 intro a46 w47 g48 z49 d50 s51 fr52 hg53 hc54 hb55
 have z56 := z49.trans z36
 have d57 := d50.trans d37
 have s60 := (fr52 2 (by decide)).trans s40
 have s61 := (fr52 3 (by decide)).trans s31
 have B62 := B41.trans (hb55.mono B41.size)
 have ne64 : g11 ≠ g48 := by have := x42.lt; omega
 have x63 := bx.below hb55 x42
 have ne66 : g28 ≠ g48 := by have := x44.lt; omega
 have x65 := bx.below hb55 x44
 have lw68 : w.heap.size ≤ g48 := by have := B41.size; omega
 have x67 := bx_Rat hc54
 refine wpList_nil (then_normal ?_)
 refine wp_seq ?_
 refine wp_seq ?_
 refine wp_region_seq 3 (mG [(mR p1 k1).b, (mR p0 k0).b, (mV (.bool (decide (p1 < p0)))).b]) (by rw [z56]; kernel_rfl) (mG_mono _) (ops_ok ⟨?_, ?_, ?_, trivial⟩) ?_
 · refine opk_pure rfl rfl fun a w hb hf hd => ?_
   obtain ⟨cs, h1, h2, h3, h4, h5⟩ := bx.below hb x65
   exact ⟨_, run_load_row _ _ rfl (ev ((hf 3 (out_of (by kernel_rfl))).trans s61)) h1 Tryz.underlying26 rfl (by rw [h2]; exact info_Rat), fun _ _ => h5⟩
 · refine opk_pure rfl rfl fun a w hb hf hd => ?_
   obtain ⟨cs, h1, h2, h3, h4, h5⟩ := bx.below hb x63
   exact ⟨_, run_load_row _ _ rfl (ev ((hf 2 (out_of (by kernel_rfl))).trans s60)) h1 Tryz.underlying26 rfl (by rw [h2]; exact info_Rat), fun _ _ => h5⟩
 · refine opk_call rfl rfl fun a w hb hf hd => ?_
   have e0 : a.eval (.tmp 5) = sl a 5 := rfl
   have e1 : a.eval (.tmp 6) = sl a 6 := rfl
   exact ⟨103, #[sl a 5, sl a 6], run_call rfl rfl (fun _ _ => by kernel_rfl) (args_2 e0 e1), (r_less (by omega) (by omega) (hd.at 0 rfl rfl rfl rfl) (hd.at 1 rfl rfl rfl rfl)).mono fun _ _ r => RetS.imp (fun _ _ h => fun _ _ => h) r⟩
 intro a69 w70 ms71
 have B72 := B62.trans (ms71.b.mono B62.size)
 have z73 := ms71.sz.trans z56
 have d74 := ms71.df.trans d57
 have s75 := (ms71.fr 2 (out_of (by kernel_rfl))).trans s60
 have s76 := (ms71.fr 3 (out_of (by kernel_rfl))).trans s61
 have s77 := (ms71.fr 4 (out_of (by kernel_rfl))).trans s51
 have x78 := bx.below ms71.b x63
 have x79 := bx.below ms71.b x65
 have x80 := bx.below ms71.b x67
 have s81 : sl a69 7 = .bool (decide (p1 < p0)) := ms71.g 2 _ 7 rfl (by decide) trivial rfl
 refine wpList_nil (then_normal ?_)
 refine cond_b (decide (p1 < p0)) (ev s81) (fun hb82 => ?_) (fun hb82 => ?_)
 · skip
   have hb82p := of_decide_eq_true hb82
   refine wp_seq ?_
   refine wp_region_seq 2 (mG [(mR p1 k1).b, (mC p1 (k1 + 1)).b]) (by rw [z73]; kernel_rfl) (mG_mono _) (ops_ok ⟨?_, ?_, trivial⟩) ?_
   · refine opk_pure rfl rfl fun a w hb hf hd => ?_
     obtain ⟨cs, h1, h2, h3, h4, h5⟩ := bx.below hb x79
     exact ⟨_, run_load_row _ _ rfl (ev ((hf 3 (out_of (by kernel_rfl))).trans s76)) h1 Tryz.underlying26 rfl (by rw [h2]; exact info_Rat), fun _ _ => h5⟩
   · refine opk_call rfl rfl fun a w hb hf hd => ?_
     have e0 : a.eval (.tmp 8) = sl a 8 := rfl
     exact ⟨16, #[sl a 8], run_call rfl rfl (fun _ _ => by kernel_rfl) (args_1 e0), (r_trim (by omega) (hd.at 0 rfl rfl rfl rfl)).mono fun _ _ r => RetS.imp (fun _ _ h => fun _ _ => (isC.mono h (by omega))) r⟩
   intro a83 w84 ms85
   have B86 := B72.trans (ms85.b.mono B72.size)
   have d88 := ms85.df.trans d74
   have s91 := (ms85.fr 4 (out_of (by kernel_rfl))).trans s77
   have x93 := bx.below ms85.b x78
   have x94 := bx.below ms85.b x79
   have x95 := bx.below ms85.b x80
   have s96 : (mC p1 (k1 + 1)).S w84 (sl a83 9) := ms85.g 1 _ 9 rfl (by decide) trivial rfl
   refine tl_put rfl rfl rfl (m' := (mC p1 (k1 + 1))) x95 (ev s91) s96 (isC.cv s96) info_Rat ?_
   intro w97 x98 ex99 ot100 bl101
   have B102 := bl101 w (by omega) B86
   have x103 := ot100 (by omega) x93
   have x104 := ot100 (by omega) x94
   have s105 := (mC p1 (k1 + 1)).mono _ _ _ ex99 s96
   refine wpList_nil (then_normal ?_)
   refine wp_ret ?_
   exact end_cell rfl d88 s91 x98 Tryz.underlying26 rfl info_Rat B102 (fun v h => (by first | (rw [min_t (by assumption)]; exact isC.mono h (by omega)) | (rw [min_f (by assumption)]; exact isC.mono h (by omega))))
 · skip
   have hb82p := of_decide_eq_false hb82
   refine wp_skip (then_normal ?_)
   refine wp_seq ?_
   refine wp_region_seq 2 (mG [(mR p0 k0).b, (mC p0 (k0 + 1)).b]) (by rw [z73]; kernel_rfl) (mG_mono _) (ops_ok ⟨?_, ?_, trivial⟩) ?_
   · refine opk_pure rfl rfl fun a w hb hf hd => ?_
     obtain ⟨cs, h1, h2, h3, h4, h5⟩ := bx.below hb x78
     exact ⟨_, run_load_row _ _ rfl (ev ((hf 2 (out_of (by kernel_rfl))).trans s75)) h1 Tryz.underlying26 rfl (by rw [h2]; exact info_Rat), fun _ _ => h5⟩
   · refine opk_call rfl rfl fun a w hb hf hd => ?_
     have e0 : a.eval (.tmp 10) = sl a 10 := rfl
     exact ⟨16, #[sl a 10], run_call rfl rfl (fun _ _ => by kernel_rfl) (args_1 e0), (r_trim (by omega) (hd.at 0 rfl rfl rfl rfl)).mono fun _ _ r => RetS.imp (fun _ _ h => fun _ _ => (isC.mono h (by omega))) r⟩
   intro a106 w107 ms108
   have B109 := B72.trans (ms108.b.mono B72.size)
   have d111 := ms108.df.trans d74
   have s114 := (ms108.fr 4 (out_of (by kernel_rfl))).trans s77
   have x116 := bx.below ms108.b x78
   have x117 := bx.below ms108.b x79
   have x118 := bx.below ms108.b x80
   have s119 : (mC p0 (k0 + 1)).S w107 (sl a106 11) := ms108.g 1 _ 11 rfl (by decide) trivial rfl
   refine tl_put rfl rfl rfl (m' := (mC p0 (k0 + 1))) x118 (ev s114) s119 (isC.cv s119) info_Rat ?_
   intro w120 x121 ex122 ot123 bl124
   have B125 := bl124 w (by omega) B109
   have x126 := ot123 (by omega) x116
   have x127 := ot123 (by omega) x117
   have s128 := (mC p0 (k0 + 1)).mono _ _ _ ex122 s119
   refine wpList_nil (then_normal ?_)
   refine wp_ret ?_
   exact end_cell rfl d111 s114 x121 Tryz.underlying26 rfl info_Rat B125 (fun v h => (by first | (rw [min_t (by assumption)]; exact isC.mono h (by omega)) | (rw [min_f (by assumption)]; exact isC.mono h (by omega))))

theorem r3_max {p0 : Rat} {k0 : Nat} {p1 : Rat} {k1 : Nat} {v0 : Value} {v1 : Value} {w : World} (hk0 : k0 ≤ 199999) (hk1 : k1 ≤ 199999) (pf0 : (mR p0 k0).S w v0) (pf1 : (mR p1 k1).S w v1) :
   Calls Tryz.prog 101 #[v0, v1] w (RetS (mC (mxQ p0 p1) (k0 + k1 + 1)).S w) := by
 obtain ⟨c0, rfl, n0, u0, o0⟩ := (isR.cv pf0)
 obtain ⟨c1, rfl, n1, u1, o1⟩ := (isR.cv pf1)
 refine calls_abs 12 Tryz.func101 rfl rfl (by simp) ?_
 intro a0 z0 d0 ha
 have s0_0 : sl a0 0 = .agg c0 := ha 0 (by simp)
 have s0_1 : sl a0 1 = .agg c1 := ha 1 (by simp)
 have B0 : Below w.heap.size w w := Below.refl _ _
 refine wp_seq ?_
 refine wp_region_seq 0 (mG []) (by rw [z0]; kernel_rfl) (mG_mono _) (ops_ok trivial) ?_
 intro a1 w2 ms3
 have B4 := B0.trans (ms3.b.mono B0.size)
 have z5 := ms3.sz.trans z0
 have d6 := ms3.df.trans d0
 have s7 := (ms3.fr 0 (out_of (by kernel_rfl))).trans s0_0
 have s8 := (ms3.fr 1 (out_of (by kernel_rfl))).trans s0_1
 refine tl_new rfl rfl (run_box_op rfl (ev s7)) (by rw [z5]; decide) ?_
 intro a9 w10 g11 z12 d13 s14 fr15 hg16 hc17 hb18
 have z19 := z12.trans z5
 have d20 := d13.trans d6
 have s22 := (fr15 1 (by decide)).trans s8
 have B23 := B4.trans (hb18.mono B4.size)
 have lw25 : w.heap.size ≤ g11 := by have := B4.size; omega
 have x24 : bx 26 3 (mR p0 k0) w10 g11 := ⟨c0, hc17, n0, u0, o0, (mR p0 k0).mono _ _ _ (Ext.of B23) pf0⟩
 refine tl_new rfl rfl (run_box_op rfl (ev s22)) (by rw [z19]; decide) ?_
 intro a26 w27 g28 z29 d30 s31 fr32 hg33 hc34 hb35
 have z36 := z29.trans z19
 have d37 := d30.trans d20
 have s40 := (fr32 2 (by decide)).trans s14
 have B41 := B23.trans (hb35.mono B23.size)
 have ne43 : g11 ≠ g28 := by have := x24.lt; omega
 have x42 := bx.below hb35 x24
 have lw45 : w.heap.size ≤ g28 := by have := B23.size; omega
 have x44 : bx 26 3 (mR p1 k1) w27 g28 := ⟨c1, hc34, n1, u1, o1, (mR p1 k1).mono _ _ _ (Ext.of B41) pf1⟩
 refine tl_new rfl rfl (run_alloc_op rfl zero_Rat) (by rw [z36]; decide) ?_
 intro a46 w47 g48 z49 d50 s51 fr52 hg53 hc54 hb55
 have z56 := z49.trans z36
 have d57 := d50.trans d37
 have s60 := (fr52 2 (by decide)).trans s40
 have s61 := (fr52 3 (by decide)).trans s31
 have B62 := B41.trans (hb55.mono B41.size)
 have ne64 : g11 ≠ g48 := by have := x42.lt; omega
 have x63 := bx.below hb55 x42
 have ne66 : g28 ≠ g48 := by have := x44.lt; omega
 have x65 := bx.below hb55 x44
 have lw68 : w.heap.size ≤ g48 := by have := B41.size; omega
 have x67 := bx_Rat hc54
 refine wpList_nil (then_normal ?_)
 refine wp_seq ?_
 refine wp_seq ?_
 refine wp_region_seq 3 (mG [(mR p0 k0).b, (mR p1 k1).b, (mV (.bool (decide (p0 < p1)))).b]) (by rw [z56]; kernel_rfl) (mG_mono _) (ops_ok ⟨?_, ?_, ?_, trivial⟩) ?_
 · refine opk_pure rfl rfl fun a w hb hf hd => ?_
   obtain ⟨cs, h1, h2, h3, h4, h5⟩ := bx.below hb x63
   exact ⟨_, run_load_row _ _ rfl (ev ((hf 2 (out_of (by kernel_rfl))).trans s60)) h1 Tryz.underlying26 rfl (by rw [h2]; exact info_Rat), fun _ _ => h5⟩
 · refine opk_pure rfl rfl fun a w hb hf hd => ?_
   obtain ⟨cs, h1, h2, h3, h4, h5⟩ := bx.below hb x65
   exact ⟨_, run_load_row _ _ rfl (ev ((hf 3 (out_of (by kernel_rfl))).trans s61)) h1 Tryz.underlying26 rfl (by rw [h2]; exact info_Rat), fun _ _ => h5⟩
 · refine opk_call rfl rfl fun a w hb hf hd => ?_
   have e0 : a.eval (.tmp 5) = sl a 5 := rfl
   have e1 : a.eval (.tmp 6) = sl a 6 := rfl
   exact ⟨103, #[sl a 5, sl a 6], run_call rfl rfl (fun _ _ => by kernel_rfl) (args_2 e0 e1), (r_less (by omega) (by omega) (hd.at 0 rfl rfl rfl rfl) (hd.at 1 rfl rfl rfl rfl)).mono fun _ _ r => RetS.imp (fun _ _ h => fun _ _ => h) r⟩
 intro a69 w70 ms71
 have B72 := B62.trans (ms71.b.mono B62.size)
 have z73 := ms71.sz.trans z56
 have d74 := ms71.df.trans d57
 have s75 := (ms71.fr 2 (out_of (by kernel_rfl))).trans s60
 have s76 := (ms71.fr 3 (out_of (by kernel_rfl))).trans s61
 have s77 := (ms71.fr 4 (out_of (by kernel_rfl))).trans s51
 have x78 := bx.below ms71.b x63
 have x79 := bx.below ms71.b x65
 have x80 := bx.below ms71.b x67
 have s81 : sl a69 7 = .bool (decide (p0 < p1)) := ms71.g 2 _ 7 rfl (by decide) trivial rfl
 refine wpList_nil (then_normal ?_)
 refine cond_b (decide (p0 < p1)) (ev s81) (fun hb82 => ?_) (fun hb82 => ?_)
 · skip
   have hb82p := of_decide_eq_true hb82
   refine wp_seq ?_
   refine wp_region_seq 2 (mG [(mR p1 k1).b, (mC p1 (k1 + 1)).b]) (by rw [z73]; kernel_rfl) (mG_mono _) (ops_ok ⟨?_, ?_, trivial⟩) ?_
   · refine opk_pure rfl rfl fun a w hb hf hd => ?_
     obtain ⟨cs, h1, h2, h3, h4, h5⟩ := bx.below hb x79
     exact ⟨_, run_load_row _ _ rfl (ev ((hf 3 (out_of (by kernel_rfl))).trans s76)) h1 Tryz.underlying26 rfl (by rw [h2]; exact info_Rat), fun _ _ => h5⟩
   · refine opk_call rfl rfl fun a w hb hf hd => ?_
     have e0 : a.eval (.tmp 8) = sl a 8 := rfl
     exact ⟨16, #[sl a 8], run_call rfl rfl (fun _ _ => by kernel_rfl) (args_1 e0), (r_trim (by omega) (hd.at 0 rfl rfl rfl rfl)).mono fun _ _ r => RetS.imp (fun _ _ h => fun _ _ => (isC.mono h (by omega))) r⟩
   intro a83 w84 ms85
   have B86 := B72.trans (ms85.b.mono B72.size)
   have d88 := ms85.df.trans d74
   have s91 := (ms85.fr 4 (out_of (by kernel_rfl))).trans s77
   have x93 := bx.below ms85.b x78
   have x94 := bx.below ms85.b x79
   have x95 := bx.below ms85.b x80
   have s96 : (mC p1 (k1 + 1)).S w84 (sl a83 9) := ms85.g 1 _ 9 rfl (by decide) trivial rfl
   refine tl_put rfl rfl rfl (m' := (mC p1 (k1 + 1))) x95 (ev s91) s96 (isC.cv s96) info_Rat ?_
   intro w97 x98 ex99 ot100 bl101
   have B102 := bl101 w (by omega) B86
   have x103 := ot100 (by omega) x93
   have x104 := ot100 (by omega) x94
   have s105 := (mC p1 (k1 + 1)).mono _ _ _ ex99 s96
   refine wpList_nil (then_normal ?_)
   refine wp_ret ?_
   exact end_cell rfl d88 s91 x98 Tryz.underlying26 rfl info_Rat B102 (fun v h => (by first | (rw [max_t (by assumption)]; exact isC.mono h (by omega)) | (rw [max_f (by assumption)]; exact isC.mono h (by omega))))
 · skip
   have hb82p := of_decide_eq_false hb82
   refine wp_skip (then_normal ?_)
   refine wp_seq ?_
   refine wp_region_seq 2 (mG [(mR p0 k0).b, (mC p0 (k0 + 1)).b]) (by rw [z73]; kernel_rfl) (mG_mono _) (ops_ok ⟨?_, ?_, trivial⟩) ?_
   · refine opk_pure rfl rfl fun a w hb hf hd => ?_
     obtain ⟨cs, h1, h2, h3, h4, h5⟩ := bx.below hb x78
     exact ⟨_, run_load_row _ _ rfl (ev ((hf 2 (out_of (by kernel_rfl))).trans s75)) h1 Tryz.underlying26 rfl (by rw [h2]; exact info_Rat), fun _ _ => h5⟩
   · refine opk_call rfl rfl fun a w hb hf hd => ?_
     have e0 : a.eval (.tmp 10) = sl a 10 := rfl
     exact ⟨16, #[sl a 10], run_call rfl rfl (fun _ _ => by kernel_rfl) (args_1 e0), (r_trim (by omega) (hd.at 0 rfl rfl rfl rfl)).mono fun _ _ r => RetS.imp (fun _ _ h => fun _ _ => (isC.mono h (by omega))) r⟩
   intro a106 w107 ms108
   have B109 := B72.trans (ms108.b.mono B72.size)
   have d111 := ms108.df.trans d74
   have s114 := (ms108.fr 4 (out_of (by kernel_rfl))).trans s77
   have x116 := bx.below ms108.b x78
   have x117 := bx.below ms108.b x79
   have x118 := bx.below ms108.b x80
   have s119 : (mC p0 (k0 + 1)).S w107 (sl a106 11) := ms108.g 1 _ 11 rfl (by decide) trivial rfl
   refine tl_put rfl rfl rfl (m' := (mC p0 (k0 + 1))) x118 (ev s114) s119 (isC.cv s119) info_Rat ?_
   intro w120 x121 ex122 ot123 bl124
   have B125 := bl124 w (by omega) B109
   have x126 := ot123 (by omega) x116
   have x127 := ot123 (by omega) x117
   have s128 := (mC p0 (k0 + 1)).mono _ _ _ ex122 s119
   refine wpList_nil (then_normal ?_)
   refine wp_ret ?_
   exact end_cell rfl d111 s114 x121 Tryz.underlying26 rfl info_Rat B125 (fun v h => (by first | (rw [max_t (by assumption)]; exact isC.mono h (by omega)) | (rw [max_f (by assumption)]; exact isC.mono h (by omega))))

theorem r4_trim {p0 q0 : Rat} {k0 : Nat} {v0 : Value} {w : World} (hk0 : k0 ≤ 99999) (pf0 : (mP (mR p0 k0) (mR q0 k0)).S w v0) :
   Calls Tryz.prog 42 #[v0] w (RetS (mP (mC (mnQ p0 q0) (k0 + k0 + 1)) (mC (mxQ p0 q0) (k0 + k0 + 1))).S w) := by
 obtain ⟨c0, rfl, n0, u0, o0⟩ := (mP.cv (fun _ h => (isR.cv h)) (fun _ h => (isR.cv h)) pf0)
 refine calls_abs 14 Tryz.func42 rfl rfl (by simp) ?_
 intro a0 z0 d0 ha
 have s0_0 : sl a0 0 = .agg c0 := ha 0 (by simp)
 have B0 : Below w.heap.size w w := Below.refl _ _
 refine wp_seq ?_
 refine wp_region_seq 0 (mG []) (by rw [z0]; kernel_rfl) (mG_mono _) (ops_ok trivial) ?_
 intro a1 w2 ms3
 have B4 := B0.trans (ms3.b.mono B0.size)
 have z5 := ms3.sz.trans z0
 have d6 := ms3.df.trans d0
 have s7 := (ms3.fr 0 (out_of (by kernel_rfl))).trans s0_0
 refine tl_new rfl rfl (run_box_op rfl (ev s7)) (by rw [z5]; decide) ?_
 intro a8 w9 g10 z11 d12 s13 fr14 hg15 hc16 hb17
 have z18 := z11.trans z5
 have d19 := d12.trans d6
 have B21 := B4.trans (hb17.mono B4.size)
 have lw23 : w.heap.size ≤ g10 := by have := B4.size; omega
 have x22 : bx 44 6 (mP (mR p0 k0) (mR q0 k0)) w9 g10 := ⟨c0, hc16, n0, u0, o0, (mP (mR p0 k0) (mR q0 k0)).mono _ _ _ (Ext.of B21) pf0⟩
 refine tl_new rfl rfl (run_alloc_op rfl zero_Interval) (by rw [z18]; decide) ?_
 intro a24 w25 g26 z27 d28 s29 fr30 hg31 hc32 hb33
 have z34 := z27.trans z18
 have d35 := d28.trans d19
 have s37 := (fr30 1 (by decide)).trans s13
 have B38 := B21.trans (hb33.mono B21.size)
 have ne40 : g10 ≠ g26 := by have := x22.lt; omega
 have x39 := bx.below hb33 x22
 have lw42 : w.heap.size ≤ g26 := by have := B21.size; omega
 have x41 := bx_Interval hc32
 refine wpList_nil (then_normal ?_)
 refine wp_seq ?_
 refine wp_region_mono 11 [] (mG [(mV (.pointer (some ⟨g10, 0, none⟩))).b, (mR p0 k0).b, (mV (.pointer (some ⟨g10, 3, none⟩))).b, (mR q0 k0).b, (mC (mnQ p0 q0) (k0 + k0 + 1)).b, (mV (.pointer (some ⟨g10, 0, none⟩))).b, (mR p0 k0).b, (mV (.pointer (some ⟨g10, 3, none⟩))).b, (mR q0 k0).b, (mC (mxQ p0 q0) (k0 + k0 + 1)).b, (mP (mC (mnQ p0 q0) (k0 + k0 + 1)) (mC (mxQ p0 q0) (k0 + k0 + 1))).b]) (by kernel_rfl) (by rw [z34]; kernel_rfl) (fun h => absurd rfl h) (mG_mono _) (ops_ok ⟨?_, ?_, ?_, ?_, ?_, ?_, ?_, ?_, ?_, ?_, ?_, trivial⟩) ?_
 · exact opk_pure rfl rfl fun a w hb hf hd => ⟨_, fa_Interval_0 rfl (ev ((hf 1 (out_of (by kernel_rfl))).trans s37)), fun _ _ => rfl⟩
 · refine opk_pure rfl rfl fun a w hb hf hd => ?_
   obtain ⟨x0, x1, x2, h1, h2⟩ := (bx.below hb x39).lo
   exact ⟨_, run_load_mid _ _ rfl (ev (hd.at 0 rfl rfl rfl rfl)) h1 Tryz.underlying26 rfl info_Rat, fun _ _ => h2⟩
 · exact opk_pure rfl rfl fun a w hb hf hd => ⟨_, fa_Interval_1 rfl (ev ((hf 1 (out_of (by kernel_rfl))).trans s37)), fun _ _ => rfl⟩
 · refine opk_pure rfl rfl fun a w hb hf hd => ?_
   obtain ⟨x0, x1, x2, h1, h2⟩ := (bx.below hb x39).hi
   exact ⟨_, run_load_mid _ _ rfl (ev (hd.at 0 rfl rfl rfl rfl)) h1 Tryz.underlying26 rfl info_Rat, fun _ _ => h2⟩
 · refine opk_call rfl rfl fun a w hb hf hd => ?_
   have e0 : a.eval (.tmp 4) = sl a 4 := rfl
   have e1 : a.eval (.tmp 6) = sl a 6 := rfl
   exact ⟨102, #[sl a 4, sl a 6], run_call rfl rfl (fun _ _ => by kernel_rfl) (args_2 e0 e1), (r3_min  (by omega) (by omega) (hd.at 0 rfl rfl rfl rfl) (hd.at 1 rfl rfl rfl rfl)).mono fun _ _ r => RetS.imp (fun _ _ h => fun _ _ => (isC.mono h (by omega))) r⟩
 · exact opk_pure rfl rfl fun a w hb hf hd => ⟨_, fa_Interval_0 rfl (ev ((hf 1 (out_of (by kernel_rfl))).trans s37)), fun _ _ => rfl⟩
 · refine opk_pure rfl rfl fun a w hb hf hd => ?_
   obtain ⟨x0, x1, x2, h1, h2⟩ := (bx.below hb x39).lo
   exact ⟨_, run_load_mid _ _ rfl (ev (hd.at 0 rfl rfl rfl rfl)) h1 Tryz.underlying26 rfl info_Rat, fun _ _ => h2⟩
 · exact opk_pure rfl rfl fun a w hb hf hd => ⟨_, fa_Interval_1 rfl (ev ((hf 1 (out_of (by kernel_rfl))).trans s37)), fun _ _ => rfl⟩
 · refine opk_pure rfl rfl fun a w hb hf hd => ?_
   obtain ⟨x0, x1, x2, h1, h2⟩ := (bx.below hb x39).hi
   exact ⟨_, run_load_mid _ _ rfl (ev (hd.at 0 rfl rfl rfl rfl)) h1 Tryz.underlying26 rfl info_Rat, fun _ _ => h2⟩
 · refine opk_call rfl rfl fun a w hb hf hd => ?_
   have e0 : a.eval (.tmp 9) = sl a 9 := rfl
   have e1 : a.eval (.tmp 11) = sl a 11 := rfl
   exact ⟨101, #[sl a 9, sl a 11], run_call rfl rfl (fun _ _ => by kernel_rfl) (args_2 e0 e1), (r3_max  (by omega) (by omega) (hd.at 0 rfl rfl rfl rfl) (hd.at 1 rfl rfl rfl rfl)).mono fun _ _ r => RetS.imp (fun _ _ h => fun _ _ => (isC.mono h (by omega))) r⟩
 · refine opk_pure rfl rfl fun a w hb hf hd => ?_
   have kk1 : (mC (mnQ p0 q0) (k0 + k0 + 1)).S w (sl a 7) := (hd.at 0 rfl rfl rfl rfl)
   have kk2 : (mC (mxQ p0 q0) (k0 + k0 + 1)).S w (sl a 12) := (hd.at 1 rfl rfl rfl rfl)
   obtain ⟨x0, x1, x2, qq1⟩ := cv3 (isC.cv kk1)
   obtain ⟨y0, y1, y2, qq2⟩ := cv3 (isC.cv kk2)
   rw [qq1] at kk1; rw [qq2] at kk2
   exact ⟨_, run_build_op _ _ rfl (built_pair qq1 qq2), fun _ _ => ⟨x0, x1, x2, y0, y1, y2, rfl, kk1, kk2⟩⟩
 intro a43 w44 ms45
 have B46 := B38.trans (ms45.b.mono B38.size)
 have d48 := ms45.df.trans d35
 have s49 := (ms45.fr 2 (out_of (by kernel_rfl))).trans s29
 have x50 := bx.below ms45.b x39
 have x51 := bx.below ms45.b x41
 have s52 : (mP (mC (mnQ p0 q0) (k0 + k0 + 1)) (mC (mxQ p0 q0) (k0 + k0 + 1))).S w44 (sl a43 13) := ms45.g 10 _ 13 rfl (by decide) trivial rfl
 refine tl_put rfl rfl rfl (m' := (mP (mC (mnQ p0 q0) (k0 + k0 + 1)) (mC (mxQ p0 q0) (k0 + k0 + 1)))) x51 (ev s49) s52 (mP.cv (fun _ h => (isC.cv h)) (fun _ h => (isC.cv h)) s52) info_Interval ?_
 intro w53 x54 ex55 ot56 bl57
 have B58 := bl57 w (by omega) B46
 have x59 := ot56 (by omega) x50
 have s60 := (mP (mC (mnQ p0 q0) (k0 + k0 + 1)) (mC (mxQ p0 q0) (k0 + k0 + 1))).mono _ _ _ ex55 s52
 refine wpList_nil (then_normal ?_)
 refine wp_ret ?_
 exact end_cell rfl d48 s49 x54 Tryz.underlying44 rfl info_Interval B58 (fun v h => (mP_imp (fun _ h => (isC.mono h (by omega))) (fun _ h => (isC.mono h (by omega))) h))

theorem r4_make {p0 : Rat} {k0 : Nat} {p1 : Rat} {k1 : Nat} {v0 : Value} {v1 : Value} {w : World} (hk0 : k0 ≤ 29999) (hk1 : k1 ≤ 29999) (pf0 : (mR p0 k0).S w v0) (pf1 : (mR p1 k1).S w v1) :
   Calls Tryz.prog 44 #[v0, v1] w (RetS (mP (mC (mnQ p0 p1) (k0 + k1 + k0 + k1 + 1)) (mC (mxQ p0 p1) (k0 + k1 + k0 + k1 + 1))).S w) := by
 obtain ⟨c0, rfl, n0, u0, o0⟩ := (isR.cv pf0)
 obtain ⟨c1, rfl, n1, u1, o1⟩ := (isR.cv pf1)
 refine calls_abs 9 Tryz.func44 rfl rfl (by simp) ?_
 intro a0 z0 d0 ha
 have s0_0 : sl a0 0 = .agg c0 := ha 0 (by simp)
 have s0_1 : sl a0 1 = .agg c1 := ha 1 (by simp)
 have B0 : Below w.heap.size w w := Below.refl _ _
 refine wp_seq ?_
 refine wp_region_seq 0 (mG []) (by rw [z0]; kernel_rfl) (mG_mono _) (ops_ok trivial) ?_
 intro a1 w2 ms3
 have B4 := B0.trans (ms3.b.mono B0.size)
 have z5 := ms3.sz.trans z0
 have d6 := ms3.df.trans d0
 have s7 := (ms3.fr 0 (out_of (by kernel_rfl))).trans s0_0
 have s8 := (ms3.fr 1 (out_of (by kernel_rfl))).trans s0_1
 refine tl_new rfl rfl (run_box_op rfl (ev s7)) (by rw [z5]; decide) ?_
 intro a9 w10 g11 z12 d13 s14 fr15 hg16 hc17 hb18
 have z19 := z12.trans z5
 have d20 := d13.trans d6
 have s22 := (fr15 1 (by decide)).trans s8
 have B23 := B4.trans (hb18.mono B4.size)
 have lw25 : w.heap.size ≤ g11 := by have := B4.size; omega
 have x24 : bx 26 3 (mR p0 k0) w10 g11 := ⟨c0, hc17, n0, u0, o0, (mR p0 k0).mono _ _ _ (Ext.of B23) pf0⟩
 refine tl_new rfl rfl (run_box_op rfl (ev s22)) (by rw [z19]; decide) ?_
 intro a26 w27 g28 z29 d30 s31 fr32 hg33 hc34 hb35
 have z36 := z29.trans z19
 have d37 := d30.trans d20
 have s40 := (fr32 2 (by decide)).trans s14
 have B41 := B23.trans (hb35.mono B23.size)
 have ne43 : g11 ≠ g28 := by have := x24.lt; omega
 have x42 := bx.below hb35 x24
 have lw45 : w.heap.size ≤ g28 := by have := B23.size; omega
 have x44 : bx 26 3 (mR p1 k1) w27 g28 := ⟨c1, hc34, n1, u1, o1, (mR p1 k1).mono _ _ _ (Ext.of B41) pf1⟩
 refine tl_new rfl rfl (run_alloc_op rfl zero_Interval) (by rw [z36]; decide) ?_
 intro a46 w47 g48 z49 d50 s51 fr52 hg53 hc54 hb55
 have z56 := z49.trans z36
 have d57 := d50.trans d37
 have s60 := (fr52 2 (by decide)).trans s40
 have s61 := (fr52 3 (by decide)).trans s31
 have B62 := B41.trans (hb55.mono B41.size)
 have ne64 : g11 ≠ g48 := by have := x42.lt; omega
 have x63 := bx.below hb55 x42
 have ne66 : g28 ≠ g48 := by have := x44.lt; omega
 have x65 := bx.below hb55 x44
 have lw68 : w.heap.size ≤ g48 := by have := B41.size; omega
 have x67 := bx_Interval hc54
 refine wpList_nil (then_normal ?_)
 refine wp_seq ?_
 refine wp_region_seq 4 (mG [(mR p0 k0).b, (mR p1 k1).b, (mP (mR p0 k0) (mR p1 k1)).b, (mP (mC (mnQ p0 p1) (k0 + k1 + k0 + k1 + 1)) (mC (mxQ p0 p1) (k0 + k1 + k0 + k1 + 1))).b]) (by rw [z56]; kernel_rfl) (mG_mono _) (ops_ok ⟨?_, ?_, ?_, ?_, trivial⟩) ?_
 · refine opk_pure rfl rfl fun a w hb hf hd => ?_
   obtain ⟨cs, h1, h2, h3, h4, h5⟩ := bx.below hb x63
   exact ⟨_, run_load_row _ _ rfl (ev ((hf 2 (out_of (by kernel_rfl))).trans s60)) h1 Tryz.underlying26 rfl (by rw [h2]; exact info_Rat), fun _ _ => h5⟩
 · refine opk_pure rfl rfl fun a w hb hf hd => ?_
   obtain ⟨cs, h1, h2, h3, h4, h5⟩ := bx.below hb x65
   exact ⟨_, run_load_row _ _ rfl (ev ((hf 3 (out_of (by kernel_rfl))).trans s61)) h1 Tryz.underlying26 rfl (by rw [h2]; exact info_Rat), fun _ _ => h5⟩
 · refine opk_pure rfl rfl fun a w hb hf hd => ?_
   have kk1 : (mR p0 k0).S w (sl a 5) := (hd.at 0 rfl rfl rfl rfl)
   have kk2 : (mR p1 k1).S w (sl a 6) := (hd.at 1 rfl rfl rfl rfl)
   obtain ⟨x0, x1, x2, qq1⟩ := cv3 (isR.cv kk1)
   obtain ⟨y0, y1, y2, qq2⟩ := cv3 (isR.cv kk2)
   rw [qq1] at kk1; rw [qq2] at kk2
   exact ⟨_, run_build_op _ _ rfl (built_pair qq1 qq2), fun _ _ => ⟨x0, x1, x2, y0, y1, y2, rfl, kk1, kk2⟩⟩
 · refine opk_call rfl rfl fun a w hb hf hd => ?_
   have e0 : a.eval (.tmp 7) = sl a 7 := rfl
   exact ⟨42, #[sl a 7], run_call rfl rfl (fun _ _ => by kernel_rfl) (args_1 e0), (r4_trim  (by omega) (mP_imp (m1' := (mR p0 (k0 + k1))) (m2' := (mR p1 (k0 + k1))) (fun _ h => (isR.mono h (by omega))) (fun _ h => (isR.mono h (by omega))) (hd.at 0 rfl rfl rfl rfl))).mono fun _ _ r => RetS.imp (fun _ _ h => fun _ _ => (mP_imp (fun _ h => (isC.mono h (by omega))) (fun _ h => (isC.mono h (by omega))) h)) r⟩
 intro a69 w70 ms71
 have B72 := B62.trans (ms71.b.mono B62.size)
 have d74 := ms71.df.trans d57
 have s75 := (ms71.fr 4 (out_of (by kernel_rfl))).trans s51
 have x76 := bx.below ms71.b x63
 have x77 := bx.below ms71.b x65
 have x78 := bx.below ms71.b x67
 have s79 : (mP (mC (mnQ p0 p1) (k0 + k1 + k0 + k1 + 1)) (mC (mxQ p0 p1) (k0 + k1 + k0 + k1 + 1))).S w70 (sl a69 8) := ms71.g 3 _ 8 rfl (by decide) trivial rfl
 refine tl_put rfl rfl rfl (m' := (mP (mC (mnQ p0 p1) (k0 + k1 + k0 + k1 + 1)) (mC (mxQ p0 p1) (k0 + k1 + k0 + k1 + 1)))) x78 (ev s75) s79 (mP.cv (fun _ h => (isC.cv h)) (fun _ h => (isC.cv h)) s79) info_Interval ?_
 intro w80 x81 ex82 ot83 bl84
 have B85 := bl84 w (by omega) B72
 have x86 := ot83 (by omega) x76
 have x87 := ot83 (by omega) x77
 have s88 := (mP (mC (mnQ p0 p1) (k0 + k1 + k0 + k1 + 1)) (mC (mxQ p0 p1) (k0 + k1 + k0 + k1 + 1))).mono _ _ _ ex82 s79
 refine wpList_nil (then_normal ?_)
 refine wp_ret ?_
 exact end_cell rfl d74 s75 x81 Tryz.underlying44 rfl info_Interval B85 (fun v h => (mP_imp (fun _ h => (isC.mono h (by omega))) (fun _ h => (isC.mono h (by omega))) h))

theorem r4_width {p0 q0 : Rat} {k0 : Nat} {v0 : Value} {w : World} (hk0 : k0 ≤ 9999) (pf0 : (mP (mR p0 k0) (mR q0 k0)).S w v0) :
   Calls Tryz.prog 46 #[v0] w (RetS (mC ((mxQ p0 q0) - (mnQ p0 q0)) (k0 + k0 + k0 + k0 + 5)).S w) := by
 obtain ⟨c0, rfl, n0, u0, o0⟩ := (mP.cv (fun _ h => (isR.cv h)) (fun _ h => (isR.cv h)) pf0)
 refine calls_abs 10 Tryz.func46 rfl rfl (by simp) ?_
 intro a0 z0 d0 ha
 have s0_0 : sl a0 0 = .agg c0 := ha 0 (by simp)
 have B0 : Below w.heap.size w w := Below.refl _ _
 refine wp_seq ?_
 refine wp_region_seq 0 (mG []) (by rw [z0]; kernel_rfl) (mG_mono _) (ops_ok trivial) ?_
 intro a1 w2 ms3
 have B4 := B0.trans (ms3.b.mono B0.size)
 have z5 := ms3.sz.trans z0
 have d6 := ms3.df.trans d0
 have s7 := (ms3.fr 0 (out_of (by kernel_rfl))).trans s0_0
 refine tl_new rfl rfl (run_box_op rfl (ev s7)) (by rw [z5]; decide) ?_
 intro a8 w9 g10 z11 d12 s13 fr14 hg15 hc16 hb17
 have z18 := z11.trans z5
 have d19 := d12.trans d6
 have B21 := B4.trans (hb17.mono B4.size)
 have lw23 : w.heap.size ≤ g10 := by have := B4.size; omega
 have x22 : bx 44 6 (mP (mR p0 k0) (mR q0 k0)) w9 g10 := ⟨c0, hc16, n0, u0, o0, (mP (mR p0 k0) (mR q0 k0)).mono _ _ _ (Ext.of B21) pf0⟩
 refine tl_new rfl rfl (run_alloc_op rfl zero_Rat) (by rw [z18]; decide) ?_
 intro a24 w25 g26 z27 d28 s29 fr30 hg31 hc32 hb33
 have z34 := z27.trans z18
 have d35 := d28.trans d19
 have s37 := (fr30 1 (by decide)).trans s13
 have B38 := B21.trans (hb33.mono B21.size)
 have ne40 : g10 ≠ g26 := by have := x22.lt; omega
 have x39 := bx.below hb33 x22
 have lw42 : w.heap.size ≤ g26 := by have := B21.size; omega
 have x41 := bx_Rat hc32
 refine wpList_nil (then_normal ?_)
 refine wp_seq ?_
 refine wp_region_seq 2 (mG [(mP (mR p0 k0) (mR q0 k0)).b, (mP (mC (mnQ p0 q0) (k0 + k0 + 1)) (mC (mxQ p0 q0) (k0 + k0 + 1))).b]) (by rw [z34]; kernel_rfl) (mG_mono _) (ops_ok ⟨?_, ?_, trivial⟩) ?_
 · refine opk_pure rfl rfl fun a w hb hf hd => ?_
   obtain ⟨cs, h1, h2, h3, h4, h5⟩ := bx.below hb x39
   exact ⟨_, run_load_row _ _ rfl (ev ((hf 1 (out_of (by kernel_rfl))).trans s37)) h1 Tryz.underlying44 rfl (by rw [h2]; exact info_Interval), fun _ _ => h5⟩
 · refine opk_call rfl rfl fun a w hb hf hd => ?_
   have e0 : a.eval (.tmp 3) = sl a 3 := rfl
   exact ⟨42, #[sl a 3], run_call rfl rfl (fun _ _ => by kernel_rfl) (args_1 e0), (r4_trim  (by omega) (mP_imp (m1' := (mR p0 k0)) (m2' := (mR q0 k0)) (fun _ h => h) (fun _ h => h) (hd.at 0 rfl rfl rfl rfl))).mono fun _ _ r => RetS.imp (fun _ _ h => fun _ _ => (mP_imp (fun _ h => (isC.mono h (by omega))) (fun _ h => (isC.mono h (by omega))) h)) r⟩
 intro a43 w44 ms45
 have B46 := B38.trans (ms45.b.mono B38.size)
 have z47 := ms45.sz.trans z34
 have d48 := ms45.df.trans d35
 have s49 := (ms45.fr 1 (out_of (by kernel_rfl))).trans s37
 have s50 := (ms45.fr 2 (out_of (by kernel_rfl))).trans s29
 have x51 := bx.below ms45.b x39
 have x52 := bx.below ms45.b x41
 have s53 : (mP (mC (mnQ p0 q0) (k0 + k0 + 1)) (mC (mxQ p0 q0) (k0 + k0 + 1))).S w44 (sl a43 4) := ms45.g 1 _ 4 rfl (by decide) trivial rfl
 refine tl_put rfl rfl rfl (m' := (mP (mC (mnQ p0 q0) (k0 + k0 + 1)) (mC (mxQ p0 q0) (k0 + k0 + 1)))) x51 (ev s49) s53 (mP.cv (fun _ h => (isC.cv h)) (fun _ h => (isC.cv h)) s53) info_Interval ?_
 intro w54 x55 ex56 ot57 bl58
 have B59 := bl58 w (by omega) B46
 have x60 := ot57 (by omega) x52
 have s61 := (mP (mC (mnQ p0 q0) (k0 + k0 + 1)) (mC (mxQ p0 q0) (k0 + k0 + 1))).mono _ _ _ ex56 s53
 refine wpList_nil (then_normal ?_)
 refine wp_seq ?_
 refine wp_region_seq 5 (mG [(mV (.pointer (some ⟨g10, 3, none⟩))).b, (mC (mxQ p0 q0) (k0 + k0 + 1)).b, (mV (.pointer (some ⟨g10, 0, none⟩))).b, (mC (mnQ p0 q0) (k0 + k0 + 1)).b, (mC ((mxQ p0 q0) - (mnQ p0 q0)) (k0 + k0 + 1 + k0 + k0 + 1 + 3)).b]) (by rw [z47]; kernel_rfl) (mG_mono _) (ops_ok ⟨?_, ?_, ?_, ?_, ?_, trivial⟩) ?_
 · exact opk_pure rfl rfl fun a w hb hf hd => ⟨_, fa_Interval_1 rfl (ev ((hf 1 (out_of (by kernel_rfl))).trans s49)), fun _ _ => rfl⟩
 · refine opk_pure rfl rfl fun a w hb hf hd => ?_
   obtain ⟨x0, x1, x2, h1, h2⟩ := (bx.below hb x55).hi
   exact ⟨_, run_load_mid _ _ rfl (ev (hd.at 0 rfl rfl rfl rfl)) h1 Tryz.underlying26 rfl info_Rat, fun _ _ => h2⟩
 · exact opk_pure rfl rfl fun a w hb hf hd => ⟨_, fa_Interval_0 rfl (ev ((hf 1 (out_of (by kernel_rfl))).trans s49)), fun _ _ => rfl⟩
 · refine opk_pure rfl rfl fun a w hb hf hd => ?_
   obtain ⟨x0, x1, x2, h1, h2⟩ := (bx.below hb x55).lo
   exact ⟨_, run_load_mid _ _ rfl (ev (hd.at 0 rfl rfl rfl rfl)) h1 Tryz.underlying26 rfl info_Rat, fun _ _ => h2⟩
 · refine opk_call rfl rfl fun a w hb hf hd => ?_
   have e0 : a.eval (.tmp 6) = sl a 6 := rfl
   have e1 : a.eval (.tmp 8) = sl a 8 := rfl
   exact ⟨62, #[sl a 6, sl a 8], run_call rfl rfl (fun _ _ => by kernel_rfl) (args_2 e0 e1), (r_sub (by omega) (by omega) (isC.r (hd.at 0 rfl rfl rfl rfl)) (isC.r (hd.at 1 rfl rfl rfl rfl))).mono fun _ _ r => RetS.imp (fun _ _ h => fun _ _ => (isC.mono h (by omega))) r⟩
 intro a62 w63 ms64
 have B65 := B59.trans (ms64.b.mono B59.size)
 have d67 := ms64.df.trans d48
 have s69 := (ms64.fr 2 (out_of (by kernel_rfl))).trans s50
 have x70 := bx.below ms64.b x55
 have x71 := bx.below ms64.b x60
 have s72 : (mC ((mxQ p0 q0) - (mnQ p0 q0)) (k0 + k0 + 1 + k0 + k0 + 1 + 3)).S w63 (sl a62 9) := ms64.g 4 _ 9 rfl (by decide) trivial rfl
 refine tl_put rfl rfl rfl (m' := (mC ((mxQ p0 q0) - (mnQ p0 q0)) (k0 + k0 + 1 + k0 + k0 + 1 + 3))) x71 (ev s69) s72 (isC.cv s72) info_Rat ?_
 intro w73 x74 ex75 ot76 bl77
 have B78 := bl77 w (by omega) B65
 have x79 := ot76 (by omega) x70
 have s80 := (mC ((mxQ p0 q0) - (mnQ p0 q0)) (k0 + k0 + 1 + k0 + k0 + 1 + 3)).mono _ _ _ ex75 s72
 refine wpList_nil (then_normal ?_)
 refine wp_ret ?_
 exact end_cell rfl d67 s69 x74 Tryz.underlying26 rfl info_Rat B78 (fun v h => (isC.mono h (by omega)))

end Go.Proofs.YtbjijmjhlpkomaaGreatDoor
