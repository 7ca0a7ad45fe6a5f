/-  -/
import Derived.Test.YtbjijmjhlpkomaaGreatDoorQcf
import Derived.Test.YtbjijmjhlpkomaaGreatDoorTie
import Derived.Test.YtbjijmjhlpkomaaGreatDoorCards
import Derived.SevenTiedAt

set_option linter.unusedVariables false
set_option linter.unusedSimpArgs false
set_option linter.unusedSectionVars false
set_option maxRecDepth 100000
set_option maxHeartbeats 3200000

namespace Go.Proofs.YtbjijmjhlpkomaaGreatDoor
open Go.RowKit Num

theorem walkIntervalEncloses {x0 y0 x1 y1 : Bool} (j2 j3 : Int) {v0 : Value} {v1 : Value} {w : World} (h2a : -9223372036854775808 ≤ j2) (h2b : j2 ≤ 9223372036854775807) (h3a : -9223372036854775808 ≤ j3) (h3b : j3 ≤ 9223372036854775807) (pf0 : (mP (mS x0) (mS y0)).S w v0) (pf1 : (mP (mS x1) (mS y1)).S w v1) (hT : Tb w) :
   Calls Tryz.prog 6 #[v0, v1, .int .i64 j2, .int .i64 j3] w (RetS (mV (.bool true)).S w) := by
 obtain ⟨c0, rfl, n0, u0, o0⟩ := (mP.cv (fun _ h => (isS.cv h)) (fun _ h => (isS.cv h)) pf0)
 obtain ⟨c1, rfl, n1, u1, o1⟩ := (mP.cv (fun _ h => (isS.cv h)) (fun _ h => (isS.cv h)) pf1)
 refine calls_abs 85 Tryz.func6 rfl rfl (by simp) ?_
 intro a0 z0 d0 ha
 have s0_0 : sl a0 0 = .agg c0 := ha 0 (by simp)
 have s0_1 : sl a0 1 = .agg c1 := ha 1 (by simp)
 have s0_2 : sl a0 2 = .int .i64 j2 := ha 2 (by simp)
 have s0_3 : sl a0 3 = .int .i64 j3 := ha 3 (by simp)
 have B0 : Below w.heap.size w w := Below.refl _ _
 refine wp_seq ?_
 refine wp_region_seq 0 (mG []) (by rw [z0]; kernel_rfl) (mG_mono _) (ops_ok trivial) ?_
 intro a1 w2 ms3
 have B4 := B0.trans (ms3.b.mono B0.size)
 have z5 := ms3.sz.trans z0
 have d6 := ms3.df.trans d0
 have s7 := (ms3.fr 0 (out_of (by kernel_rfl))).trans s0_0
 have s8 := (ms3.fr 1 (out_of (by kernel_rfl))).trans s0_1
 have s9 := (ms3.fr 2 (out_of (by kernel_rfl))).trans s0_2
 have s10 := (ms3.fr 3 (out_of (by kernel_rfl))).trans s0_3
 refine tl_new rfl rfl (run_box_op rfl (ev s7)) (by rw [z5]; decide) ?_
 intro a11 w12 g13 z14 d15 s16 fr17 hg18 hc19 hb20
 have z21 := z14.trans z5
 have d22 := d15.trans d6
 have s24 := (fr17 1 (by decide)).trans s8
 have s25 := (fr17 2 (by decide)).trans s9
 have s26 := (fr17 3 (by decide)).trans s10
 have B27 := B4.trans (hb20.mono B4.size)
 have lw29 : w.heap.size ≤ g13 := by have := B4.size; omega
 have x28 : bx 44 6 (mP (mS x0) (mS y0)) w12 g13 := ⟨c0, hc19, n0, u0, o0, (mP (mS x0) (mS y0)).mono _ _ _ (Ext.of B27) pf0⟩
 refine tl_new rfl rfl (run_box_op rfl (ev s24)) (by rw [z21]; decide) ?_
 intro a30 w31 g32 z33 d34 s35 fr36 hg37 hc38 hb39
 have z40 := z33.trans z21
 have d41 := d34.trans d22
 have s44 := (fr36 2 (by decide)).trans s25
 have s45 := (fr36 3 (by decide)).trans s26
 have s46 := (fr36 4 (by decide)).trans s16
 have B47 := B27.trans (hb39.mono B27.size)
 have ne49 : g13 ≠ g32 := by have := x28.lt; omega
 have x48 := bx.below hb39 x28
 have lw51 : w.heap.size ≤ g32 := by have := B27.size; omega
 have x50 : bx 44 6 (mP (mS x1) (mS y1)) w31 g32 := ⟨c1, hc38, n1, u1, o1, (mP (mS x1) (mS y1)).mono _ _ _ (Ext.of B47) pf1⟩
 refine tl_set rfl rfl (run_assign rfl) (by rw [z40]; decide) ?_
 intro a52 z53 d54 s55 fr56
 have z58 := z53.trans z40
 have d59 := d54.trans d41
 have s62 := (fr56 2 (by decide)).trans s44
 have s63 := (fr56 3 (by decide)).trans s45
 have s64 := (fr56 4 (by decide)).trans s46
 have s65 := (fr56 5 (by decide)).trans s35
 refine wpList_nil (then_normal ?_)
 refine wp_seq ?_
 refine wp_seq ?_
 refine wp_region_seq 8 (mG [(mP (mS x0) (mS y0)).b, (mV (.bool (x0 && y0))).b, (mV (.bool (!(x0 && y0)))).b, (mV (.bool (!(x0 && y0)))).b, (mIf (!(!(x0 && y0))) (mP (mS x1) (mS y1))).b, (mIf (!(!(x0 && y0))) (mV (.bool (x1 && y1)))).b, (mIf (!(!(x0 && y0))) (mV (.bool (!(x1 && y1))))).b, (mV (.bool ((!(x0 && y0)) || (!(x1 && y1))))).b]) (by rw [z58]; kernel_rfl) (mG_mono _) (ops_ok ⟨?_, ?_, ?_, ?_, ?_, ?_, ?_, ?_, trivial⟩) ?_
 · refine opk_pure rfl rfl fun a w hb hf hd => ?_
   obtain ⟨cs, h1, h2, h3, h4, h5⟩ := bx.below hb x48
   exact ⟨_, run_load_row _ _ rfl (ev ((hf 4 (out_of (by kernel_rfl))).trans s64)) h1 Tryz.underlying44 rfl (by rw [h2]; exact info_Interval), fun _ _ => h5⟩
 · refine opk_call rfl rfl fun a w hb hf hd => ?_
   have e0 : a.eval (.tmp 13) = sl a 13 := rfl
   exact ⟨24, #[sl a 13], run_call rfl rfl (fun _ _ => by kernel_rfl) (args_1 e0), (k_smallon (hd.at 0 rfl rfl rfl rfl)).mono fun _ _ r => RetS.imp (fun _ _ h => fun _ _ => h) r⟩
 · exact opk_pure rfl rfl fun a w hb hf hd => ⟨_, run_not rfl (ev (hd.at 0 rfl rfl rfl rfl)), fun _ _ => rfl⟩
 · exact opk_pure rfl rfl fun a w hb hf hd => ⟨_, run_move rfl, fun _ _ => (hd.at 0 rfl rfl rfl rfl)⟩
 · refine opk_guard (!(x0 && y0)) rfl rfl rfl rfl (by rw [z58]; decide) (fun a w hb hf hd => (hd.at 0 rfl rfl rfl rfl)) (fun hne _ hγ => absurd (by simpa using hγ) hne) (fun hγ0 => ?_)
   have hγ : (!(!(x0 && y0))) = true := by rw [hγ0]; rfl
   refine opk_pure rfl rfl fun a w hb hf hd => ?_
   obtain ⟨cs, h1, h2, h3, h4, h5⟩ := bx.below hb x50
   exact ⟨_, run_load_row _ _ rfl (ev ((hf 5 (out_of (by kernel_rfl))).trans s65)) h1 Tryz.underlying44 rfl (by rw [h2]; exact info_Interval), fun _ _ _ => h5⟩
 · refine opk_guard (!(x0 && y0)) rfl rfl rfl rfl (by rw [z58]; decide) (fun a w hb hf hd => (hd.at 1 rfl rfl rfl rfl)) (fun hne _ hγ => absurd (by simpa using hγ) hne) (fun hγ0 => ?_)
   have hγ : (!(!(x0 && y0))) = true := by rw [hγ0]; rfl
   refine opk_call rfl rfl fun a w hb hf hd => ?_
   have e0 : a.eval (.tmp 17) = sl a 17 := rfl
   exact ⟨24, #[sl a 17], run_call rfl rfl (fun _ _ => by kernel_rfl) (args_1 e0), (k_smallon ((hd.at 0 rfl rfl rfl rfl) hγ)).mono fun _ _ r => RetS.imp (fun _ _ h => fun _ _ _ => h) r⟩
 · refine opk_guard (!(x0 && y0)) rfl rfl rfl rfl (by rw [z58]; decide) (fun a w hb hf hd => (hd.at 1 rfl rfl rfl rfl)) (fun hne _ hγ => absurd (by simpa using hγ) hne) (fun hγ0 => ?_)
   have hγ : (!(!(x0 && y0))) = true := by rw [hγ0]; rfl
   exact opk_pure rfl rfl fun a w hb hf hd => ⟨_, run_not rfl (ev ((hd.at 0 rfl rfl rfl rfl) hγ)), fun _ _ _ => rfl⟩
 · exact opk_pure rfl rfl fun a w hb hf hd => ⟨_, run_pick rfl (ev (hd.at 0 rfl rfl rfl rfl)), fun _ _ => pick_or fun h => (hd.at 1 rfl rfl rfl rfl) (by rw [h]; rfl)⟩
 intro a66 w67 ms68
 have B69 := B47.trans (ms68.b.mono B47.size)
 have z70 := ms68.sz.trans z58
 have d71 := ms68.df.trans d59
 have s72 := (ms68.fr 2 (out_of (by kernel_rfl))).trans s62
 have s73 := (ms68.fr 3 (out_of (by kernel_rfl))).trans s63
 have s74 := (ms68.fr 4 (out_of (by kernel_rfl))).trans s64
 have s75 := (ms68.fr 5 (out_of (by kernel_rfl))).trans s65
 have x77 := bx.below ms68.b x48
 have x78 := bx.below ms68.b x50
 have s79 : sl a66 20 = .bool ((!(x0 && y0)) || (!(x1 && y1))) := ms68.g 7 _ 20 rfl (by decide) trivial rfl
 refine wpList_nil (then_normal ?_)
 refine cond_b ((!(x0 && y0)) || (!(x1 && y1))) (ev s79) (fun hb80 => ?_) (fun hb80 => ?_)
 · skip
   refine wp_seq ?_
   refine wp_region_seq 1 (mG [(mV (.bool true)).b]) (by rw [z70]; kernel_rfl) (mG_mono _) (ops_ok ⟨?_, trivial⟩) ?_
   · refine opk_call rfl rfl fun a w hb hf hd => ?_
     exact ⟨25, #[], run_call rfl rfl (fun _ _ => by kernel_rfl) args_0, (awake4_any (hT.below (B69.trans (hb.mono B69.size)))).mono fun _ _ r => RetS.imp (fun _ _ h => fun _ _ => h) r⟩
   intro a81 w82 ms83
   have B84 := B69.trans (ms83.b.mono B69.size)
   have z85 := ms83.sz.trans z70
   have d86 := ms83.df.trans d71
   have x93 := bx.below ms83.b x77
   have x94 := bx.below ms83.b x78
   have s95 : sl a81 21 = .bool true := ms83.g 0 _ 21 rfl (by decide) trivial rfl
   refine tl_set rfl rfl (run_assign rfl) (by rw [z85]; decide) ?_
   intro a96 z97 d98 s99 fr100
   have s101 := s99.trans s95
   have d103 := d98.trans d86
   refine wpList_nil (then_normal ?_)
   refine wp_ret ?_
   exact end_tmp rfl d103 B84 s101
 · skip
   have hq := hb80
   simp only [Bool.or_eq_false_iff, Bool.not_eq_false', Bool.and_eq_true] at hq
   obtain ⟨⟨hx0, hy0⟩, hx1, hy1⟩ := hq
   obtain ⟨paa, qaa, caa, daa, x110⟩ := bx_small x77 hx0 hy0
   obtain ⟨pbb, qbb, cbb, dbb, x111⟩ := bx_small x78 hx1 hy1
   refine wp_skip (then_normal ?_)
   refine wp_seq ?_
   refine wp_region_mono 8 [] (mG [(mP (mK paa 4 caa) (mK qaa 4 daa)).b, (mV (.int .i64 j2)).b, (mC (btw paa qaa j2) 88).b, (mP (mK pbb 4 cbb) (mK qbb 4 dbb)).b, (mV (.int .i64 j3)).b, (mC (btw pbb qbb j3) 88).b, (mNew w67.heap.size 26 3), (mNew w67.heap.size 26 3)]) (by kernel_rfl) (by rw [z70]; kernel_rfl) (fun h => absurd rfl h) (mG_mono _) (ops_ok ⟨?_, ?_, ?_, ?_, ?_, ?_, ?_, ?_, trivial⟩) ?_
   · refine opk_pure rfl rfl fun a w hb hf hd => ?_
     obtain ⟨cs, h1, h2, h3, h4, h5⟩ := bx.below hb x110
     exact ⟨_, run_load_row _ _ rfl (ev ((hf 4 (out_of (by kernel_rfl))).trans s74)) h1 Tryz.underlying44 rfl (by rw [h2]; exact info_Interval), fun _ _ => h5⟩
   · exact opk_pure rfl rfl fun a w hb hf hd => ⟨_, run_move rfl, fun _ _ => ((hf 2 (out_of (by kernel_rfl))).trans s72)⟩
   · refine opk_call rfl rfl fun a w hb hf hd => ?_
     have e0 : a.eval (.tmp 22) = sl a 22 := rfl
     have e1 : a.eval (.tmp 23) = .int .i64 j2 := (hd.at 1 rfl rfl rfl rfl)
     exact ⟨59, #[sl a 22, .int .i64 j2], run_call rfl rfl (fun _ _ => by kernel_rfl) (args_2 e0 e1), (l4_between j2 (by omega) (by omega) (by omega) (mP_imp (m1' := (mR paa 4)) (m2' := (mR qaa 4)) (fun _ h => (isK.r h)) (fun _ h => (isK.r h)) (hd.at 0 rfl rfl rfl rfl))).mono fun _ _ r => RetS.imp (fun _ _ h => fun _ _ => (isC.mono h (by omega))) r⟩
   · refine opk_pure rfl rfl fun a w hb hf hd => ?_
     obtain ⟨cs, h1, h2, h3, h4, h5⟩ := bx.below hb x111
     exact ⟨_, run_load_row _ _ rfl (ev ((hf 5 (out_of (by kernel_rfl))).trans s75)) h1 Tryz.underlying44 rfl (by rw [h2]; exact info_Interval), fun _ _ => h5⟩
   · exact opk_pure rfl rfl fun a w hb hf hd => ⟨_, run_move rfl, fun _ _ => ((hf 3 (out_of (by kernel_rfl))).trans s73)⟩
   · refine opk_call rfl rfl fun a w hb hf hd => ?_
     have e0 : a.eval (.tmp 25) = sl a 25 := rfl
     have e1 : a.eval (.tmp 26) = .int .i64 j3 := (hd.at 1 rfl rfl rfl rfl)
     exact ⟨59, #[sl a 25, .int .i64 j3], run_call rfl rfl (fun _ _ => by kernel_rfl) (args_2 e0 e1), (l4_between j3 (by omega) (by omega) (by omega) (mP_imp (m1' := (mR pbb 4)) (m2' := (mR qbb 4)) (fun _ h => (isK.r h)) (fun _ h => (isK.r h)) (hd.at 0 rfl rfl rfl rfl))).mono fun _ _ r => RetS.imp (fun _ _ h => fun _ _ => (isC.mono h (by omega))) r⟩
   · refine opk_alloc rfl fun a w hb hf hd => ⟨_, _, run_alloc_op rfl zero_Rat, below_alloc _ _, fun _ _ => ⟨_, rfl, hb.size, bx_Rat (heap_alloc_at _ _)⟩, fun _ => ⟨_, rfl, Nat.le_refl _, by simp⟩⟩
   · refine opk_alloc rfl fun a w hb hf hd => ⟨_, _, run_alloc_op rfl zero_Rat, below_alloc _ _, fun _ _ => ⟨_, rfl, hb.size, bx_Rat (heap_alloc_at _ _)⟩, fun _ => ⟨_, rfl, Nat.le_refl _, by simp⟩⟩
   intro a112 w113 ms114
   have B115 := B69.trans (ms114.b.mono B69.size)
   have z116 := ms114.sz.trans z70
   have d117 := ms114.df.trans d71
   have s118 := (ms114.fr 4 (out_of (by kernel_rfl))).trans s74
   have s119 := (ms114.fr 5 (out_of (by kernel_rfl))).trans s75
   have x122 := bx.below ms114.b x110
   have x123 := bx.below ms114.b x111
   have s124 : (mC (btw paa qaa j2) 88).S w113 (sl a112 24) := ms114.g 2 _ 24 rfl (by decide) trivial rfl
   have s125 : (mC (btw pbb qbb j3) 88).S w113 (sl a112 27) := ms114.g 5 _ 27 rfl (by decide) trivial rfl
   obtain ⟨g127, s126, e129, x128⟩ := ms114.g 6 _ 9 rfl (by decide) trivial rfl
   have ne130 : g13 ≠ g127 := by have := x110.lt; omega
   have ne131 : g32 ≠ g127 := by have := x111.lt; omega
   have lw132 : w.heap.size ≤ g127 := by have := B69.size; omega
   obtain ⟨g134, s133, e136, x135⟩ := ms114.g 7 _ 10 rfl (by decide) trivial rfl
   have ne137 : g13 ≠ g134 := by have := x110.lt; omega
   have ne138 : g32 ≠ g134 := by have := x111.lt; omega
   have lw139 : w.heap.size ≤ g134 := by have := B69.size; omega
   have ne140 : g127 ≠ g134 := fun e => ms114.ne 6 _ 9 7 _ 10 rfl (by decide) trivial rfl rfl rfl (by decide) trivial rfl rfl (by decide) (by rw [s126, s133, e])
   refine tl_put rfl rfl rfl (m' := (mC (btw paa qaa j2) 88)) x128 (ev s126) s124 (isC.cv s124) info_Rat ?_
   intro w141 x142 ex143 ot144 bl145
   have B146 := bl145 w (by omega) B115
   have x147 := ot144 (by omega) x122
   have x148 := ot144 (by omega) x123
   have x149 := ot144 (by omega) x135
   have s150 := (mC (btw paa qaa j2) 88).mono _ _ _ ex143 s124
   have s151 := (mC (btw pbb qbb j3) 88).mono _ _ _ ex143 s125
   refine tl_put rfl rfl rfl (m' := (mC (btw pbb qbb j3) 88)) x149 (ev s133) s151 (isC.cv s151) info_Rat ?_
   intro w152 x153 ex154 ot155 bl156
   have B157 := bl156 w (by omega) B146
   have x158 := ot155 (by omega) x142
   have x159 := ot155 (by omega) x147
   have x160 := ot155 (by omega) x148
   have s161 := (mC (btw paa qaa j2) 88).mono _ _ _ ex154 s150
   have s162 := (mC (btw pbb qbb j3) 88).mono _ _ _ ex154 s151
   refine wpList_nil (then_normal ?_)
   refine wp_seq ?_
   refine wp_seq ?_
   refine wp_region_seq 6 (mG [(mP (mK paa 4 caa) (mK qaa 4 daa)).b, (mP (mK pbb 4 cbb) (mK qbb 4 dbb)).b, (mT (mP (mE (mn4 (paa * mnQ (((1 : Int) : Rat) / pbb) (((1 : Int) : Rat) / qbb)) (paa * mxQ (((1 : Int) : Rat) / pbb) (((1 : Int) : Rat) / qbb)) (qaa * mnQ (((1 : Int) : Rat) / pbb) (((1 : Int) : Rat) / qbb)) (qaa * mxQ (((1 : Int) : Rat) / pbb) (((1 : Int) : Rat) / qbb))) (sgE pbb qbb) 16) (mE (mx4 (paa * mnQ (((1 : Int) : Rat) / pbb) (((1 : Int) : Rat) / qbb)) (paa * mxQ (((1 : Int) : Rat) / pbb) (((1 : Int) : Rat) / qbb)) (qaa * mnQ (((1 : Int) : Rat) / pbb) (((1 : Int) : Rat) / qbb)) (qaa * mxQ (((1 : Int) : Rat) / pbb) (((1 : Int) : Rat) / qbb))) (sgE pbb qbb) 16)) (mV (.int .i64 (sgE pbb qbb)))).b, (mT (mP (mE (mn4 (paa * mnQ (((1 : Int) : Rat) / pbb) (((1 : Int) : Rat) / qbb)) (paa * mxQ (((1 : Int) : Rat) / pbb) (((1 : Int) : Rat) / qbb)) (qaa * mnQ (((1 : Int) : Rat) / pbb) (((1 : Int) : Rat) / qbb)) (qaa * mxQ (((1 : Int) : Rat) / pbb) (((1 : Int) : Rat) / qbb))) (sgE pbb qbb) 16) (mE (mx4 (paa * mnQ (((1 : Int) : Rat) / pbb) (((1 : Int) : Rat) / qbb)) (paa * mxQ (((1 : Int) : Rat) / pbb) (((1 : Int) : Rat) / qbb)) (qaa * mnQ (((1 : Int) : Rat) / pbb) (((1 : Int) : Rat) / qbb)) (qaa * mxQ (((1 : Int) : Rat) / pbb) (((1 : Int) : Rat) / qbb))) (sgE pbb qbb) 16)) (mV (.int .i64 (sgE pbb qbb)))).b, (mP (mE (mn4 (paa * mnQ (((1 : Int) : Rat) / pbb) (((1 : Int) : Rat) / qbb)) (paa * mxQ (((1 : Int) : Rat) / pbb) (((1 : Int) : Rat) / qbb)) (qaa * mnQ (((1 : Int) : Rat) / pbb) (((1 : Int) : Rat) / qbb)) (qaa * mxQ (((1 : Int) : Rat) / pbb) (((1 : Int) : Rat) / qbb))) (sgE pbb qbb) 16) (mE (mx4 (paa * mnQ (((1 : Int) : Rat) / pbb) (((1 : Int) : Rat) / qbb)) (paa * mxQ (((1 : Int) : Rat) / pbb) (((1 : Int) : Rat) / qbb)) (qaa * mnQ (((1 : Int) : Rat) / pbb) (((1 : Int) : Rat) / qbb)) (qaa * mxQ (((1 : Int) : Rat) / pbb) (((1 : Int) : Rat) / qbb))) (sgE pbb qbb) 16)).b, (mV (.int .i64 (sgE pbb qbb))).b]) (by rw [z116]; kernel_rfl) (mG_mono _) (ops_ok ⟨?_, ?_, ?_, ?_, ?_, ?_, trivial⟩) ?_
   · refine opk_pure rfl rfl fun a w hb hf hd => ?_
     obtain ⟨cs, h1, h2, h3, h4, h5⟩ := bx.below hb x159
     exact ⟨_, run_load_row _ _ rfl (ev ((hf 4 (out_of (by kernel_rfl))).trans s118)) h1 Tryz.underlying44 rfl (by rw [h2]; exact info_Interval), fun _ _ => h5⟩
   · refine opk_pure rfl rfl fun a w hb hf hd => ?_
     obtain ⟨cs, h1, h2, h3, h4, h5⟩ := bx.below hb x160
     exact ⟨_, run_load_row _ _ rfl (ev ((hf 5 (out_of (by kernel_rfl))).trans s119)) h1 Tryz.underlying44 rfl (by rw [h2]; exact info_Interval), fun _ _ => h5⟩
   · refine opk_call rfl rfl fun a w hb hf hd => ?_
     have e0 : a.eval (.tmp 29) = sl a 29 := rfl
     have e1 : a.eval (.tmp 30) = sl a 30 := rfl
     exact ⟨26, #[sl a 29, sl a 30], run_call rfl rfl (fun _ _ => by kernel_rfl) (args_2 e0 e1), (iv_div  (by omega) (by omega) (mP_imp (m1' := (mR paa 4)) (m2' := (mR qaa 4)) (fun _ h => (isK.r h)) (fun _ h => (isK.r h)) (hd.at 0 rfl rfl rfl rfl)) (mP_imp (m1' := (mR pbb 4)) (m2' := (mR qbb 4)) (fun _ h => (isK.r h)) (fun _ h => (isK.r h)) (hd.at 1 rfl rfl rfl rfl)) (hT.below (B157.trans (hb.mono B157.size)))).mono fun _ _ r => RetS.imp (fun _ _ h => fun _ _ => (mT_imp (fun _ h => (mP_imp (fun _ h => (isE.mono h (by omega))) (fun _ h => (isE.mono h (by omega))) h)) (fun _ h => h) h)) r⟩
   · exact opk_pure rfl rfl fun a w hb hf hd => ⟨_, run_move rfl, fun _ _ => (hd.at 0 rfl rfl rfl rfl)⟩
   · refine opk_pure rfl rfl fun a w hb hf hd => ?_
     obtain ⟨x, y, h1, h2, h3⟩ := (hd.at 0 rfl rfl rfl rfl)
     exact ⟨_, run_extract_op rfl (ev h1) rfl, fun _ _ => h2⟩
   · refine opk_pure rfl rfl fun a w hb hf hd => ?_
     obtain ⟨x, y, h1, h2, h3⟩ := (hd.at 0 rfl rfl rfl rfl)
     exact ⟨_, run_extract_op rfl (ev h1) rfl, fun _ _ => h3⟩
   intro a163 w164 ms165
   have B166 := B157.trans (ms165.b.mono B157.size)
   have z167 := ms165.sz.trans z116
   have d168 := ms165.df.trans d117
   have s169 := (ms165.fr 4 (out_of (by kernel_rfl))).trans s118
   have s170 := (ms165.fr 5 (out_of (by kernel_rfl))).trans s119
   have s173 := (ms165.fr 9 (out_of (by kernel_rfl))).trans s126
   have s174 := (ms165.fr 10 (out_of (by kernel_rfl))).trans s133
   have x175 := bx.below ms165.b x153
   have x176 := bx.below ms165.b x158
   have x177 := bx.below ms165.b x159
   have x178 := bx.below ms165.b x160
   have s179 : (mP (mE (mn4 (paa * mnQ (((1 : Int) : Rat) / pbb) (((1 : Int) : Rat) / qbb)) (paa * mxQ (((1 : Int) : Rat) / pbb) (((1 : Int) : Rat) / qbb)) (qaa * mnQ (((1 : Int) : Rat) / pbb) (((1 : Int) : Rat) / qbb)) (qaa * mxQ (((1 : Int) : Rat) / pbb) (((1 : Int) : Rat) / qbb))) (sgE pbb qbb) 16) (mE (mx4 (paa * mnQ (((1 : Int) : Rat) / pbb) (((1 : Int) : Rat) / qbb)) (paa * mxQ (((1 : Int) : Rat) / pbb) (((1 : Int) : Rat) / qbb)) (qaa * mnQ (((1 : Int) : Rat) / pbb) (((1 : Int) : Rat) / qbb)) (qaa * mxQ (((1 : Int) : Rat) / pbb) (((1 : Int) : Rat) / qbb))) (sgE pbb qbb) 16)).S w164 (sl a163 32) := ms165.g 4 _ 32 rfl (by decide) trivial rfl
   have s180 : sl a163 33 = .int .i64 (sgE pbb qbb) := ms165.g 5 _ 33 rfl (by decide) trivial rfl
   refine tl_new rfl rfl (run_alloc_op rfl zero_Interval) (by rw [z167]; decide) ?_
   intro a181 w182 g183 z184 d185 s186 fr187 hg188 hc189 hb190
   have z191 := z184.trans z167
   have d192 := d185.trans d168
   have s193 := (fr187 4 (by decide)).trans s169
   have s194 := (fr187 5 (by decide)).trans s170
   have s197 := (fr187 9 (by decide)).trans s173
   have s198 := (fr187 10 (by decide)).trans s174
   have s199 : (mP (mE (mn4 (paa * mnQ (((1 : Int) : Rat) / pbb) (((1 : Int) : Rat) / qbb)) (paa * mxQ (((1 : Int) : Rat) / pbb) (((1 : Int) : Rat) / qbb)) (qaa * mnQ (((1 : Int) : Rat) / pbb) (((1 : Int) : Rat) / qbb)) (qaa * mxQ (((1 : Int) : Rat) / pbb) (((1 : Int) : Rat) / qbb))) (sgE pbb qbb) 16) (mE (mx4 (paa * mnQ (((1 : Int) : Rat) / pbb) (((1 : Int) : Rat) / qbb)) (paa * mxQ (((1 : Int) : Rat) / pbb) (((1 : Int) : Rat) / qbb)) (qaa * mnQ (((1 : Int) : Rat) / pbb) (((1 : Int) : Rat) / qbb)) (qaa * mxQ (((1 : Int) : Rat) / pbb) (((1 : Int) : Rat) / qbb))) (sgE pbb qbb) 16)).S w164 (sl a181 32) := by rw [fr187 32 (by decide)]; exact s179
   have s200 := (fr187 33 (by decide)).trans s180
   have B201 := B166.trans (hb190.mono B166.size)
   have ne203 : g134 ≠ g183 := by have := x175.lt; omega
   have x202 := bx.below hb190 x175
   have ne205 : g127 ≠ g183 := by have := x176.lt; omega
   have x204 := bx.below hb190 x176
   have ne207 : g13 ≠ g183 := by have := x177.lt; omega
   have x206 := bx.below hb190 x177
   have ne209 : g32 ≠ g183 := by have := x178.lt; omega
   have x208 := bx.below hb190 x178
   have s210 := (mP (mE (mn4 (paa * mnQ (((1 : Int) : Rat) / pbb) (((1 : Int) : Rat) / qbb)) (paa * mxQ (((1 : Int) : Rat) / pbb) (((1 : Int) : Rat) / qbb)) (qaa * mnQ (((1 : Int) : Rat) / pbb) (((1 : Int) : Rat) / qbb)) (qaa * mxQ (((1 : Int) : Rat) / pbb) (((1 : Int) : Rat) / qbb))) (sgE pbb qbb) 16) (mE (mx4 (paa * mnQ (((1 : Int) : Rat) / pbb) (((1 : Int) : Rat) / qbb)) (paa * mxQ (((1 : Int) : Rat) / pbb) (((1 : Int) : Rat) / qbb)) (qaa * mnQ (((1 : Int) : Rat) / pbb) (((1 : Int) : Rat) / qbb)) (qaa * mxQ (((1 : Int) : Rat) / pbb) (((1 : Int) : Rat) / qbb))) (sgE pbb qbb) 16)).mono _ _ _ (Ext.of hb190) s199
   have lw212 : w.heap.size ≤ g183 := by have := B166.size; omega
   have x211 := bx_Interval hc189
   refine tl_put rfl rfl rfl (m' := (mP (mE (mn4 (paa * mnQ (((1 : Int) : Rat) / pbb) (((1 : Int) : Rat) / qbb)) (paa * mxQ (((1 : Int) : Rat) / pbb) (((1 : Int) : Rat) / qbb)) (qaa * mnQ (((1 : Int) : Rat) / pbb) (((1 : Int) : Rat) / qbb)) (qaa * mxQ (((1 : Int) : Rat) / pbb) (((1 : Int) : Rat) / qbb))) (sgE pbb qbb) 16) (mE (mx4 (paa * mnQ (((1 : Int) : Rat) / pbb) (((1 : Int) : Rat) / qbb)) (paa * mxQ (((1 : Int) : Rat) / pbb) (((1 : Int) : Rat) / qbb)) (qaa * mnQ (((1 : Int) : Rat) / pbb) (((1 : Int) : Rat) / qbb)) (qaa * mxQ (((1 : Int) : Rat) / pbb) (((1 : Int) : Rat) / qbb))) (sgE pbb qbb) 16))) x211 (ev s186) s210 (mP.cv (fun _ h => (isE.cv h)) (fun _ h => (isE.cv h)) s210) info_Interval ?_
   intro w213 x214 ex215 ot216 bl217
   have B218 := bl217 w (by omega) B201
   have x219 := ot216 (by omega) x202
   have x220 := ot216 (by omega) x204
   have x221 := ot216 (by omega) x206
   have x222 := ot216 (by omega) x208
   have s223 := (mP (mE (mn4 (paa * mnQ (((1 : Int) : Rat) / pbb) (((1 : Int) : Rat) / qbb)) (paa * mxQ (((1 : Int) : Rat) / pbb) (((1 : Int) : Rat) / qbb)) (qaa * mnQ (((1 : Int) : Rat) / pbb) (((1 : Int) : Rat) / qbb)) (qaa * mxQ (((1 : Int) : Rat) / pbb) (((1 : Int) : Rat) / qbb))) (sgE pbb qbb) 16) (mE (mx4 (paa * mnQ (((1 : Int) : Rat) / pbb) (((1 : Int) : Rat) / qbb)) (paa * mxQ (((1 : Int) : Rat) / pbb) (((1 : Int) : Rat) / qbb)) (qaa * mnQ (((1 : Int) : Rat) / pbb) (((1 : Int) : Rat) / qbb)) (qaa * mxQ (((1 : Int) : Rat) / pbb) (((1 : Int) : Rat) / qbb))) (sgE pbb qbb) 16)).mono _ _ _ ex215 s210
   refine tl_set rfl rfl (run_assign rfl) (by rw [z191]; decide) ?_
   intro a224 z225 d226 s227 fr228
   have s229 := s227.trans s200
   have z230 := z225.trans z191
   have d231 := d226.trans d192
   have s232 := (fr228 4 (by decide)).trans s193
   have s233 := (fr228 5 (by decide)).trans s194
   have s236 := (fr228 9 (by decide)).trans s197
   have s237 := (fr228 10 (by decide)).trans s198
   have s240 := (fr228 11 (by decide)).trans s186
   refine wpList_nil (then_normal ?_)
   refine wp_seq ?_
   refine wp_region_mono 10 [] (mG [(mV (.int .i64 (sgE pbb qbb))).b, (mV (.bool (decide ((sgE pbb qbb) = 0)))).b, (mV (.bool (decide ((sgE pbb qbb) = 0)))).b, (mIf (decide ((sgE pbb qbb) = 0)) (mP (mE (mn4 (paa * mnQ (((1 : Int) : Rat) / pbb) (((1 : Int) : Rat) / qbb)) (paa * mxQ (((1 : Int) : Rat) / pbb) (((1 : Int) : Rat) / qbb)) (qaa * mnQ (((1 : Int) : Rat) / pbb) (((1 : Int) : Rat) / qbb)) (qaa * mxQ (((1 : Int) : Rat) / pbb) (((1 : Int) : Rat) / qbb))) (sgE pbb qbb) 16) (mE (mx4 (paa * mnQ (((1 : Int) : Rat) / pbb) (((1 : Int) : Rat) / qbb)) (paa * mxQ (((1 : Int) : Rat) / pbb) (((1 : Int) : Rat) / qbb)) (qaa * mnQ (((1 : Int) : Rat) / pbb) (((1 : Int) : Rat) / qbb)) (qaa * mxQ (((1 : Int) : Rat) / pbb) (((1 : Int) : Rat) / qbb))) (sgE pbb qbb) 16))).b, (mIf (decide ((sgE pbb qbb) = 0)) (mC (btw paa qaa j2) 88)).b, (mIf (decide ((sgE pbb qbb) = 0)) (mC (btw pbb qbb j3) 88)).b, (mIf (decide ((sgE pbb qbb) = 0)) (mC ((btw paa qaa j2) / (btw pbb qbb j3)) 179)).b, (mIf (decide ((sgE pbb qbb) = 0)) (mV (.bool ((!(decide (((btw paa qaa j2) / (btw pbb qbb j3)) < (mnQ (if sgE pbb qbb = 0 then mn4 (paa * mnQ (((1 : Int) : Rat) / pbb) (((1 : Int) : Rat) / qbb)) (paa * mxQ (((1 : Int) : Rat) / pbb) (((1 : Int) : Rat) / qbb)) (qaa * mnQ (((1 : Int) : Rat) / pbb) (((1 : Int) : Rat) / qbb)) (qaa * mxQ (((1 : Int) : Rat) / pbb) (((1 : Int) : Rat) / qbb)) else 0) (if sgE pbb qbb = 0 then mx4 (paa * mnQ (((1 : Int) : Rat) / pbb) (((1 : Int) : Rat) / qbb)) (paa * mxQ (((1 : Int) : Rat) / pbb) (((1 : Int) : Rat) / qbb)) (qaa * mnQ (((1 : Int) : Rat) / pbb) (((1 : Int) : Rat) / qbb)) (qaa * mxQ (((1 : Int) : Rat) / pbb) (((1 : Int) : Rat) / qbb)) else 0))))) && (!(decide ((mxQ (if sgE pbb qbb = 0 then mn4 (paa * mnQ (((1 : Int) : Rat) / pbb) (((1 : Int) : Rat) / qbb)) (paa * mxQ (((1 : Int) : Rat) / pbb) (((1 : Int) : Rat) / qbb)) (qaa * mnQ (((1 : Int) : Rat) / pbb) (((1 : Int) : Rat) / qbb)) (qaa * mxQ (((1 : Int) : Rat) / pbb) (((1 : Int) : Rat) / qbb)) else 0) (if sgE pbb qbb = 0 then mx4 (paa * mnQ (((1 : Int) : Rat) / pbb) (((1 : Int) : Rat) / qbb)) (paa * mxQ (((1 : Int) : Rat) / pbb) (((1 : Int) : Rat) / qbb)) (qaa * mnQ (((1 : Int) : Rat) / pbb) (((1 : Int) : Rat) / qbb)) (qaa * mxQ (((1 : Int) : Rat) / pbb) (((1 : Int) : Rat) / qbb)) else 0)) < ((btw paa qaa j2) / (btw pbb qbb j3))))))))).b, (mIf (decide ((sgE pbb qbb) = 0)) (mV (.bool (!((!(decide (((btw paa qaa j2) / (btw pbb qbb j3)) < (mnQ (if sgE pbb qbb = 0 then mn4 (paa * mnQ (((1 : Int) : Rat) / pbb) (((1 : Int) : Rat) / qbb)) (paa * mxQ (((1 : Int) : Rat) / pbb) (((1 : Int) : Rat) / qbb)) (qaa * mnQ (((1 : Int) : Rat) / pbb) (((1 : Int) : Rat) / qbb)) (qaa * mxQ (((1 : Int) : Rat) / pbb) (((1 : Int) : Rat) / qbb)) else 0) (if sgE pbb qbb = 0 then mx4 (paa * mnQ (((1 : Int) : Rat) / pbb) (((1 : Int) : Rat) / qbb)) (paa * mxQ (((1 : Int) : Rat) / pbb) (((1 : Int) : Rat) / qbb)) (qaa * mnQ (((1 : Int) : Rat) / pbb) (((1 : Int) : Rat) / qbb)) (qaa * mxQ (((1 : Int) : Rat) / pbb) (((1 : Int) : Rat) / qbb)) else 0))))) && (!(decide ((mxQ (if sgE pbb qbb = 0 then mn4 (paa * mnQ (((1 : Int) : Rat) / pbb) (((1 : Int) : Rat) / qbb)) (paa * mxQ (((1 : Int) : Rat) / pbb) (((1 : Int) : Rat) / qbb)) (qaa * mnQ (((1 : Int) : Rat) / pbb) (((1 : Int) : Rat) / qbb)) (qaa * mxQ (((1 : Int) : Rat) / pbb) (((1 : Int) : Rat) / qbb)) else 0) (if sgE pbb qbb = 0 then mx4 (paa * mnQ (((1 : Int) : Rat) / pbb) (((1 : Int) : Rat) / qbb)) (paa * mxQ (((1 : Int) : Rat) / pbb) (((1 : Int) : Rat) / qbb)) (qaa * mnQ (((1 : Int) : Rat) / pbb) (((1 : Int) : Rat) / qbb)) (qaa * mxQ (((1 : Int) : Rat) / pbb) (((1 : Int) : Rat) / qbb)) else 0)) < ((btw paa qaa j2) / (btw pbb qbb j3)))))))))).b, (mV (.bool false)).b]) (by kernel_rfl) (by rw [z230]; kernel_rfl) (fun h => absurd rfl h) (mG_mono _) (ops_ok ⟨?_, ?_, ?_, ?_, ?_, ?_, ?_, ?_, ?_, ?_, trivial⟩) ?_
   · exact opk_pure rfl rfl fun a w hb hf hd => ⟨_, run_move rfl, fun _ _ => ((hf 12 (out_of (by kernel_rfl))).trans s229)⟩
   · exact opk_pure rfl rfl fun a w hb hf hd => ⟨_, run_eql rfl (ev (hd.at 0 rfl rfl rfl rfl)) rfl, fun _ _ => rfl⟩
   · exact opk_pure rfl rfl fun a w hb hf hd => ⟨_, run_move rfl, fun _ _ => (hd.at 0 rfl rfl rfl rfl)⟩
   · refine opk_guard (decide ((sgE pbb qbb) = 0)) rfl rfl rfl rfl (by rw [z230]; decide) (fun a w hb hf hd => (hd.at 0 rfl rfl rfl rfl)) (fun hne _ hγ => absurd hγ hne) (fun hγ => ?_)
     refine opk_pure rfl rfl fun a w hb hf hd => ?_
     obtain ⟨cs, h1, h2, h3, h4, h5⟩ := bx.below hb x214
     exact ⟨_, run_load_row _ _ rfl (ev ((hf 11 (out_of (by kernel_rfl))).trans s240)) h1 Tryz.underlying44 rfl (by rw [h2]; exact info_Interval), fun _ _ _ => h5⟩
   · refine opk_guard (decide ((sgE pbb qbb) = 0)) rfl rfl rfl rfl (by rw [z230]; decide) (fun a w hb hf hd => (hd.at 0 rfl rfl rfl rfl)) (fun hne _ hγ => absurd hγ hne) (fun hγ => ?_)
     refine opk_pure rfl rfl fun a w hb hf hd => ?_
     obtain ⟨cs, h1, h2, h3, h4, h5⟩ := bx.below hb x220
     exact ⟨_, run_load_row _ _ rfl (ev ((hf 9 (out_of (by kernel_rfl))).trans s236)) h1 Tryz.underlying26 rfl (by rw [h2]; exact info_Rat), fun _ _ _ => h5⟩
   · refine opk_guard (decide ((sgE pbb qbb) = 0)) rfl rfl rfl rfl (by rw [z230]; decide) (fun a w hb hf hd => (hd.at 0 rfl rfl rfl rfl)) (fun hne _ hγ => absurd hγ hne) (fun hγ => ?_)
     refine opk_pure rfl rfl fun a w hb hf hd => ?_
     obtain ⟨cs, h1, h2, h3, h4, h5⟩ := bx.below hb x219
     exact ⟨_, run_load_row _ _ rfl (ev ((hf 10 (out_of (by kernel_rfl))).trans s237)) h1 Tryz.underlying26 rfl (by rw [h2]; exact info_Rat), fun _ _ _ => h5⟩
   · refine opk_guard (decide ((sgE pbb qbb) = 0)) rfl rfl rfl rfl (by rw [z230]; decide) (fun a w hb hf hd => (hd.at 2 rfl rfl rfl rfl)) (fun hne _ hγ => absurd hγ hne) (fun hγ => ?_)
     refine opk_call rfl rfl fun a w hb hf hd => ?_
     have e0 : a.eval (.tmp 38) = sl a 38 := rfl
     have e1 : a.eval (.tmp 39) = sl a 39 := rfl
     exact ⟨60, #[sl a 38, sl a 39], run_call rfl rfl (fun _ _ => by kernel_rfl) (args_2 e0 e1), (r_over (by omega) (by omega) (isC.r ((hd.at 0 rfl rfl rfl rfl) hγ)) (isC.r ((hd.at 1 rfl rfl rfl rfl) hγ))).mono fun _ _ r => RetS.imp (fun _ _ h => fun _ _ _ => (isC.mono h (by omega))) r⟩
   · refine opk_guard (decide ((sgE pbb qbb) = 0)) rfl rfl rfl rfl (by rw [z230]; decide) (fun a w hb hf hd => (hd.at 3 rfl rfl rfl rfl)) (fun hne _ hγ => absurd hγ hne) (fun hγ => ?_)
     refine opk_call rfl rfl fun a w hb hf hd => ?_
     have e0 : a.eval (.tmp 37) = sl a 37 := rfl
     have e1 : a.eval (.tmp 40) = sl a 40 := rfl
     exact ⟨34, #[sl a 37, sl a 40], run_call rfl rfl (fun _ _ => by kernel_rfl) (args_2 e0 e1), (r4_contains  (by omega) (by omega) (mP_imp (m1' := (mR (if sgE pbb qbb = 0 then mn4 (paa * mnQ (((1 : Int) : Rat) / pbb) (((1 : Int) : Rat) / qbb)) (paa * mxQ (((1 : Int) : Rat) / pbb) (((1 : Int) : Rat) / qbb)) (qaa * mnQ (((1 : Int) : Rat) / pbb) (((1 : Int) : Rat) / qbb)) (qaa * mxQ (((1 : Int) : Rat) / pbb) (((1 : Int) : Rat) / qbb)) else 0) 16)) (m2' := (mR (if sgE pbb qbb = 0 then mx4 (paa * mnQ (((1 : Int) : Rat) / pbb) (((1 : Int) : Rat) / qbb)) (paa * mxQ (((1 : Int) : Rat) / pbb) (((1 : Int) : Rat) / qbb)) (qaa * mnQ (((1 : Int) : Rat) / pbb) (((1 : Int) : Rat) / qbb)) (qaa * mxQ (((1 : Int) : Rat) / pbb) (((1 : Int) : Rat) / qbb)) else 0) 16)) (fun _ h => (isE.r h)) (fun _ h => (isE.r h)) ((hd.at 0 rfl rfl rfl rfl) hγ)) (isC.r ((hd.at 1 rfl rfl rfl rfl) hγ))).mono fun _ _ r => RetS.imp (fun _ _ h => fun _ _ _ => h) r⟩
   · refine opk_guard (decide ((sgE pbb qbb) = 0)) rfl rfl rfl rfl (by rw [z230]; decide) (fun a w hb hf hd => (hd.at 1 rfl rfl rfl rfl)) (fun hne _ hγ => absurd hγ hne) (fun hγ => ?_)
     exact opk_pure rfl rfl fun a w hb hf hd => ⟨_, run_not rfl (ev ((hd.at 0 rfl rfl rfl rfl) hγ)), fun _ _ _ => rfl⟩
   · exact opk_pure rfl rfl fun a w hb hf hd => ⟨_, run_pick rfl (ev (hd.at 0 rfl rfl rfl rfl)), fun _ _ => (Eq.trans (b := Value.bool ((decide ((sgE pbb qbb) = 0)) && (!((!(decide (((btw paa qaa j2) / (btw pbb qbb j3)) < (mnQ (if sgE pbb qbb = 0 then mn4 (paa * mnQ (((1 : Int) : Rat) / pbb) (((1 : Int) : Rat) / qbb)) (paa * mxQ (((1 : Int) : Rat) / pbb) (((1 : Int) : Rat) / qbb)) (qaa * mnQ (((1 : Int) : Rat) / pbb) (((1 : Int) : Rat) / qbb)) (qaa * mxQ (((1 : Int) : Rat) / pbb) (((1 : Int) : Rat) / qbb)) else 0) (if sgE pbb qbb = 0 then mx4 (paa * mnQ (((1 : Int) : Rat) / pbb) (((1 : Int) : Rat) / qbb)) (paa * mxQ (((1 : Int) : Rat) / pbb) (((1 : Int) : Rat) / qbb)) (qaa * mnQ (((1 : Int) : Rat) / pbb) (((1 : Int) : Rat) / qbb)) (qaa * mxQ (((1 : Int) : Rat) / pbb) (((1 : Int) : Rat) / qbb)) else 0))))) && (!(decide ((mxQ (if sgE pbb qbb = 0 then mn4 (paa * mnQ (((1 : Int) : Rat) / pbb) (((1 : Int) : Rat) / qbb)) (paa * mxQ (((1 : Int) : Rat) / pbb) (((1 : Int) : Rat) / qbb)) (qaa * mnQ (((1 : Int) : Rat) / pbb) (((1 : Int) : Rat) / qbb)) (qaa * mxQ (((1 : Int) : Rat) / pbb) (((1 : Int) : Rat) / qbb)) else 0) (if sgE pbb qbb = 0 then mx4 (paa * mnQ (((1 : Int) : Rat) / pbb) (((1 : Int) : Rat) / qbb)) (paa * mxQ (((1 : Int) : Rat) / pbb) (((1 : Int) : Rat) / qbb)) (qaa * mnQ (((1 : Int) : Rat) / pbb) (((1 : Int) : Rat) / qbb)) (qaa * mxQ (((1 : Int) : Rat) / pbb) (((1 : Int) : Rat) / qbb)) else 0)) < ((btw paa qaa j2) / (btw pbb qbb j3))))))))) (pick_and (hd.at 1 rfl rfl rfl rfl)) (congrArg Value.bool (divB (btw_in paa qaa j2) (btw_in pbb qbb j3) _ _ rfl rfl)))⟩
   intro a241 w242 ms243
   have B244 := B218.trans (ms243.b.mono B218.size)
   have z245 := ms243.sz.trans z230
   have d246 := ms243.df.trans d231
   have s247 := (ms243.fr 4 (out_of (by kernel_rfl))).trans s232
   have s248 := (ms243.fr 5 (out_of (by kernel_rfl))).trans s233
   have s251 := (ms243.fr 9 (out_of (by kernel_rfl))).trans s236
   have s252 := (ms243.fr 10 (out_of (by kernel_rfl))).trans s237
   have x254 := bx.below ms243.b x214
   have x255 := bx.below ms243.b x219
   have x256 := bx.below ms243.b x220
   have x257 := bx.below ms243.b x221
   have x258 := bx.below ms243.b x222
   have s259 : sl a241 43 = .bool false := ms243.g 9 _ 43 rfl (by decide) trivial rfl
   refine wpList_nil (then_normal ?_)
   refine wp_cond_false (ev s259) ?_
   refine wp_skip (then_normal ?_)
   refine wp_seq ?_
   refine wp_region_mono 41 [] (mG [(mV (.bool true)).b, (mV (.bool true)).b, (mP (mK paa 4 caa) (mK qaa 4 daa)).b, (mP (mK pbb 4 cbb) (mK qbb 4 dbb)).b, (mP (mC ((mnQ paa qaa) + (mnQ pbb qbb)) 11) (mC ((mxQ paa qaa) + (mxQ pbb qbb)) 11)).b, (mC (btw paa qaa j2) 88).b, (mC (btw pbb qbb j3) 88).b, (mC ((btw paa qaa j2) + (btw pbb qbb j3)) 179).b, (mV (.bool true)).b, (mV (.bool true)).b, (mV (.bool true)).b, (mP (mK paa 4 caa) (mK qaa 4 daa)).b, (mP (mK pbb 4 cbb) (mK qbb 4 dbb)).b, (mP (mC ((mnQ paa qaa) - (mxQ pbb qbb)) 11) (mC ((mxQ paa qaa) - (mnQ pbb qbb)) 11)).b, (mC (btw paa qaa j2) 88).b, (mC (btw pbb qbb j3) 88).b, (mC ((btw paa qaa j2) - (btw pbb qbb j3)) 179).b, (mV (.bool true)).b, (mV (.bool true)).b, (mV (.bool true)).b, (mP (mK paa 4 caa) (mK qaa 4 daa)).b, (mP (mK pbb 4 cbb) (mK qbb 4 dbb)).b, (mP (mC (mn4 (paa * pbb) (paa * qbb) (qaa * pbb) (qaa * qbb)) 11) (mC (mx4 (paa * pbb) (paa * qbb) (qaa * pbb) (qaa * qbb)) 11)).b, (mC (btw paa qaa j2) 88).b, (mC (btw pbb qbb j3) 88).b, (mC ((btw paa qaa j2) * (btw pbb qbb j3)) 179).b, (mV (.bool true)).b, (mV (.bool true)).b, (mV (.bool true)).b, (mP (mK paa 4 caa) (mK qaa 4 daa)).b, (mP (mC (sqL paa qaa) 13) (mC (mxQ (paa * paa) (qaa * qaa)) 13)).b, (mC (btw paa qaa j2) 88).b, (mC (btw paa qaa j2) 88).b, (mC ((btw paa qaa j2) * (btw paa qaa j2)) 179).b, (mV (.bool true)).b, (mV (.bool true)).b, (mV (.bool true)).b, (mP (mK paa 4 caa) (mK qaa 4 daa)).b, (mC (btw paa qaa j2) 88).b, (mV (.bool true)).b, (mV (.bool true)).b]) (by kernel_rfl) (by rw [z245]; kernel_rfl) (fun h => absurd rfl h) (mG_mono _) (ops_ok ⟨?_, ?_, ?_, ?_, ?_, ?_, ?_, ?_, ?_, ?_, ?_, ?_, ?_, ?_, ?_, ?_, ?_, ?_, ?_, ?_, ?_, ?_, ?_, ?_, ?_, ?_, ?_, ?_, ?_, ?_, ?_, ?_, ?_, ?_, ?_, ?_, ?_, ?_, ?_, ?_, ?_, trivial⟩) ?_
   · refine opk_call rfl rfl fun a w hb hf hd => ?_
     exact ⟨25, #[], run_call rfl rfl (fun _ _ => by kernel_rfl) args_0, (awake4_any (hT.below (B244.trans (hb.mono B244.size)))).mono fun _ _ r => RetS.imp (fun _ _ h => fun _ _ => h) r⟩
   · exact opk_pure rfl rfl fun a w hb hf hd => ⟨_, run_move rfl, fun _ _ => (hd.at 0 rfl rfl rfl rfl)⟩
   · refine opk_guard true rfl rfl rfl rfl (by rw [z245]; decide) (fun a w hb hf hd => (hd.at 0 rfl rfl rfl rfl)) (fun h => absurd rfl h) (fun _ => ?_)
     refine opk_pure rfl rfl fun a w hb hf hd => ?_
     obtain ⟨cs, h1, h2, h3, h4, h5⟩ := bx.below hb x257
     exact ⟨_, run_load_row _ _ rfl (ev ((hf 4 (out_of (by kernel_rfl))).trans s247)) h1 Tryz.underlying44 rfl (by rw [h2]; exact info_Interval), fun _ _ => h5⟩
   · refine opk_guard true rfl rfl rfl rfl (by rw [z245]; decide) (fun a w hb hf hd => (hd.at 0 rfl rfl rfl rfl)) (fun h => absurd rfl h) (fun _ => ?_)
     refine opk_pure rfl rfl fun a w hb hf hd => ?_
     obtain ⟨cs, h1, h2, h3, h4, h5⟩ := bx.below hb x258
     exact ⟨_, run_load_row _ _ rfl (ev ((hf 5 (out_of (by kernel_rfl))).trans s248)) h1 Tryz.underlying44 rfl (by rw [h2]; exact info_Interval), fun _ _ => h5⟩
   · refine opk_guard true rfl rfl rfl rfl (by rw [z245]; decide) (fun a w hb hf hd => (hd.at 2 rfl rfl rfl rfl)) (fun h => absurd rfl h) (fun _ => ?_)
     refine opk_call rfl rfl fun a w hb hf hd => ?_
     have e0 : a.eval (.tmp 46) = sl a 46 := rfl
     have e1 : a.eval (.tmp 47) = sl a 47 := rfl
     exact ⟨49, #[sl a 46, sl a 47], run_call rfl rfl (fun _ _ => by kernel_rfl) (args_2 e0 e1), (iv_add  (by omega) (by omega) (mP_imp (m1' := (mR paa 4)) (m2' := (mR qaa 4)) (fun _ h => (isK.r h)) (fun _ h => (isK.r h)) (hd.at 0 rfl rfl rfl rfl)) (mP_imp (m1' := (mR pbb 4)) (m2' := (mR qbb 4)) (fun _ h => (isK.r h)) (fun _ h => (isK.r h)) (hd.at 1 rfl rfl rfl rfl)) (hT.below (B244.trans (hb.mono B244.size)))).mono fun _ _ r => RetS.imp (fun _ _ h => fun _ _ => (mP_imp (fun _ h => (isC.mono h (by omega))) (fun _ h => (isC.mono h (by omega))) h)) r⟩
   · refine opk_guard true rfl rfl rfl rfl (by rw [z245]; decide) (fun a w hb hf hd => (hd.at 0 rfl rfl rfl rfl)) (fun h => absurd rfl h) (fun _ => ?_)
     refine opk_pure rfl rfl fun a w hb hf hd => ?_
     obtain ⟨cs, h1, h2, h3, h4, h5⟩ := bx.below hb x256
     exact ⟨_, run_load_row _ _ rfl (ev ((hf 9 (out_of (by kernel_rfl))).trans s251)) h1 Tryz.underlying26 rfl (by rw [h2]; exact info_Rat), fun _ _ => h5⟩
   · refine opk_guard true rfl rfl rfl rfl (by rw [z245]; decide) (fun a w hb hf hd => (hd.at 0 rfl rfl rfl rfl)) (fun h => absurd rfl h) (fun _ => ?_)
     refine opk_pure rfl rfl fun a w hb hf hd => ?_
     obtain ⟨cs, h1, h2, h3, h4, h5⟩ := bx.below hb x255
     exact ⟨_, run_load_row _ _ rfl (ev ((hf 10 (out_of (by kernel_rfl))).trans s252)) h1 Tryz.underlying26 rfl (by rw [h2]; exact info_Rat), fun _ _ => h5⟩
   · refine opk_guard true rfl rfl rfl rfl (by rw [z245]; decide) (fun a w hb hf hd => (hd.at 3 rfl rfl rfl rfl)) (fun h => absurd rfl h) (fun _ => ?_)
     refine opk_call rfl rfl fun a w hb hf hd => ?_
     have e0 : a.eval (.tmp 49) = sl a 49 := rfl
     have e1 : a.eval (.tmp 50) = sl a 50 := rfl
     exact ⟨61, #[sl a 49, sl a 50], run_call rfl rfl (fun _ _ => by kernel_rfl) (args_2 e0 e1), (r_add (by omega) (by omega) (isC.r (hd.at 0 rfl rfl rfl rfl)) (isC.r (hd.at 1 rfl rfl rfl rfl))).mono fun _ _ r => RetS.imp (fun _ _ h => fun _ _ => (isC.mono h (by omega))) r⟩
   · refine opk_guard true rfl rfl rfl rfl (by rw [z245]; decide) (fun a w hb hf hd => (hd.at 3 rfl rfl rfl rfl)) (fun h => absurd rfl h) (fun _ => ?_)
     refine opk_call rfl rfl fun a w hb hf hd => ?_
     have e0 : a.eval (.tmp 48) = sl a 48 := rfl
     have e1 : a.eval (.tmp 51) = sl a 51 := rfl
     exact ⟨34, #[sl a 48, sl a 51], run_call rfl rfl (fun _ _ => by kernel_rfl) (args_2 e0 e1), (r4_contains  (by omega) (by omega) (mP_imp (m1' := (mR ((mnQ paa qaa) + (mnQ pbb qbb)) 11)) (m2' := (mR ((mxQ paa qaa) + (mxQ pbb qbb)) 11)) (fun _ h => (isC.r h)) (fun _ h => (isC.r h)) (hd.at 0 rfl rfl rfl rfl)) (isC.r (hd.at 1 rfl rfl rfl rfl))).mono fun _ _ r => RetS.imp (fun _ _ h => fun _ _ => (h.trans (congrArg Value.bool (inB1 (addI (btw_in paa qaa j2) (btw_in pbb qbb j3)))))) r⟩
   · exact opk_pure rfl rfl fun a w hb hf hd => ⟨_, run_pick rfl (ev (hd.at 0 rfl rfl rfl rfl)), fun _ _ => pick_and (fun _ => (hd.at 1 rfl rfl rfl rfl))⟩
   · exact opk_pure rfl rfl fun a w hb hf hd => ⟨_, run_move rfl, fun _ _ => (hd.at 0 rfl rfl rfl rfl)⟩
   · refine opk_guard true rfl rfl rfl rfl (by rw [z245]; decide) (fun a w hb hf hd => (hd.at 0 rfl rfl rfl rfl)) (fun h => absurd rfl h) (fun _ => ?_)
     refine opk_pure rfl rfl fun a w hb hf hd => ?_
     obtain ⟨cs, h1, h2, h3, h4, h5⟩ := bx.below hb x257
     exact ⟨_, run_load_row _ _ rfl (ev ((hf 4 (out_of (by kernel_rfl))).trans s247)) h1 Tryz.underlying44 rfl (by rw [h2]; exact info_Interval), fun _ _ => h5⟩
   · refine opk_guard true rfl rfl rfl rfl (by rw [z245]; decide) (fun a w hb hf hd => (hd.at 0 rfl rfl rfl rfl)) (fun h => absurd rfl h) (fun _ => ?_)
     refine opk_pure rfl rfl fun a w hb hf hd => ?_
     obtain ⟨cs, h1, h2, h3, h4, h5⟩ := bx.below hb x258
     exact ⟨_, run_load_row _ _ rfl (ev ((hf 5 (out_of (by kernel_rfl))).trans s248)) h1 Tryz.underlying44 rfl (by rw [h2]; exact info_Interval), fun _ _ => h5⟩
   · refine opk_guard true rfl rfl rfl rfl (by rw [z245]; decide) (fun a w hb hf hd => (hd.at 2 rfl rfl rfl rfl)) (fun h => absurd rfl h) (fun _ => ?_)
     refine opk_call rfl rfl fun a w hb hf hd => ?_
     have e0 : a.eval (.tmp 55) = sl a 55 := rfl
     have e1 : a.eval (.tmp 56) = sl a 56 := rfl
     exact ⟨51, #[sl a 55, sl a 56], run_call rfl rfl (fun _ _ => by kernel_rfl) (args_2 e0 e1), (iv_sub  (by omega) (by omega) (mP_imp (m1' := (mR paa 4)) (m2' := (mR qaa 4)) (fun _ h => (isK.r h)) (fun _ h => (isK.r h)) (hd.at 0 rfl rfl rfl rfl)) (mP_imp (m1' := (mR pbb 4)) (m2' := (mR qbb 4)) (fun _ h => (isK.r h)) (fun _ h => (isK.r h)) (hd.at 1 rfl rfl rfl rfl)) (hT.below (B244.trans (hb.mono B244.size)))).mono fun _ _ r => RetS.imp (fun _ _ h => fun _ _ => (mP_imp (fun _ h => (isC.mono h (by omega))) (fun _ h => (isC.mono h (by omega))) h)) r⟩
   · refine opk_guard true rfl rfl rfl rfl (by rw [z245]; decide) (fun a w hb hf hd => (hd.at 0 rfl rfl rfl rfl)) (fun h => absurd rfl h) (fun _ => ?_)
     refine opk_pure rfl rfl fun a w hb hf hd => ?_
     obtain ⟨cs, h1, h2, h3, h4, h5⟩ := bx.below hb x256
     exact ⟨_, run_load_row _ _ rfl (ev ((hf 9 (out_of (by kernel_rfl))).trans s251)) h1 Tryz.underlying26 rfl (by rw [h2]; exact info_Rat), fun _ _ => h5⟩
   · refine opk_guard true rfl rfl rfl rfl (by rw [z245]; decide) (fun a w hb hf hd => (hd.at 0 rfl rfl rfl rfl)) (fun h => absurd rfl h) (fun _ => ?_)
     refine opk_pure rfl rfl fun a w hb hf hd => ?_
     obtain ⟨cs, h1, h2, h3, h4, h5⟩ := bx.below hb x255
     exact ⟨_, run_load_row _ _ rfl (ev ((hf 10 (out_of (by kernel_rfl))).trans s252)) h1 Tryz.underlying26 rfl (by rw [h2]; exact info_Rat), fun _ _ => h5⟩
   · refine opk_guard true rfl rfl rfl rfl (by rw [z245]; decide) (fun a w hb hf hd => (hd.at 3 rfl rfl rfl rfl)) (fun h => absurd rfl h) (fun _ => ?_)
     refine opk_call rfl rfl fun a w hb hf hd => ?_
     have e0 : a.eval (.tmp 58) = sl a 58 := rfl
     have e1 : a.eval (.tmp 59) = sl a 59 := rfl
     exact ⟨62, #[sl a 58, sl a 59], run_call rfl rfl (fun _ _ => by kernel_rfl) (args_2 e0 e1), (r_sub (by omega) (by omega) (isC.r (hd.at 0 rfl rfl rfl rfl)) (isC.r (hd.at 1 rfl rfl rfl rfl))).mono fun _ _ r => RetS.imp (fun _ _ h => fun _ _ => (isC.mono h (by omega))) r⟩
   · refine opk_guard true rfl rfl rfl rfl (by rw [z245]; decide) (fun a w hb hf hd => (hd.at 3 rfl rfl rfl rfl)) (fun h => absurd rfl h) (fun _ => ?_)
     refine opk_call rfl rfl fun a w hb hf hd => ?_
     have e0 : a.eval (.tmp 57) = sl a 57 := rfl
     have e1 : a.eval (.tmp 60) = sl a 60 := rfl
     exact ⟨34, #[sl a 57, sl a 60], run_call rfl rfl (fun _ _ => by kernel_rfl) (args_2 e0 e1), (r4_contains  (by omega) (by omega) (mP_imp (m1' := (mR ((mnQ paa qaa) - (mxQ pbb qbb)) 11)) (m2' := (mR ((mxQ paa qaa) - (mnQ pbb qbb)) 11)) (fun _ h => (isC.r h)) (fun _ h => (isC.r h)) (hd.at 0 rfl rfl rfl rfl)) (isC.r (hd.at 1 rfl rfl rfl rfl))).mono fun _ _ r => RetS.imp (fun _ _ h => fun _ _ => (h.trans (congrArg Value.bool (inB1 (subI (btw_in paa qaa j2) (btw_in pbb qbb j3)))))) r⟩
   · exact opk_pure rfl rfl fun a w hb hf hd => ⟨_, run_pick rfl (ev (hd.at 0 rfl rfl rfl rfl)), fun _ _ => pick_and (fun _ => (hd.at 1 rfl rfl rfl rfl))⟩
   · exact opk_pure rfl rfl fun a w hb hf hd => ⟨_, run_move rfl, fun _ _ => (hd.at 0 rfl rfl rfl rfl)⟩
   · refine opk_guard true rfl rfl rfl rfl (by rw [z245]; decide) (fun a w hb hf hd => (hd.at 0 rfl rfl rfl rfl)) (fun h => absurd rfl h) (fun _ => ?_)
     refine opk_pure rfl rfl fun a w hb hf hd => ?_
     obtain ⟨cs, h1, h2, h3, h4, h5⟩ := bx.below hb x257
     exact ⟨_, run_load_row _ _ rfl (ev ((hf 4 (out_of (by kernel_rfl))).trans s247)) h1 Tryz.underlying44 rfl (by rw [h2]; exact info_Interval), fun _ _ => h5⟩
   · refine opk_guard true rfl rfl rfl rfl (by rw [z245]; decide) (fun a w hb hf hd => (hd.at 0 rfl rfl rfl rfl)) (fun h => absurd rfl h) (fun _ => ?_)
     refine opk_pure rfl rfl fun a w hb hf hd => ?_
     obtain ⟨cs, h1, h2, h3, h4, h5⟩ := bx.below hb x258
     exact ⟨_, run_load_row _ _ rfl (ev ((hf 5 (out_of (by kernel_rfl))).trans s248)) h1 Tryz.underlying44 rfl (by rw [h2]; exact info_Interval), fun _ _ => h5⟩
   · refine opk_guard true rfl rfl rfl rfl (by rw [z245]; decide) (fun a w hb hf hd => (hd.at 2 rfl rfl rfl rfl)) (fun h => absurd rfl h) (fun _ => ?_)
     refine opk_call rfl rfl fun a w hb hf hd => ?_
     have e0 : a.eval (.tmp 64) = sl a 64 := rfl
     have e1 : a.eval (.tmp 65) = sl a 65 := rfl
     exact ⟨53, #[sl a 64, sl a 65], run_call rfl rfl (fun _ _ => by kernel_rfl) (args_2 e0 e1), (iv_mul  (by omega) (by omega) (mP_imp (m1' := (mR paa 4)) (m2' := (mR qaa 4)) (fun _ h => (isK.r h)) (fun _ h => (isK.r h)) (hd.at 0 rfl rfl rfl rfl)) (mP_imp (m1' := (mR pbb 4)) (m2' := (mR qbb 4)) (fun _ h => (isK.r h)) (fun _ h => (isK.r h)) (hd.at 1 rfl rfl rfl rfl)) (hT.below (B244.trans (hb.mono B244.size)))).mono fun _ _ r => RetS.imp (fun _ _ h => fun _ _ => (mP_imp (fun _ h => (isC.mono h (by omega))) (fun _ h => (isC.mono h (by omega))) h)) r⟩
   · refine opk_guard true rfl rfl rfl rfl (by rw [z245]; decide) (fun a w hb hf hd => (hd.at 0 rfl rfl rfl rfl)) (fun h => absurd rfl h) (fun _ => ?_)
     refine opk_pure rfl rfl fun a w hb hf hd => ?_
     obtain ⟨cs, h1, h2, h3, h4, h5⟩ := bx.below hb x256
     exact ⟨_, run_load_row _ _ rfl (ev ((hf 9 (out_of (by kernel_rfl))).trans s251)) h1 Tryz.underlying26 rfl (by rw [h2]; exact info_Rat), fun _ _ => h5⟩
   · refine opk_guard true rfl rfl rfl rfl (by rw [z245]; decide) (fun a w hb hf hd => (hd.at 0 rfl rfl rfl rfl)) (fun h => absurd rfl h) (fun _ => ?_)
     refine opk_pure rfl rfl fun a w hb hf hd => ?_
     obtain ⟨cs, h1, h2, h3, h4, h5⟩ := bx.below hb x255
     exact ⟨_, run_load_row _ _ rfl (ev ((hf 10 (out_of (by kernel_rfl))).trans s252)) h1 Tryz.underlying26 rfl (by rw [h2]; exact info_Rat), fun _ _ => h5⟩
   · refine opk_guard true rfl rfl rfl rfl (by rw [z245]; decide) (fun a w hb hf hd => (hd.at 3 rfl rfl rfl rfl)) (fun h => absurd rfl h) (fun _ => ?_)
     refine opk_call rfl rfl fun a w hb hf hd => ?_
     have e0 : a.eval (.tmp 67) = sl a 67 := rfl
     have e1 : a.eval (.tmp 68) = sl a 68 := rfl
     exact ⟨63, #[sl a 67, sl a 68], run_call rfl rfl (fun _ _ => by kernel_rfl) (args_2 e0 e1), (r_mul (by omega) (by omega) (isC.r (hd.at 0 rfl rfl rfl rfl)) (isC.r (hd.at 1 rfl rfl rfl rfl))).mono fun _ _ r => RetS.imp (fun _ _ h => fun _ _ => (isC.mono h (by omega))) r⟩
   · refine opk_guard true rfl rfl rfl rfl (by rw [z245]; decide) (fun a w hb hf hd => (hd.at 3 rfl rfl rfl rfl)) (fun h => absurd rfl h) (fun _ => ?_)
     refine opk_call rfl rfl fun a w hb hf hd => ?_
     have e0 : a.eval (.tmp 66) = sl a 66 := rfl
     have e1 : a.eval (.tmp 69) = sl a 69 := rfl
     exact ⟨34, #[sl a 66, sl a 69], run_call rfl rfl (fun _ _ => by kernel_rfl) (args_2 e0 e1), (r4_contains  (by omega) (by omega) (mP_imp (m1' := (mR (mn4 (paa * pbb) (paa * qbb) (qaa * pbb) (qaa * qbb)) 11)) (m2' := (mR (mx4 (paa * pbb) (paa * qbb) (qaa * pbb) (qaa * qbb)) 11)) (fun _ h => (isC.r h)) (fun _ h => (isC.r h)) (hd.at 0 rfl rfl rfl rfl)) (isC.r (hd.at 1 rfl rfl rfl rfl))).mono fun _ _ r => RetS.imp (fun _ _ h => fun _ _ => (h.trans (congrArg Value.bool (inB1 (mulI (btw_in paa qaa j2) (btw_in pbb qbb j3)))))) r⟩
   · exact opk_pure rfl rfl fun a w hb hf hd => ⟨_, run_pick rfl (ev (hd.at 0 rfl rfl rfl rfl)), fun _ _ => pick_and (fun _ => (hd.at 1 rfl rfl rfl rfl))⟩
   · exact opk_pure rfl rfl fun a w hb hf hd => ⟨_, run_move rfl, fun _ _ => (hd.at 0 rfl rfl rfl rfl)⟩
   · refine opk_guard true rfl rfl rfl rfl (by rw [z245]; decide) (fun a w hb hf hd => (hd.at 0 rfl rfl rfl rfl)) (fun h => absurd rfl h) (fun _ => ?_)
     refine opk_pure rfl rfl fun a w hb hf hd => ?_
     obtain ⟨cs, h1, h2, h3, h4, h5⟩ := bx.below hb x257
     exact ⟨_, run_load_row _ _ rfl (ev ((hf 4 (out_of (by kernel_rfl))).trans s247)) h1 Tryz.underlying44 rfl (by rw [h2]; exact info_Interval), fun _ _ => h5⟩
   · refine opk_guard true rfl rfl rfl rfl (by rw [z245]; decide) (fun a w hb hf hd => (hd.at 1 rfl rfl rfl rfl)) (fun h => absurd rfl h) (fun _ => ?_)
     refine opk_call rfl rfl fun a w hb hf hd => ?_
     have e0 : a.eval (.tmp 73) = sl a 73 := rfl
     exact ⟨55, #[sl a 73], run_call rfl rfl (fun _ _ => by kernel_rfl) (args_1 e0), (iv_square  (by omega) (mP_imp (m1' := (mR paa 4)) (m2' := (mR qaa 4)) (fun _ h => (isK.r h)) (fun _ h => (isK.r h)) (hd.at 0 rfl rfl rfl rfl)) (hT.below (B244.trans (hb.mono B244.size)))).mono fun _ _ r => RetS.imp (fun _ _ h => fun _ _ => (mP_imp (fun _ h => (isC.mono h (by omega))) (fun _ h => (isC.mono h (by omega))) h)) r⟩
   · refine opk_guard true rfl rfl rfl rfl (by rw [z245]; decide) (fun a w hb hf hd => (hd.at 0 rfl rfl rfl rfl)) (fun h => absurd rfl h) (fun _ => ?_)
     refine opk_pure rfl rfl fun a w hb hf hd => ?_
     obtain ⟨cs, h1, h2, h3, h4, h5⟩ := bx.below hb x256
     exact ⟨_, run_load_row _ _ rfl (ev ((hf 9 (out_of (by kernel_rfl))).trans s251)) h1 Tryz.underlying26 rfl (by rw [h2]; exact info_Rat), fun _ _ => h5⟩
   · refine opk_guard true rfl rfl rfl rfl (by rw [z245]; decide) (fun a w hb hf hd => (hd.at 0 rfl rfl rfl rfl)) (fun h => absurd rfl h) (fun _ => ?_)
     refine opk_pure rfl rfl fun a w hb hf hd => ?_
     obtain ⟨cs, h1, h2, h3, h4, h5⟩ := bx.below hb x256
     exact ⟨_, run_load_row _ _ rfl (ev ((hf 9 (out_of (by kernel_rfl))).trans s251)) h1 Tryz.underlying26 rfl (by rw [h2]; exact info_Rat), fun _ _ => h5⟩
   · refine opk_guard true rfl rfl rfl rfl (by rw [z245]; decide) (fun a w hb hf hd => (hd.at 3 rfl rfl rfl rfl)) (fun h => absurd rfl h) (fun _ => ?_)
     refine opk_call rfl rfl fun a w hb hf hd => ?_
     have e0 : a.eval (.tmp 75) = sl a 75 := rfl
     have e1 : a.eval (.tmp 76) = sl a 76 := rfl
     exact ⟨63, #[sl a 75, sl a 76], run_call rfl rfl (fun _ _ => by kernel_rfl) (args_2 e0 e1), (r_mul (by omega) (by omega) (isC.r (hd.at 0 rfl rfl rfl rfl)) (isC.r (hd.at 1 rfl rfl rfl rfl))).mono fun _ _ r => RetS.imp (fun _ _ h => fun _ _ => (isC.mono h (by omega))) r⟩
   · refine opk_guard true rfl rfl rfl rfl (by rw [z245]; decide) (fun a w hb hf hd => (hd.at 3 rfl rfl rfl rfl)) (fun h => absurd rfl h) (fun _ => ?_)
     refine opk_call rfl rfl fun a w hb hf hd => ?_
     have e0 : a.eval (.tmp 74) = sl a 74 := rfl
     have e1 : a.eval (.tmp 77) = sl a 77 := rfl
     exact ⟨34, #[sl a 74, sl a 77], run_call rfl rfl (fun _ _ => by kernel_rfl) (args_2 e0 e1), (r4_contains  (by omega) (by omega) (mP_imp (m1' := (mR (sqL paa qaa) 13)) (m2' := (mR (mxQ (paa * paa) (qaa * qaa)) 13)) (fun _ h => (isC.r h)) (fun _ h => (isC.r h)) (hd.at 0 rfl rfl rfl rfl)) (isC.r (hd.at 1 rfl rfl rfl rfl))).mono fun _ _ r => RetS.imp (fun _ _ h => fun _ _ => (h.trans (congrArg Value.bool (inB1 (squareI (btw_in paa qaa j2)))))) r⟩
   · exact opk_pure rfl rfl fun a w hb hf hd => ⟨_, run_pick rfl (ev (hd.at 0 rfl rfl rfl rfl)), fun _ _ => pick_and (fun _ => (hd.at 1 rfl rfl rfl rfl))⟩
   · exact opk_pure rfl rfl fun a w hb hf hd => ⟨_, run_move rfl, fun _ _ => (hd.at 0 rfl rfl rfl rfl)⟩
   · refine opk_guard true rfl rfl rfl rfl (by rw [z245]; decide) (fun a w hb hf hd => (hd.at 0 rfl rfl rfl rfl)) (fun h => absurd rfl h) (fun _ => ?_)
     refine opk_pure rfl rfl fun a w hb hf hd => ?_
     obtain ⟨cs, h1, h2, h3, h4, h5⟩ := bx.below hb x257
     exact ⟨_, run_load_row _ _ rfl (ev ((hf 4 (out_of (by kernel_rfl))).trans s247)) h1 Tryz.underlying44 rfl (by rw [h2]; exact info_Interval), fun _ _ => h5⟩
   · refine opk_guard true rfl rfl rfl rfl (by rw [z245]; decide) (fun a w hb hf hd => (hd.at 0 rfl rfl rfl rfl)) (fun h => absurd rfl h) (fun _ => ?_)
     refine opk_pure rfl rfl fun a w hb hf hd => ?_
     obtain ⟨cs, h1, h2, h3, h4, h5⟩ := bx.below hb x256
     exact ⟨_, run_load_row _ _ rfl (ev ((hf 9 (out_of (by kernel_rfl))).trans s251)) h1 Tryz.underlying26 rfl (by rw [h2]; exact info_Rat), fun _ _ => h5⟩
   · refine opk_guard true rfl rfl rfl rfl (by rw [z245]; decide) (fun a w hb hf hd => (hd.at 2 rfl rfl rfl rfl)) (fun h => absurd rfl h) (fun _ => ?_)
     refine opk_call rfl rfl fun a w hb hf hd => ?_
     have e0 : a.eval (.tmp 81) = sl a 81 := rfl
     have e1 : a.eval (.tmp 82) = sl a 82 := rfl
     exact ⟨33, #[sl a 81, sl a 82], run_call rfl rfl (fun _ _ => by kernel_rfl) (args_2 e0 e1), (iv_contains  (by omega) (by omega) (mP_imp (m1' := (mR paa 4)) (m2' := (mR qaa 4)) (fun _ h => (isK.r h)) (fun _ h => (isK.r h)) (hd.at 0 rfl rfl rfl rfl)) (isC.r (hd.at 1 rfl rfl rfl rfl)) (hT.below (B244.trans (hb.mono B244.size)))).mono fun _ _ r => RetS.imp (fun _ _ h => fun _ _ => (h.trans (congrArg Value.bool (inC0 (btw_in paa qaa j2))))) r⟩
   · exact opk_pure rfl rfl fun a w hb hf hd => ⟨_, run_pick rfl (ev (hd.at 0 rfl rfl rfl rfl)), fun _ _ => pick_and (fun _ => (hd.at 1 rfl rfl rfl rfl))⟩
   intro a260 w261 ms262
   have B263 := B244.trans (ms262.b.mono B244.size)
   have z264 := ms262.sz.trans z245
   have d265 := ms262.df.trans d246
   have x274 := bx.below ms262.b x254
   have x275 := bx.below ms262.b x255
   have x276 := bx.below ms262.b x256
   have x277 := bx.below ms262.b x257
   have x278 := bx.below ms262.b x258
   have s279 : sl a260 84 = .bool true := ms262.g 40 _ 84 rfl (by decide) trivial rfl
   refine tl_set rfl rfl (run_assign rfl) (by rw [z264]; decide) ?_
   intro a280 z281 d282 s283 fr284
   have s285 := s283.trans s279
   have d287 := d282.trans d265
   refine wpList_nil (then_normal ?_)
   refine wp_ret ?_
   exact end_tmp rfl d287 B263 s285
end Go.Proofs.YtbjijmjhlpkomaaGreatDoor

namespace Go.Proofs.YtbjijmjhlpkomaaGreatDoor.intervalEncloses
open Go.ChangeShapes Go.WideShapes Go.ChangeAt Go.RowKit
open Go.ChangeMaps (open_string shut_string)

set_option linter.unusedVariables false
theorem lifted (os : Os) (started : os.Started) (H : Type) (enc : TypeId × Value → H) :
   ReturnsInHanded {} Tryz.checked os 6 .any (fun w args => (Rows.intervalEnclosesSpec.pre enc Tryz.prog Tryz.f6 Rows.intervalEnclosesRow.domain false w args ∧ laidMetH Tryz.prog Rows.intervalEnclosesRow.laid w) ∧ sizedMet enc Tryz.prog Tryz.f6 (OpenSpec.ofChange Rows.intervalEnclosesSpec) false w args)
     (Rows.intervalEnclosesSpec.post enc Tryz.prog Tryz.f6 false true false false) := by
 refine returnsInHanded_of_change_and (C := Tryz.checked) (X := fun w _ => laidMetH Tryz.prog Rows.intervalEnclosesRow.laid w) (fun _ _ _ hh h => h.of_heap hh) own started (by kernel_rfl) Tryz.func6
   (ChangeSpec.witness_shaped (enc := enc) (C := Tryz.checked) (os := os) (X := fun w _ => laidMetH Tryz.prog Rows.intervalEnclosesRow.laid w) false (World.laidAll Tryz.prog os Rows.intervalEnclosesRow.laid) #[.agg #[.bool false, .slice none 0 0, .slice none 0 0, .bool false, .slice none 0 0, .slice none 0 0], .agg #[.bool false, .slice none 0 0, .slice none 0 0, .bool false, .slice none 0 0, .slice none 0 0], .int .i64 0, .int .i64 0] 8 (World.laidAll_os _ _ _)
     (World.shaped_of_ZipB (by kernel_rfl) (by kernel_rfl)) (by kernel_rfl) (by kernel_rfl) (by kernel_rfl)
     (by rw [MakeChecks.laidMetH_plain _ _ _ (by kernel_rfl)]; exact laidMet_laidAll _ (by kernel_rfl) (by kernel_rfl))) ?_
 intro W base args ds gs before hval0 hW hcnd _ hL _
 have hval : ∀ (j : Nat) t v, Tryz.f6.params[j]? = some t → args[j]? = some v → Value.okWide Tryz.prog W .any base t v := hval0
 have hW' := hW
 obtain ⟨p, q, hA0, hV, rfl, hfz, hnd⟩ := hW
 have hA : DataW.TrodAll enc Tryz.prog W 0 (fun _ => true) true Tryz.f6.params.toList args.toList ds p := hA0
 rw [Tryz.params6] at hA hval
 obtain ⟨v0, vs0, d0, ds0, p0, q0, hargs, rfl, rfl, h0, r0⟩ := trodAll_cons hA
 obtain ⟨v1, vs1, d1, ds1, p1, q1, rfl, rfl, rfl, h1, r1⟩ := trodAll_cons r0
 obtain ⟨v2, vs2, d2, ds2, p2, q2, rfl, rfl, rfl, h2, r2⟩ := trodAll_cons r1
 obtain ⟨v3, vs3, d3, ds3, p3, q3, rfl, rfl, rfl, h3, r3⟩ := trodAll_cons r2
 obtain ⟨rfl, rfl, rfl⟩ := trodAll_nil r3
 obtain rfl : args = #[v0, v1, v2, v3] := by cases args; simp_all
 obtain ⟨rfl, rfl⟩ := trodVars_none hV
 have k0 := h0
 have lt0 : ∀ x ∈ p0, x.block < W.heap.size := by obtain ⟨m, hm⟩ := k0; exact DataW.trod_lt m _ _ _ hm
 obtain ⟨x0, y0, hf0⟩ := open_interval (hval 0 44 v0 rfl rfl) h0
 have k1 := h1
 have lt1 : ∀ x ∈ p1, x.block < W.heap.size := by obtain ⟨m, hm⟩ := k1; exact DataW.trod_lt m _ _ _ hm
 obtain ⟨x1, y1, hf1⟩ := open_interval (hval 1 44 v1 rfl rfl) h1
 obtain ⟨a2, rfl, rfl, rfl, w2⟩ := open_int Tryz.underlying3 (hval 2 3 v2 rfl rfl) h2
 have ⟨w2a, w2b⟩ := Go.Joins.in64_of_wf w2
 obtain ⟨a3, rfl, rfl, rfl, w3⟩ := open_int Tryz.underlying3 (hval 3 3 v3 rfl rfl) h3
 have ⟨w3a, w3b⟩ := Go.Joins.in64_of_wf w3
 clear hA0 hval0
 refine (walkIntervalEncloses a2 a3 w2a w2b w3a w3b hf0 hf1 (tb_of_met (by rw [MakeChecks.laidMetH_plain _ _ _ (by kernel_rfl)] at hL; exact hL))).mono fun e W' hr => ?_
 obtain ⟨vr, he, hvr, bel⟩ := hr
 obtain rfl : vr = .bool true := hvr
 subst he
 exact ⟨_, rfl, _, _, _, [], _, [], hW', trodAll_mk1 (shut_bool Tryz.underlying4 _), (trodAll_cons_mk (Below.trod laidOut (by kernel_rfl) (of_decide_eq_true (by kernel_rfl)) k0 bel lt0) (trodAll_cons_mk (Below.trod laidOut (by kernel_rfl) (of_decide_eq_true (by kernel_rfl)) k1 bel lt1) (trodAll_cons_mk (shut_int Tryz.underlying3 w2) (trodAll_cons_mk (shut_int Tryz.underlying3 w3) trodAll_mk0)))), rfl, bel.frame _, fun h => by cases h⟩

theorem both {a b : Bool} (h1 : a = true) (h2 : b = true) : (a && b) = true := by rw [h1, h2]; rfl

theorem closed : joinedFacts Tryz.prog 6 Tryz.f6 Rows.intervalEnclosesSpec Rows.intervalEnclosesRow = true := by
 unfold joinedFacts
 repeat' with_reducible refine both ?_ ?_
 all_goals (as_aux_lemma => kernel_rfl)

theorem over : Rows.IntervalEnclosesSaid :=
 OpenClaim.holds_of_wide 6 Tryz.f6 rfl rfl rfl rfl rfl rfl rfl ⟨rfl, rfl, rfl, rfl, rfl⟩ rfl rfl rfl rfl rfl (by as_aux_lemma => kernel_rfl) Tryz.func6 closed
   (of_decide_eq_true (by kernel_rfl)) (by unfold Func.isWrapper; first | (rw [if_pos (by decide +kernel)]; kernel_rfl) | (rw [if_neg (by decide +kernel)]; exact ⟨rfl, rfl⟩))
   (fun os started H enc _ => lifted os started H enc)

theorem card : Rows.IntervalEnclosesCardSaid :=
 Claim7.holds_tied_plain_at .later [] [.data] true Rows.intervalEnclosesCard.stood.harness false over (fun _ h => by cases h) (by as_aux_lemma => kernel_rfl) (fun _ h => by cases h) intervalEncloses_row_tie rfl ⟨rfl, rfl⟩ (by as_aux_lemma => kernel_rfl) rfl
   (fun f fn hf hfn => by
     obtain rfl : f = 6 := Option.some.inj ((show Tryz.prog.funcNamed "dspcompiler/dspcompilerlaw04.IntervalEncloses" = some 6 by as_aux_lemma => kernel_rfl).symm.trans hf) |>.symm
     obtain rfl : fn = Tryz.f6 := (Option.some.inj (Tryz.func6.symm.trans hfn)).symm
     exact ⟨by as_aux_lemma => kernel_rfl, fun j t ht => by
       rw [Tryz.params6] at ht
       have hm : t ∈ [44, 44, 3, 3] := by simpa using Array.mem_of_getElem? ht
       have hall : ([44, 44, 3, 3].all fun u => !Tryz.prog.wantsStandIn u) = true := by as_aux_lemma => kernel_rfl
       exact (show Tryz.prog.wantsStandIn t = false by simpa using List.all_eq_true.1 hall t hm)⟩)
   (by as_aux_lemma => kernel_rfl)
end Go.Proofs.YtbjijmjhlpkomaaGreatDoor.intervalEncloses
