/-  -/
import Derived.Test.YtbjijmjhlpkomaaGreatDoorQcf
import Derived.Test.YtbjijmjhlpkomaaGreatDoorTie
import Derived.Test.YtbjijmjhlpkomaaGreatDoorCards
import Derived.SevenTiedAt

set_option linter.unusedVariables false
set_option linter.unusedSimpArgs false
set_option linter.unusedSectionVars false
set_option maxRecDepth 100000
set_option maxHeartbeats 3200000

namespace Go.Proofs.YtbjijmjhlpkomaaGreatDoor
open Go.RowKit Num

theorem walkIntervalGrows {x0 y0 x1 y1 x2 y2 x3 y3 : Bool} {v0 : Value} {v1 : Value} {v2 : Value} {v3 : Value} {w : World}  (pf0 : (mP (mS x0) (mS y0)).S w v0) (pf1 : (mP (mS x1) (mS y1)).S w v1) (pf2 : (mP (mS x2) (mS y2)).S w v2) (pf3 : (mP (mS x3) (mS y3)).S w v3) (hT : Tb w) :
   Calls Tryz.prog 7 #[v0, v1, v2, v3] w (RetS (mV (.bool true)).S w) := by
 obtain ⟨c0, rfl, n0, u0, o0⟩ := (mP.cv (fun _ h => (isS.cv h)) (fun _ h => (isS.cv h)) pf0)
 obtain ⟨c1, rfl, n1, u1, o1⟩ := (mP.cv (fun _ h => (isS.cv h)) (fun _ h => (isS.cv h)) pf1)
 obtain ⟨c2, rfl, n2, u2, o2⟩ := (mP.cv (fun _ h => (isS.cv h)) (fun _ h => (isS.cv h)) pf2)
 obtain ⟨c3, rfl, n3, u3, o3⟩ := (mP.cv (fun _ h => (isS.cv h)) (fun _ h => (isS.cv h)) pf3)
 refine calls_abs 76 Tryz.func7 rfl rfl (by simp) ?_
 intro a0 z0 d0 ha
 have s0_0 : sl a0 0 = .agg c0 := ha 0 (by simp)
 have s0_1 : sl a0 1 = .agg c1 := ha 1 (by simp)
 have s0_2 : sl a0 2 = .agg c2 := ha 2 (by simp)
 have s0_3 : sl a0 3 = .agg c3 := ha 3 (by simp)
 have B0 : Below w.heap.size w w := Below.refl _ _
 refine wp_seq ?_
 refine wp_region_seq 0 (mG []) (by rw [z0]; kernel_rfl) (mG_mono _) (ops_ok trivial) ?_
 intro a1 w2 ms3
 have B4 := B0.trans (ms3.b.mono B0.size)
 have z5 := ms3.sz.trans z0
 have d6 := ms3.df.trans d0
 have s7 := (ms3.fr 0 (out_of (by kernel_rfl))).trans s0_0
 have s8 := (ms3.fr 1 (out_of (by kernel_rfl))).trans s0_1
 have s9 := (ms3.fr 2 (out_of (by kernel_rfl))).trans s0_2
 have s10 := (ms3.fr 3 (out_of (by kernel_rfl))).trans s0_3
 refine tl_new rfl rfl (run_box_op rfl (ev s7)) (by rw [z5]; decide) ?_
 intro a11 w12 g13 z14 d15 s16 fr17 hg18 hc19 hb20
 have z21 := z14.trans z5
 have d22 := d15.trans d6
 have s24 := (fr17 1 (by decide)).trans s8
 have s25 := (fr17 2 (by decide)).trans s9
 have s26 := (fr17 3 (by decide)).trans s10
 have B27 := B4.trans (hb20.mono B4.size)
 have lw29 : w.heap.size ≤ g13 := by have := B4.size; omega
 have x28 : bx 44 6 (mP (mS x0) (mS y0)) w12 g13 := ⟨c0, hc19, n0, u0, o0, (mP (mS x0) (mS y0)).mono _ _ _ (Ext.of B27) pf0⟩
 refine tl_new rfl rfl (run_box_op rfl (ev s24)) (by rw [z21]; decide) ?_
 intro a30 w31 g32 z33 d34 s35 fr36 hg37 hc38 hb39
 have z40 := z33.trans z21
 have d41 := d34.trans d22
 have s44 := (fr36 2 (by decide)).trans s25
 have s45 := (fr36 3 (by decide)).trans s26
 have s46 := (fr36 4 (by decide)).trans s16
 have B47 := B27.trans (hb39.mono B27.size)
 have ne49 : g13 ≠ g32 := by have := x28.lt; omega
 have x48 := bx.below hb39 x28
 have lw51 : w.heap.size ≤ g32 := by have := B27.size; omega
 have x50 : bx 44 6 (mP (mS x1) (mS y1)) w31 g32 := ⟨c1, hc38, n1, u1, o1, (mP (mS x1) (mS y1)).mono _ _ _ (Ext.of B47) pf1⟩
 refine tl_new rfl rfl (run_box_op rfl (ev s44)) (by rw [z40]; decide) ?_
 intro a52 w53 g54 z55 d56 s57 fr58 hg59 hc60 hb61
 have z62 := z55.trans z40
 have d63 := d56.trans d41
 have s67 := (fr58 3 (by decide)).trans s45
 have s68 := (fr58 4 (by decide)).trans s46
 have s69 := (fr58 5 (by decide)).trans s35
 have B70 := B47.trans (hb61.mono B47.size)
 have ne72 : g13 ≠ g54 := by have := x48.lt; omega
 have x71 := bx.below hb61 x48
 have ne74 : g32 ≠ g54 := by have := x50.lt; omega
 have x73 := bx.below hb61 x50
 have lw76 : w.heap.size ≤ g54 := by have := B47.size; omega
 have x75 : bx 44 6 (mP (mS x2) (mS y2)) w53 g54 := ⟨c2, hc60, n2, u2, o2, (mP (mS x2) (mS y2)).mono _ _ _ (Ext.of B70) pf2⟩
 refine tl_new rfl rfl (run_box_op rfl (ev s67)) (by rw [z62]; decide) ?_
 intro a77 w78 g79 z80 d81 s82 fr83 hg84 hc85 hb86
 have z87 := z80.trans z62
 have d88 := d81.trans d63
 have s93 := (fr83 4 (by decide)).trans s68
 have s94 := (fr83 5 (by decide)).trans s69
 have s95 := (fr83 6 (by decide)).trans s57
 have B96 := B70.trans (hb86.mono B70.size)
 have ne98 : g13 ≠ g79 := by have := x71.lt; omega
 have x97 := bx.below hb86 x71
 have ne100 : g32 ≠ g79 := by have := x73.lt; omega
 have x99 := bx.below hb86 x73
 have ne102 : g54 ≠ g79 := by have := x75.lt; omega
 have x101 := bx.below hb86 x75
 have lw104 : w.heap.size ≤ g79 := by have := B70.size; omega
 have x103 : bx 44 6 (mP (mS x3) (mS y3)) w78 g79 := ⟨c3, hc85, n3, u3, o3, (mP (mS x3) (mS y3)).mono _ _ _ (Ext.of B96) pf3⟩
 refine tl_set rfl rfl (run_assign rfl) (by rw [z87]; decide) ?_
 intro a105 z106 d107 s108 fr109
 have z111 := z106.trans z87
 have d112 := d107.trans d88
 have s117 := (fr109 4 (by decide)).trans s93
 have s118 := (fr109 5 (by decide)).trans s94
 have s119 := (fr109 6 (by decide)).trans s95
 have s120 := (fr109 7 (by decide)).trans s82
 refine wpList_nil (then_normal ?_)
 refine wp_seq ?_
 refine wp_seq ?_
 refine wp_region_seq 18 (mG [(mP (mS x0) (mS y0)).b, (mV (.bool (x0 && y0))).b, (mV (.bool (!(x0 && y0)))).b, (mV (.bool (!(x0 && y0)))).b, (mIf (!(!(x0 && y0))) (mP (mS x1) (mS y1))).b, (mIf (!(!(x0 && y0))) (mV (.bool (x1 && y1)))).b, (mIf (!(!(x0 && y0))) (mV (.bool (!(x1 && y1))))).b, (mV (.bool ((!(x0 && y0)) || (!(x1 && y1))))).b, (mV (.bool ((!(x0 && y0)) || (!(x1 && y1))))).b, (mIf (!((!(x0 && y0)) || (!(x1 && y1)))) (mP (mS x2) (mS y2))).b, (mIf (!((!(x0 && y0)) || (!(x1 && y1)))) (mV (.bool (x2 && y2)))).b, (mIf (!((!(x0 && y0)) || (!(x1 && y1)))) (mV (.bool (!(x2 && y2))))).b, (mV (.bool (((!(x0 && y0)) || (!(x1 && y1))) || (!(x2 && y2))))).b, (mV (.bool (((!(x0 && y0)) || (!(x1 && y1))) || (!(x2 && y2))))).b, (mIf (!(((!(x0 && y0)) || (!(x1 && y1))) || (!(x2 && y2)))) (mP (mS x3) (mS y3))).b, (mIf (!(((!(x0 && y0)) || (!(x1 && y1))) || (!(x2 && y2)))) (mV (.bool (x3 && y3)))).b, (mIf (!(((!(x0 && y0)) || (!(x1 && y1))) || (!(x2 && y2)))) (mV (.bool (!(x3 && y3))))).b, (mV (.bool ((((!(x0 && y0)) || (!(x1 && y1))) || (!(x2 && y2))) || (!(x3 && y3))))).b]) (by rw [z111]; kernel_rfl) (mG_mono _) (ops_ok ⟨?_, ?_, ?_, ?_, ?_, ?_, ?_, ?_, ?_, ?_, ?_, ?_, ?_, ?_, ?_, ?_, ?_, ?_, trivial⟩) ?_
 · refine opk_pure rfl rfl fun a w hb hf hd => ?_
   obtain ⟨cs, h1, h2, h3, h4, h5⟩ := bx.below hb x97
   exact ⟨_, run_load_row _ _ rfl (ev ((hf 4 (out_of (by kernel_rfl))).trans s117)) h1 Tryz.underlying44 rfl (by rw [h2]; exact info_Interval), fun _ _ => h5⟩
 · refine opk_call rfl rfl fun a w hb hf hd => ?_
   have e0 : a.eval (.tmp 11) = sl a 11 := rfl
   exact ⟨24, #[sl a 11], run_call rfl rfl (fun _ _ => by kernel_rfl) (args_1 e0), (k_smallon (hd.at 0 rfl rfl rfl rfl)).mono fun _ _ r => RetS.imp (fun _ _ h => fun _ _ => h) r⟩
 · exact opk_pure rfl rfl fun a w hb hf hd => ⟨_, run_not rfl (ev (hd.at 0 rfl rfl rfl rfl)), fun _ _ => rfl⟩
 · exact opk_pure rfl rfl fun a w hb hf hd => ⟨_, run_move rfl, fun _ _ => (hd.at 0 rfl rfl rfl rfl)⟩
 · refine opk_guard (!(x0 && y0)) rfl rfl rfl rfl (by rw [z111]; decide) (fun a w hb hf hd => (hd.at 0 rfl rfl rfl rfl)) (fun hne _ hγ => absurd (by simpa using hγ) hne) (fun hγ0 => ?_)
   have hγ : (!(!(x0 && y0))) = true := by rw [hγ0]; rfl
   refine opk_pure rfl rfl fun a w hb hf hd => ?_
   obtain ⟨cs, h1, h2, h3, h4, h5⟩ := bx.below hb x99
   exact ⟨_, run_load_row _ _ rfl (ev ((hf 5 (out_of (by kernel_rfl))).trans s118)) h1 Tryz.underlying44 rfl (by rw [h2]; exact info_Interval), fun _ _ _ => h5⟩
 · refine opk_guard (!(x0 && y0)) rfl rfl rfl rfl (by rw [z111]; decide) (fun a w hb hf hd => (hd.at 1 rfl rfl rfl rfl)) (fun hne _ hγ => absurd (by simpa using hγ) hne) (fun hγ0 => ?_)
   have hγ : (!(!(x0 && y0))) = true := by rw [hγ0]; rfl
   refine opk_call rfl rfl fun a w hb hf hd => ?_
   have e0 : a.eval (.tmp 15) = sl a 15 := rfl
   exact ⟨24, #[sl a 15], run_call rfl rfl (fun _ _ => by kernel_rfl) (args_1 e0), (k_smallon ((hd.at 0 rfl rfl rfl rfl) hγ)).mono fun _ _ r => RetS.imp (fun _ _ h => fun _ _ _ => h) r⟩
 · refine opk_guard (!(x0 && y0)) rfl rfl rfl rfl (by rw [z111]; decide) (fun a w hb hf hd => (hd.at 1 rfl rfl rfl rfl)) (fun hne _ hγ => absurd (by simpa using hγ) hne) (fun hγ0 => ?_)
   have hγ : (!(!(x0 && y0))) = true := by rw [hγ0]; rfl
   exact opk_pure rfl rfl fun a w hb hf hd => ⟨_, run_not rfl (ev ((hd.at 0 rfl rfl rfl rfl) hγ)), fun _ _ _ => rfl⟩
 · exact opk_pure rfl rfl fun a w hb hf hd => ⟨_, run_pick rfl (ev (hd.at 0 rfl rfl rfl rfl)), fun _ _ => pick_or fun h => (hd.at 1 rfl rfl rfl rfl) (by rw [h]; rfl)⟩
 · exact opk_pure rfl rfl fun a w hb hf hd => ⟨_, run_move rfl, fun _ _ => (hd.at 0 rfl rfl rfl rfl)⟩
 · refine opk_guard ((!(x0 && y0)) || (!(x1 && y1))) rfl rfl rfl rfl (by rw [z111]; decide) (fun a w hb hf hd => (hd.at 0 rfl rfl rfl rfl)) (fun hne _ hγ => absurd (by simpa using hγ) hne) (fun hγ0 => ?_)
   have hγ : (!((!(x0 && y0)) || (!(x1 && y1)))) = true := by rw [hγ0]; rfl
   refine opk_pure rfl rfl fun a w hb hf hd => ?_
   obtain ⟨cs, h1, h2, h3, h4, h5⟩ := bx.below hb x101
   exact ⟨_, run_load_row _ _ rfl (ev ((hf 6 (out_of (by kernel_rfl))).trans s119)) h1 Tryz.underlying44 rfl (by rw [h2]; exact info_Interval), fun _ _ _ => h5⟩
 · refine opk_guard ((!(x0 && y0)) || (!(x1 && y1))) rfl rfl rfl rfl (by rw [z111]; decide) (fun a w hb hf hd => (hd.at 1 rfl rfl rfl rfl)) (fun hne _ hγ => absurd (by simpa using hγ) hne) (fun hγ0 => ?_)
   have hγ : (!((!(x0 && y0)) || (!(x1 && y1)))) = true := by rw [hγ0]; rfl
   refine opk_call rfl rfl fun a w hb hf hd => ?_
   have e0 : a.eval (.tmp 20) = sl a 20 := rfl
   exact ⟨24, #[sl a 20], run_call rfl rfl (fun _ _ => by kernel_rfl) (args_1 e0), (k_smallon ((hd.at 0 rfl rfl rfl rfl) hγ)).mono fun _ _ r => RetS.imp (fun _ _ h => fun _ _ _ => h) r⟩
 · refine opk_guard ((!(x0 && y0)) || (!(x1 && y1))) rfl rfl rfl rfl (by rw [z111]; decide) (fun a w hb hf hd => (hd.at 1 rfl rfl rfl rfl)) (fun hne _ hγ => absurd (by simpa using hγ) hne) (fun hγ0 => ?_)
   have hγ : (!((!(x0 && y0)) || (!(x1 && y1)))) = true := by rw [hγ0]; rfl
   exact opk_pure rfl rfl fun a w hb hf hd => ⟨_, run_not rfl (ev ((hd.at 0 rfl rfl rfl rfl) hγ)), fun _ _ _ => rfl⟩
 · exact opk_pure rfl rfl fun a w hb hf hd => ⟨_, run_pick rfl (ev (hd.at 0 rfl rfl rfl rfl)), fun _ _ => pick_or fun h => (hd.at 1 rfl rfl rfl rfl) (by rw [h]; rfl)⟩
 · exact opk_pure rfl rfl fun a w hb hf hd => ⟨_, run_move rfl, fun _ _ => (hd.at 0 rfl rfl rfl rfl)⟩
 · refine opk_guard (((!(x0 && y0)) || (!(x1 && y1))) || (!(x2 && y2))) rfl rfl rfl rfl (by rw [z111]; decide) (fun a w hb hf hd => (hd.at 0 rfl rfl rfl rfl)) (fun hne _ hγ => absurd (by simpa using hγ) hne) (fun hγ0 => ?_)
   have hγ : (!(((!(x0 && y0)) || (!(x1 && y1))) || (!(x2 && y2)))) = true := by rw [hγ0]; rfl
   refine opk_pure rfl rfl fun a w hb hf hd => ?_
   obtain ⟨cs, h1, h2, h3, h4, h5⟩ := bx.below hb x103
   exact ⟨_, run_load_row _ _ rfl (ev ((hf 7 (out_of (by kernel_rfl))).trans s120)) h1 Tryz.underlying44 rfl (by rw [h2]; exact info_Interval), fun _ _ _ => h5⟩
 · refine opk_guard (((!(x0 && y0)) || (!(x1 && y1))) || (!(x2 && y2))) rfl rfl rfl rfl (by rw [z111]; decide) (fun a w hb hf hd => (hd.at 1 rfl rfl rfl rfl)) (fun hne _ hγ => absurd (by simpa using hγ) hne) (fun hγ0 => ?_)
   have hγ : (!(((!(x0 && y0)) || (!(x1 && y1))) || (!(x2 && y2)))) = true := by rw [hγ0]; rfl
   refine opk_call rfl rfl fun a w hb hf hd => ?_
   have e0 : a.eval (.tmp 25) = sl a 25 := rfl
   exact ⟨24, #[sl a 25], run_call rfl rfl (fun _ _ => by kernel_rfl) (args_1 e0), (k_smallon ((hd.at 0 rfl rfl rfl rfl) hγ)).mono fun _ _ r => RetS.imp (fun _ _ h => fun _ _ _ => h) r⟩
 · refine opk_guard (((!(x0 && y0)) || (!(x1 && y1))) || (!(x2 && y2))) rfl rfl rfl rfl (by rw [z111]; decide) (fun a w hb hf hd => (hd.at 1 rfl rfl rfl rfl)) (fun hne _ hγ => absurd (by simpa using hγ) hne) (fun hγ0 => ?_)
   have hγ : (!(((!(x0 && y0)) || (!(x1 && y1))) || (!(x2 && y2)))) = true := by rw [hγ0]; rfl
   exact opk_pure rfl rfl fun a w hb hf hd => ⟨_, run_not rfl (ev ((hd.at 0 rfl rfl rfl rfl) hγ)), fun _ _ _ => rfl⟩
 · exact opk_pure rfl rfl fun a w hb hf hd => ⟨_, run_pick rfl (ev (hd.at 0 rfl rfl rfl rfl)), fun _ _ => pick_or fun h => (hd.at 1 rfl rfl rfl rfl) (by rw [h]; rfl)⟩
 intro a121 w122 ms123
 have B124 := B96.trans (ms123.b.mono B96.size)
 have z125 := ms123.sz.trans z111
 have d126 := ms123.df.trans d112
 have s127 := (ms123.fr 4 (out_of (by kernel_rfl))).trans s117
 have s128 := (ms123.fr 5 (out_of (by kernel_rfl))).trans s118
 have s129 := (ms123.fr 6 (out_of (by kernel_rfl))).trans s119
 have s130 := (ms123.fr 7 (out_of (by kernel_rfl))).trans s120
 have x132 := bx.below ms123.b x97
 have x133 := bx.below ms123.b x99
 have x134 := bx.below ms123.b x101
 have x135 := bx.below ms123.b x103
 have s136 : sl a121 28 = .bool ((((!(x0 && y0)) || (!(x1 && y1))) || (!(x2 && y2))) || (!(x3 && y3))) := ms123.g 17 _ 28 rfl (by decide) trivial rfl
 refine wpList_nil (then_normal ?_)
 refine cond_b ((((!(x0 && y0)) || (!(x1 && y1))) || (!(x2 && y2))) || (!(x3 && y3))) (ev s136) (fun hb137 => ?_) (fun hb137 => ?_)
 · skip
   refine wp_seq ?_
   refine wp_region_seq 1 (mG [(mV (.bool true)).b]) (by rw [z125]; kernel_rfl) (mG_mono _) (ops_ok ⟨?_, trivial⟩) ?_
   · refine opk_call rfl rfl fun a w hb hf hd => ?_
     exact ⟨25, #[], run_call rfl rfl (fun _ _ => by kernel_rfl) args_0, (awake4_any (hT.below (B124.trans (hb.mono B124.size)))).mono fun _ _ r => RetS.imp (fun _ _ h => fun _ _ => h) r⟩
   intro a138 w139 ms140
   have B141 := B124.trans (ms140.b.mono B124.size)
   have z142 := ms140.sz.trans z125
   have d143 := ms140.df.trans d126
   have x150 := bx.below ms140.b x132
   have x151 := bx.below ms140.b x133
   have x152 := bx.below ms140.b x134
   have x153 := bx.below ms140.b x135
   have s154 : sl a138 29 = .bool true := ms140.g 0 _ 29 rfl (by decide) trivial rfl
   refine tl_set rfl rfl (run_assign rfl) (by rw [z142]; decide) ?_
   intro a155 z156 d157 s158 fr159
   have s160 := s158.trans s154
   have d162 := d157.trans d143
   refine wpList_nil (then_normal ?_)
   refine wp_ret ?_
   exact end_tmp rfl d162 B141 s160
 · skip
   have hq := hb137
   simp only [Bool.or_eq_false_iff, Bool.not_eq_false', Bool.and_eq_true] at hq
   obtain ⟨⟨⟨⟨hx0, hy0⟩, hx1, hy1⟩, hx2, hy2⟩, hx3, hy3⟩ := hq
   obtain ⟨paa, qaa, caa, daa, x169⟩ := bx_small x132 hx0 hy0
   obtain ⟨pbb, qbb, cbb, dbb, x170⟩ := bx_small x133 hx1 hy1
   obtain ⟨pcc, qcc, ccc, dcc, x171⟩ := bx_small x134 hx2 hy2
   obtain ⟨pdd, qdd, cdd, ddd, x172⟩ := bx_small x135 hx3 hy3
   refine wp_skip (then_normal ?_)
   refine wp_seq ?_
   refine wp_region_mono 8 [] (mG [(mP (mK paa 4 caa) (mK qaa 4 daa)).b, (mP (mK pcc 4 ccc) (mK qcc 4 dcc)).b, (mP (mC (mnQ (mnQ paa qaa) (mnQ pcc qcc)) 17) (mC (mxQ (mxQ paa qaa) (mxQ pcc qcc)) 17)).b, (mP (mK pbb 4 cbb) (mK qbb 4 dbb)).b, (mP (mK pdd 4 cdd) (mK qdd 4 ddd)).b, (mP (mC (mnQ (mnQ pbb qbb) (mnQ pdd qdd)) 17) (mC (mxQ (mxQ pbb qbb) (mxQ pdd qdd)) 17)).b, (mNew w122.heap.size 44 6), (mNew w122.heap.size 44 6)]) (by kernel_rfl) (by rw [z125]; kernel_rfl) (fun h => absurd rfl h) (mG_mono _) (ops_ok ⟨?_, ?_, ?_, ?_, ?_, ?_, ?_, ?_, trivial⟩) ?_
   · refine opk_pure rfl rfl fun a w hb hf hd => ?_
     obtain ⟨cs, h1, h2, h3, h4, h5⟩ := bx.below hb x169
     exact ⟨_, run_load_row _ _ rfl (ev ((hf 4 (out_of (by kernel_rfl))).trans s127)) h1 Tryz.underlying44 rfl (by rw [h2]; exact info_Interval), fun _ _ => h5⟩
   · refine opk_pure rfl rfl fun a w hb hf hd => ?_
     obtain ⟨cs, h1, h2, h3, h4, h5⟩ := bx.below hb x171
     exact ⟨_, run_load_row _ _ rfl (ev ((hf 6 (out_of (by kernel_rfl))).trans s129)) h1 Tryz.underlying44 rfl (by rw [h2]; exact info_Interval), fun _ _ => h5⟩
   · refine opk_call rfl rfl fun a w hb hf hd => ?_
     have e0 : a.eval (.tmp 30) = sl a 30 := rfl
     have e1 : a.eval (.tmp 31) = sl a 31 := rfl
     exact ⟨57, #[sl a 30, sl a 31], run_call rfl rfl (fun _ _ => by kernel_rfl) (args_2 e0 e1), (iv_hull  (by omega) (by omega) (mP_imp (m1' := (mR paa 4)) (m2' := (mR qaa 4)) (fun _ h => (isK.r h)) (fun _ h => (isK.r h)) (hd.at 0 rfl rfl rfl rfl)) (mP_imp (m1' := (mR pcc 4)) (m2' := (mR qcc 4)) (fun _ h => (isK.r h)) (fun _ h => (isK.r h)) (hd.at 1 rfl rfl rfl rfl)) (hT.below (B124.trans (hb.mono B124.size)))).mono fun _ _ r => RetS.imp (fun _ _ h => fun _ _ => (mP_imp (fun _ h => (isC.mono h (by omega))) (fun _ h => (isC.mono h (by omega))) h)) r⟩
   · refine opk_pure rfl rfl fun a w hb hf hd => ?_
     obtain ⟨cs, h1, h2, h3, h4, h5⟩ := bx.below hb x170
     exact ⟨_, run_load_row _ _ rfl (ev ((hf 5 (out_of (by kernel_rfl))).trans s128)) h1 Tryz.underlying44 rfl (by rw [h2]; exact info_Interval), fun _ _ => h5⟩
   · refine opk_pure rfl rfl fun a w hb hf hd => ?_
     obtain ⟨cs, h1, h2, h3, h4, h5⟩ := bx.below hb x172
     exact ⟨_, run_load_row _ _ rfl (ev ((hf 7 (out_of (by kernel_rfl))).trans s130)) h1 Tryz.underlying44 rfl (by rw [h2]; exact info_Interval), fun _ _ => h5⟩
   · refine opk_call rfl rfl fun a w hb hf hd => ?_
     have e0 : a.eval (.tmp 33) = sl a 33 := rfl
     have e1 : a.eval (.tmp 34) = sl a 34 := rfl
     exact ⟨57, #[sl a 33, sl a 34], run_call rfl rfl (fun _ _ => by kernel_rfl) (args_2 e0 e1), (iv_hull  (by omega) (by omega) (mP_imp (m1' := (mR pbb 4)) (m2' := (mR qbb 4)) (fun _ h => (isK.r h)) (fun _ h => (isK.r h)) (hd.at 0 rfl rfl rfl rfl)) (mP_imp (m1' := (mR pdd 4)) (m2' := (mR qdd 4)) (fun _ h => (isK.r h)) (fun _ h => (isK.r h)) (hd.at 1 rfl rfl rfl rfl)) (hT.below (B124.trans (hb.mono B124.size)))).mono fun _ _ r => RetS.imp (fun _ _ h => fun _ _ => (mP_imp (fun _ h => (isC.mono h (by omega))) (fun _ h => (isC.mono h (by omega))) h)) r⟩
   · refine opk_alloc rfl fun a w hb hf hd => ⟨_, _, run_alloc_op rfl zero_Interval, below_alloc _ _, fun _ _ => ⟨_, rfl, hb.size, bx_Interval (heap_alloc_at _ _)⟩, fun _ => ⟨_, rfl, Nat.le_refl _, by simp⟩⟩
   · refine opk_alloc rfl fun a w hb hf hd => ⟨_, _, run_alloc_op rfl zero_Interval, below_alloc _ _, fun _ _ => ⟨_, rfl, hb.size, bx_Interval (heap_alloc_at _ _)⟩, fun _ => ⟨_, rfl, Nat.le_refl _, by simp⟩⟩
   intro a173 w174 ms175
   have B176 := B124.trans (ms175.b.mono B124.size)
   have z177 := ms175.sz.trans z125
   have d178 := ms175.df.trans d126
   have s179 := (ms175.fr 4 (out_of (by kernel_rfl))).trans s127
   have s180 := (ms175.fr 5 (out_of (by kernel_rfl))).trans s128
   have x185 := bx.below ms175.b x169
   have x186 := bx.below ms175.b x170
   have x187 := bx.below ms175.b x171
   have x188 := bx.below ms175.b x172
   have s189 : (mP (mC (mnQ (mnQ paa qaa) (mnQ pcc qcc)) 17) (mC (mxQ (mxQ paa qaa) (mxQ pcc qcc)) 17)).S w174 (sl a173 32) := ms175.g 2 _ 32 rfl (by decide) trivial rfl
   have s190 : (mP (mC (mnQ (mnQ pbb qbb) (mnQ pdd qdd)) 17) (mC (mxQ (mxQ pbb qbb) (mxQ pdd qdd)) 17)).S w174 (sl a173 35) := ms175.g 5 _ 35 rfl (by decide) trivial rfl
   obtain ⟨g192, s191, e194, x193⟩ := ms175.g 6 _ 9 rfl (by decide) trivial rfl
   have ne195 : g13 ≠ g192 := by have := x169.lt; omega
   have ne196 : g32 ≠ g192 := by have := x170.lt; omega
   have ne197 : g54 ≠ g192 := by have := x171.lt; omega
   have ne198 : g79 ≠ g192 := by have := x172.lt; omega
   have lw199 : w.heap.size ≤ g192 := by have := B124.size; omega
   obtain ⟨g201, s200, e203, x202⟩ := ms175.g 7 _ 10 rfl (by decide) trivial rfl
   have ne204 : g13 ≠ g201 := by have := x169.lt; omega
   have ne205 : g32 ≠ g201 := by have := x170.lt; omega
   have ne206 : g54 ≠ g201 := by have := x171.lt; omega
   have ne207 : g79 ≠ g201 := by have := x172.lt; omega
   have lw208 : w.heap.size ≤ g201 := by have := B124.size; omega
   have ne209 : g192 ≠ g201 := fun e => ms175.ne 6 _ 9 7 _ 10 rfl (by decide) trivial rfl rfl rfl (by decide) trivial rfl rfl (by decide) (by rw [s191, s200, e])
   refine tl_put rfl rfl rfl (m' := (mP (mC (mnQ (mnQ paa qaa) (mnQ pcc qcc)) 17) (mC (mxQ (mxQ paa qaa) (mxQ pcc qcc)) 17))) x193 (ev s191) s189 (mP.cv (fun _ h => (isC.cv h)) (fun _ h => (isC.cv h)) s189) info_Interval ?_
   intro w210 x211 ex212 ot213 bl214
   have B215 := bl214 w (by omega) B176
   have x216 := ot213 (by omega) x185
   have x217 := ot213 (by omega) x186
   have x218 := ot213 (by omega) x187
   have x219 := ot213 (by omega) x188
   have x220 := ot213 (by omega) x202
   have s221 := (mP (mC (mnQ (mnQ paa qaa) (mnQ pcc qcc)) 17) (mC (mxQ (mxQ paa qaa) (mxQ pcc qcc)) 17)).mono _ _ _ ex212 s189
   have s222 := (mP (mC (mnQ (mnQ pbb qbb) (mnQ pdd qdd)) 17) (mC (mxQ (mxQ pbb qbb) (mxQ pdd qdd)) 17)).mono _ _ _ ex212 s190
   refine tl_put rfl rfl rfl (m' := (mP (mC (mnQ (mnQ pbb qbb) (mnQ pdd qdd)) 17) (mC (mxQ (mxQ pbb qbb) (mxQ pdd qdd)) 17))) x220 (ev s200) s222 (mP.cv (fun _ h => (isC.cv h)) (fun _ h => (isC.cv h)) s222) info_Interval ?_
   intro w223 x224 ex225 ot226 bl227
   have B228 := bl227 w (by omega) B215
   have x229 := ot226 (by omega) x211
   have x230 := ot226 (by omega) x216
   have x231 := ot226 (by omega) x217
   have x232 := ot226 (by omega) x218
   have x233 := ot226 (by omega) x219
   have s234 := (mP (mC (mnQ (mnQ paa qaa) (mnQ pcc qcc)) 17) (mC (mxQ (mxQ paa qaa) (mxQ pcc qcc)) 17)).mono _ _ _ ex225 s221
   have s235 := (mP (mC (mnQ (mnQ pbb qbb) (mnQ pdd qdd)) 17) (mC (mxQ (mxQ pbb qbb) (mxQ pdd qdd)) 17)).mono _ _ _ ex225 s222
   refine wpList_nil (then_normal ?_)
   refine wp_seq ?_
   refine wp_region_mono 40 [] (mG [(mV (.bool true)).b, (mV (.bool true)).b, (mP (mK paa 4 caa) (mK qaa 4 daa)).b, (mP (mC (mnQ (mnQ paa qaa) (mnQ pcc qcc)) 17) (mC (mxQ (mxQ paa qaa) (mxQ pcc qcc)) 17)).b, (mV (.bool true)).b, (mV (.bool true)).b, (mV (.bool true)).b, (mP (mK paa 4 caa) (mK qaa 4 daa)).b, (mP (mK pbb 4 cbb) (mK qbb 4 dbb)).b, (mP (mC ((mnQ paa qaa) + (mnQ pbb qbb)) 11) (mC ((mxQ paa qaa) + (mxQ pbb qbb)) 11)).b, (mP (mC (mnQ (mnQ paa qaa) (mnQ pcc qcc)) 17) (mC (mxQ (mxQ paa qaa) (mxQ pcc qcc)) 17)).b, (mP (mC (mnQ (mnQ pbb qbb) (mnQ pdd qdd)) 17) (mC (mxQ (mxQ pbb qbb) (mxQ pdd qdd)) 17)).b, (mP (mC ((mnQ (mnQ (mnQ paa qaa) (mnQ pcc qcc)) (mxQ (mxQ paa qaa) (mxQ pcc qcc))) + (mnQ (mnQ (mnQ pbb qbb) (mnQ pdd qdd)) (mxQ (mxQ pbb qbb) (mxQ pdd qdd)))) 37) (mC ((mxQ (mnQ (mnQ paa qaa) (mnQ pcc qcc)) (mxQ (mxQ paa qaa) (mxQ pcc qcc))) + (mxQ (mnQ (mnQ pbb qbb) (mnQ pdd qdd)) (mxQ (mxQ pbb qbb) (mxQ pdd qdd)))) 37)).b, (mV (.bool true)).b, (mV (.bool true)).b, (mV (.bool true)).b, (mP (mK paa 4 caa) (mK qaa 4 daa)).b, (mP (mK pbb 4 cbb) (mK qbb 4 dbb)).b, (mP (mC ((mnQ paa qaa) - (mxQ pbb qbb)) 11) (mC ((mxQ paa qaa) - (mnQ pbb qbb)) 11)).b, (mP (mC (mnQ (mnQ paa qaa) (mnQ pcc qcc)) 17) (mC (mxQ (mxQ paa qaa) (mxQ pcc qcc)) 17)).b, (mP (mC (mnQ (mnQ pbb qbb) (mnQ pdd qdd)) 17) (mC (mxQ (mxQ pbb qbb) (mxQ pdd qdd)) 17)).b, (mP (mC ((mnQ (mnQ (mnQ paa qaa) (mnQ pcc qcc)) (mxQ (mxQ paa qaa) (mxQ pcc qcc))) - (mxQ (mnQ (mnQ pbb qbb) (mnQ pdd qdd)) (mxQ (mxQ pbb qbb) (mxQ pdd qdd)))) 37) (mC ((mxQ (mnQ (mnQ paa qaa) (mnQ pcc qcc)) (mxQ (mxQ paa qaa) (mxQ pcc qcc))) - (mnQ (mnQ (mnQ pbb qbb) (mnQ pdd qdd)) (mxQ (mxQ pbb qbb) (mxQ pdd qdd)))) 37)).b, (mV (.bool true)).b, (mV (.bool true)).b, (mV (.bool true)).b, (mP (mK paa 4 caa) (mK qaa 4 daa)).b, (mP (mK pbb 4 cbb) (mK qbb 4 dbb)).b, (mP (mC (mn4 (paa * pbb) (paa * qbb) (qaa * pbb) (qaa * qbb)) 11) (mC (mx4 (paa * pbb) (paa * qbb) (qaa * pbb) (qaa * qbb)) 11)).b, (mP (mC (mnQ (mnQ paa qaa) (mnQ pcc qcc)) 17) (mC (mxQ (mxQ paa qaa) (mxQ pcc qcc)) 17)).b, (mP (mC (mnQ (mnQ pbb qbb) (mnQ pdd qdd)) 17) (mC (mxQ (mxQ pbb qbb) (mxQ pdd qdd)) 17)).b, (mP (mC (mn4 ((mnQ (mnQ paa qaa) (mnQ pcc qcc)) * (mnQ (mnQ pbb qbb) (mnQ pdd qdd))) ((mnQ (mnQ paa qaa) (mnQ pcc qcc)) * (mxQ (mxQ pbb qbb) (mxQ pdd qdd))) ((mxQ (mxQ paa qaa) (mxQ pcc qcc)) * (mnQ (mnQ pbb qbb) (mnQ pdd qdd))) ((mxQ (mxQ paa qaa) (mxQ pcc qcc)) * (mxQ (mxQ pbb qbb) (mxQ pdd qdd)))) 37) (mC (mx4 ((mnQ (mnQ paa qaa) (mnQ pcc qcc)) * (mnQ (mnQ pbb qbb) (mnQ pdd qdd))) ((mnQ (mnQ paa qaa) (mnQ pcc qcc)) * (mxQ (mxQ pbb qbb) (mxQ pdd qdd))) ((mxQ (mxQ paa qaa) (mxQ pcc qcc)) * (mnQ (mnQ pbb qbb) (mnQ pdd qdd))) ((mxQ (mxQ paa qaa) (mxQ pcc qcc)) * (mxQ (mxQ pbb qbb) (mxQ pdd qdd)))) 37)).b, (mV (.bool true)).b, (mV (.bool true)).b, (mV (.bool true)).b, (mP (mK paa 4 caa) (mK qaa 4 daa)).b, (mP (mC (sqL paa qaa) 13) (mC (mxQ (paa * paa) (qaa * qaa)) 13)).b, (mP (mC (mnQ (mnQ paa qaa) (mnQ pcc qcc)) 17) (mC (mxQ (mxQ paa qaa) (mxQ pcc qcc)) 17)).b, (mP (mC (sqL (mnQ (mnQ paa qaa) (mnQ pcc qcc)) (mxQ (mxQ paa qaa) (mxQ pcc qcc))) 39) (mC (mxQ ((mnQ (mnQ paa qaa) (mnQ pcc qcc)) * (mnQ (mnQ paa qaa) (mnQ pcc qcc))) ((mxQ (mxQ paa qaa) (mxQ pcc qcc)) * (mxQ (mxQ paa qaa) (mxQ pcc qcc)))) 39)).b, (mV (.bool true)).b, (mV (.bool true)).b]) (by kernel_rfl) (by rw [z177]; kernel_rfl) (fun h => absurd rfl h) (mG_mono _) (ops_ok ⟨?_, ?_, ?_, ?_, ?_, ?_, ?_, ?_, ?_, ?_, ?_, ?_, ?_, ?_, ?_, ?_, ?_, ?_, ?_, ?_, ?_, ?_, ?_, ?_, ?_, ?_, ?_, ?_, ?_, ?_, ?_, ?_, ?_, ?_, ?_, ?_, ?_, ?_, ?_, ?_, trivial⟩) ?_
   · refine opk_call rfl rfl fun a w hb hf hd => ?_
     exact ⟨25, #[], run_call rfl rfl (fun _ _ => by kernel_rfl) args_0, (awake4_any (hT.below (B228.trans (hb.mono B228.size)))).mono fun _ _ r => RetS.imp (fun _ _ h => fun _ _ => h) r⟩
   · exact opk_pure rfl rfl fun a w hb hf hd => ⟨_, run_move rfl, fun _ _ => (hd.at 0 rfl rfl rfl rfl)⟩
   · refine opk_guard true rfl rfl rfl rfl (by rw [z177]; decide) (fun a w hb hf hd => (hd.at 0 rfl rfl rfl rfl)) (fun h => absurd rfl h) (fun _ => ?_)
     refine opk_pure rfl rfl fun a w hb hf hd => ?_
     obtain ⟨cs, h1, h2, h3, h4, h5⟩ := bx.below hb x230
     exact ⟨_, run_load_row _ _ rfl (ev ((hf 4 (out_of (by kernel_rfl))).trans s179)) h1 Tryz.underlying44 rfl (by rw [h2]; exact info_Interval), fun _ _ => h5⟩
   · refine opk_guard true rfl rfl rfl rfl (by rw [z177]; decide) (fun a w hb hf hd => (hd.at 0 rfl rfl rfl rfl)) (fun h => absurd rfl h) (fun _ => ?_)
     refine opk_pure rfl rfl fun a w hb hf hd => ?_
     obtain ⟨cs, h1, h2, h3, h4, h5⟩ := bx.below hb x229
     exact ⟨_, run_load_row _ _ rfl (ev ((hf 9 (out_of (by kernel_rfl))).trans s191)) h1 Tryz.underlying44 rfl (by rw [h2]; exact info_Interval), fun _ _ => h5⟩
   · refine opk_guard true rfl rfl rfl rfl (by rw [z177]; decide) (fun a w hb hf hd => (hd.at 2 rfl rfl rfl rfl)) (fun h => absurd rfl h) (fun _ => ?_)
     refine opk_call rfl rfl fun a w hb hf hd => ?_
     have e0 : a.eval (.tmp 38) = sl a 38 := rfl
     have e1 : a.eval (.tmp 39) = sl a 39 := rfl
     exact ⟨35, #[sl a 38, sl a 39], run_call rfl rfl (fun _ _ => by kernel_rfl) (args_2 e0 e1), (iv_inside  (by omega) (by omega) (mP_imp (m1' := (mR paa 4)) (m2' := (mR qaa 4)) (fun _ h => (isK.r h)) (fun _ h => (isK.r h)) (hd.at 0 rfl rfl rfl rfl)) (mP_imp (m1' := (mR (mnQ (mnQ paa qaa) (mnQ pcc qcc)) 17)) (m2' := (mR (mxQ (mxQ paa qaa) (mxQ pcc qcc)) 17)) (fun _ h => (isC.r h)) (fun _ h => (isC.r h)) (hd.at 1 rfl rfl rfl rfl)) (hT.below (B228.trans (hb.mono B228.size)))).mono fun _ _ r => RetS.imp (fun _ _ h => fun _ _ => (h.trans (congrArg Value.bool (((Sub.hull paa qaa pcc qcc)).b)))) r⟩
   · exact opk_pure rfl rfl fun a w hb hf hd => ⟨_, run_pick rfl (ev (hd.at 0 rfl rfl rfl rfl)), fun _ _ => pick_and (fun _ => (hd.at 1 rfl rfl rfl rfl))⟩
   · exact opk_pure rfl rfl fun a w hb hf hd => ⟨_, run_move rfl, fun _ _ => (hd.at 0 rfl rfl rfl rfl)⟩
   · refine opk_guard true rfl rfl rfl rfl (by rw [z177]; decide) (fun a w hb hf hd => (hd.at 0 rfl rfl rfl rfl)) (fun h => absurd rfl h) (fun _ => ?_)
     refine opk_pure rfl rfl fun a w hb hf hd => ?_
     obtain ⟨cs, h1, h2, h3, h4, h5⟩ := bx.below hb x230
     exact ⟨_, run_load_row _ _ rfl (ev ((hf 4 (out_of (by kernel_rfl))).trans s179)) h1 Tryz.underlying44 rfl (by rw [h2]; exact info_Interval), fun _ _ => h5⟩
   · refine opk_guard true rfl rfl rfl rfl (by rw [z177]; decide) (fun a w hb hf hd => (hd.at 0 rfl rfl rfl rfl)) (fun h => absurd rfl h) (fun _ => ?_)
     refine opk_pure rfl rfl fun a w hb hf hd => ?_
     obtain ⟨cs, h1, h2, h3, h4, h5⟩ := bx.below hb x231
     exact ⟨_, run_load_row _ _ rfl (ev ((hf 5 (out_of (by kernel_rfl))).trans s180)) h1 Tryz.underlying44 rfl (by rw [h2]; exact info_Interval), fun _ _ => h5⟩
   · refine opk_guard true rfl rfl rfl rfl (by rw [z177]; decide) (fun a w hb hf hd => (hd.at 2 rfl rfl rfl rfl)) (fun h => absurd rfl h) (fun _ => ?_)
     refine opk_call rfl rfl fun a w hb hf hd => ?_
     have e0 : a.eval (.tmp 43) = sl a 43 := rfl
     have e1 : a.eval (.tmp 44) = sl a 44 := rfl
     exact ⟨49, #[sl a 43, sl a 44], run_call rfl rfl (fun _ _ => by kernel_rfl) (args_2 e0 e1), (iv_add  (by omega) (by omega) (mP_imp (m1' := (mR paa 4)) (m2' := (mR qaa 4)) (fun _ h => (isK.r h)) (fun _ h => (isK.r h)) (hd.at 0 rfl rfl rfl rfl)) (mP_imp (m1' := (mR pbb 4)) (m2' := (mR qbb 4)) (fun _ h => (isK.r h)) (fun _ h => (isK.r h)) (hd.at 1 rfl rfl rfl rfl)) (hT.below (B228.trans (hb.mono B228.size)))).mono fun _ _ r => RetS.imp (fun _ _ h => fun _ _ => (mP_imp (fun _ h => (isC.mono h (by omega))) (fun _ h => (isC.mono h (by omega))) h)) r⟩
   · refine opk_guard true rfl rfl rfl rfl (by rw [z177]; decide) (fun a w hb hf hd => (hd.at 0 rfl rfl rfl rfl)) (fun h => absurd rfl h) (fun _ => ?_)
     refine opk_pure rfl rfl fun a w hb hf hd => ?_
     obtain ⟨cs, h1, h2, h3, h4, h5⟩ := bx.below hb x229
     exact ⟨_, run_load_row _ _ rfl (ev ((hf 9 (out_of (by kernel_rfl))).trans s191)) h1 Tryz.underlying44 rfl (by rw [h2]; exact info_Interval), fun _ _ => h5⟩
   · refine opk_guard true rfl rfl rfl rfl (by rw [z177]; decide) (fun a w hb hf hd => (hd.at 0 rfl rfl rfl rfl)) (fun h => absurd rfl h) (fun _ => ?_)
     refine opk_pure rfl rfl fun a w hb hf hd => ?_
     obtain ⟨cs, h1, h2, h3, h4, h5⟩ := bx.below hb x224
     exact ⟨_, run_load_row _ _ rfl (ev ((hf 10 (out_of (by kernel_rfl))).trans s200)) h1 Tryz.underlying44 rfl (by rw [h2]; exact info_Interval), fun _ _ => h5⟩
   · refine opk_guard true rfl rfl rfl rfl (by rw [z177]; decide) (fun a w hb hf hd => (hd.at 3 rfl rfl rfl rfl)) (fun h => absurd rfl h) (fun _ => ?_)
     refine opk_call rfl rfl fun a w hb hf hd => ?_
     have e0 : a.eval (.tmp 46) = sl a 46 := rfl
     have e1 : a.eval (.tmp 47) = sl a 47 := rfl
     exact ⟨49, #[sl a 46, sl a 47], run_call rfl rfl (fun _ _ => by kernel_rfl) (args_2 e0 e1), (iv_add  (by omega) (by omega) (mP_imp (m1' := (mR (mnQ (mnQ paa qaa) (mnQ pcc qcc)) 17)) (m2' := (mR (mxQ (mxQ paa qaa) (mxQ pcc qcc)) 17)) (fun _ h => (isC.r h)) (fun _ h => (isC.r h)) (hd.at 0 rfl rfl rfl rfl)) (mP_imp (m1' := (mR (mnQ (mnQ pbb qbb) (mnQ pdd qdd)) 17)) (m2' := (mR (mxQ (mxQ pbb qbb) (mxQ pdd qdd)) 17)) (fun _ h => (isC.r h)) (fun _ h => (isC.r h)) (hd.at 1 rfl rfl rfl rfl)) (hT.below (B228.trans (hb.mono B228.size)))).mono fun _ _ r => RetS.imp (fun _ _ h => fun _ _ => (mP_imp (fun _ h => (isC.mono h (by omega))) (fun _ h => (isC.mono h (by omega))) h)) r⟩
   · refine opk_guard true rfl rfl rfl rfl (by rw [z177]; decide) (fun a w hb hf hd => (hd.at 3 rfl rfl rfl rfl)) (fun h => absurd rfl h) (fun _ => ?_)
     refine opk_call rfl rfl fun a w hb hf hd => ?_
     have e0 : a.eval (.tmp 45) = sl a 45 := rfl
     have e1 : a.eval (.tmp 48) = sl a 48 := rfl
     exact ⟨35, #[sl a 45, sl a 48], run_call rfl rfl (fun _ _ => by kernel_rfl) (args_2 e0 e1), (iv_inside  (by omega) (by omega) (mP_imp (m1' := (mR ((mnQ paa qaa) + (mnQ pbb qbb)) 11)) (m2' := (mR ((mxQ paa qaa) + (mxQ pbb qbb)) 11)) (fun _ h => (isC.r h)) (fun _ h => (isC.r h)) (hd.at 0 rfl rfl rfl rfl)) (mP_imp (m1' := (mR ((mnQ (mnQ (mnQ paa qaa) (mnQ pcc qcc)) (mxQ (mxQ paa qaa) (mxQ pcc qcc))) + (mnQ (mnQ (mnQ pbb qbb) (mnQ pdd qdd)) (mxQ (mxQ pbb qbb) (mxQ pdd qdd)))) 37)) (m2' := (mR ((mxQ (mnQ (mnQ paa qaa) (mnQ pcc qcc)) (mxQ (mxQ paa qaa) (mxQ pcc qcc))) + (mxQ (mnQ (mnQ pbb qbb) (mnQ pdd qdd)) (mxQ (mxQ pbb qbb) (mxQ pdd qdd)))) 37)) (fun _ h => (isC.r h)) (fun _ h => (isC.r h)) (hd.at 1 rfl rfl rfl rfl)) (hT.below (B228.trans (hb.mono B228.size)))).mono fun _ _ r => RetS.imp (fun _ _ h => fun _ _ => (h.trans (congrArg Value.bool (Sub.add (Sub.hull paa qaa pcc qcc) (Sub.hull pbb qbb pdd qdd))))) r⟩
   · exact opk_pure rfl rfl fun a w hb hf hd => ⟨_, run_pick rfl (ev (hd.at 0 rfl rfl rfl rfl)), fun _ _ => pick_and (fun _ => (hd.at 1 rfl rfl rfl rfl))⟩
   · exact opk_pure rfl rfl fun a w hb hf hd => ⟨_, run_move rfl, fun _ _ => (hd.at 0 rfl rfl rfl rfl)⟩
   · refine opk_guard true rfl rfl rfl rfl (by rw [z177]; decide) (fun a w hb hf hd => (hd.at 0 rfl rfl rfl rfl)) (fun h => absurd rfl h) (fun _ => ?_)
     refine opk_pure rfl rfl fun a w hb hf hd => ?_
     obtain ⟨cs, h1, h2, h3, h4, h5⟩ := bx.below hb x230
     exact ⟨_, run_load_row _ _ rfl (ev ((hf 4 (out_of (by kernel_rfl))).trans s179)) h1 Tryz.underlying44 rfl (by rw [h2]; exact info_Interval), fun _ _ => h5⟩
   · refine opk_guard true rfl rfl rfl rfl (by rw [z177]; decide) (fun a w hb hf hd => (hd.at 0 rfl rfl rfl rfl)) (fun h => absurd rfl h) (fun _ => ?_)
     refine opk_pure rfl rfl fun a w hb hf hd => ?_
     obtain ⟨cs, h1, h2, h3, h4, h5⟩ := bx.below hb x231
     exact ⟨_, run_load_row _ _ rfl (ev ((hf 5 (out_of (by kernel_rfl))).trans s180)) h1 Tryz.underlying44 rfl (by rw [h2]; exact info_Interval), fun _ _ => h5⟩
   · refine opk_guard true rfl rfl rfl rfl (by rw [z177]; decide) (fun a w hb hf hd => (hd.at 2 rfl rfl rfl rfl)) (fun h => absurd rfl h) (fun _ => ?_)
     refine opk_call rfl rfl fun a w hb hf hd => ?_
     have e0 : a.eval (.tmp 52) = sl a 52 := rfl
     have e1 : a.eval (.tmp 53) = sl a 53 := rfl
     exact ⟨51, #[sl a 52, sl a 53], run_call rfl rfl (fun _ _ => by kernel_rfl) (args_2 e0 e1), (iv_sub  (by omega) (by omega) (mP_imp (m1' := (mR paa 4)) (m2' := (mR qaa 4)) (fun _ h => (isK.r h)) (fun _ h => (isK.r h)) (hd.at 0 rfl rfl rfl rfl)) (mP_imp (m1' := (mR pbb 4)) (m2' := (mR qbb 4)) (fun _ h => (isK.r h)) (fun _ h => (isK.r h)) (hd.at 1 rfl rfl rfl rfl)) (hT.below (B228.trans (hb.mono B228.size)))).mono fun _ _ r => RetS.imp (fun _ _ h => fun _ _ => (mP_imp (fun _ h => (isC.mono h (by omega))) (fun _ h => (isC.mono h (by omega))) h)) r⟩
   · refine opk_guard true rfl rfl rfl rfl (by rw [z177]; decide) (fun a w hb hf hd => (hd.at 0 rfl rfl rfl rfl)) (fun h => absurd rfl h) (fun _ => ?_)
     refine opk_pure rfl rfl fun a w hb hf hd => ?_
     obtain ⟨cs, h1, h2, h3, h4, h5⟩ := bx.below hb x229
     exact ⟨_, run_load_row _ _ rfl (ev ((hf 9 (out_of (by kernel_rfl))).trans s191)) h1 Tryz.underlying44 rfl (by rw [h2]; exact info_Interval), fun _ _ => h5⟩
   · refine opk_guard true rfl rfl rfl rfl (by rw [z177]; decide) (fun a w hb hf hd => (hd.at 0 rfl rfl rfl rfl)) (fun h => absurd rfl h) (fun _ => ?_)
     refine opk_pure rfl rfl fun a w hb hf hd => ?_
     obtain ⟨cs, h1, h2, h3, h4, h5⟩ := bx.below hb x224
     exact ⟨_, run_load_row _ _ rfl (ev ((hf 10 (out_of (by kernel_rfl))).trans s200)) h1 Tryz.underlying44 rfl (by rw [h2]; exact info_Interval), fun _ _ => h5⟩
   · refine opk_guard true rfl rfl rfl rfl (by rw [z177]; decide) (fun a w hb hf hd => (hd.at 3 rfl rfl rfl rfl)) (fun h => absurd rfl h) (fun _ => ?_)
     refine opk_call rfl rfl fun a w hb hf hd => ?_
     have e0 : a.eval (.tmp 55) = sl a 55 := rfl
     have e1 : a.eval (.tmp 56) = sl a 56 := rfl
     exact ⟨51, #[sl a 55, sl a 56], run_call rfl rfl (fun _ _ => by kernel_rfl) (args_2 e0 e1), (iv_sub  (by omega) (by omega) (mP_imp (m1' := (mR (mnQ (mnQ paa qaa) (mnQ pcc qcc)) 17)) (m2' := (mR (mxQ (mxQ paa qaa) (mxQ pcc qcc)) 17)) (fun _ h => (isC.r h)) (fun _ h => (isC.r h)) (hd.at 0 rfl rfl rfl rfl)) (mP_imp (m1' := (mR (mnQ (mnQ pbb qbb) (mnQ pdd qdd)) 17)) (m2' := (mR (mxQ (mxQ pbb qbb) (mxQ pdd qdd)) 17)) (fun _ h => (isC.r h)) (fun _ h => (isC.r h)) (hd.at 1 rfl rfl rfl rfl)) (hT.below (B228.trans (hb.mono B228.size)))).mono fun _ _ r => RetS.imp (fun _ _ h => fun _ _ => (mP_imp (fun _ h => (isC.mono h (by omega))) (fun _ h => (isC.mono h (by omega))) h)) r⟩
   · refine opk_guard true rfl rfl rfl rfl (by rw [z177]; decide) (fun a w hb hf hd => (hd.at 3 rfl rfl rfl rfl)) (fun h => absurd rfl h) (fun _ => ?_)
     refine opk_call rfl rfl fun a w hb hf hd => ?_
     have e0 : a.eval (.tmp 54) = sl a 54 := rfl
     have e1 : a.eval (.tmp 57) = sl a 57 := rfl
     exact ⟨35, #[sl a 54, sl a 57], run_call rfl rfl (fun _ _ => by kernel_rfl) (args_2 e0 e1), (iv_inside  (by omega) (by omega) (mP_imp (m1' := (mR ((mnQ paa qaa) - (mxQ pbb qbb)) 11)) (m2' := (mR ((mxQ paa qaa) - (mnQ pbb qbb)) 11)) (fun _ h => (isC.r h)) (fun _ h => (isC.r h)) (hd.at 0 rfl rfl rfl rfl)) (mP_imp (m1' := (mR ((mnQ (mnQ (mnQ paa qaa) (mnQ pcc qcc)) (mxQ (mxQ paa qaa) (mxQ pcc qcc))) - (mxQ (mnQ (mnQ pbb qbb) (mnQ pdd qdd)) (mxQ (mxQ pbb qbb) (mxQ pdd qdd)))) 37)) (m2' := (mR ((mxQ (mnQ (mnQ paa qaa) (mnQ pcc qcc)) (mxQ (mxQ paa qaa) (mxQ pcc qcc))) - (mnQ (mnQ (mnQ pbb qbb) (mnQ pdd qdd)) (mxQ (mxQ pbb qbb) (mxQ pdd qdd)))) 37)) (fun _ h => (isC.r h)) (fun _ h => (isC.r h)) (hd.at 1 rfl rfl rfl rfl)) (hT.below (B228.trans (hb.mono B228.size)))).mono fun _ _ r => RetS.imp (fun _ _ h => fun _ _ => (h.trans (congrArg Value.bool (Sub.sub (Sub.hull paa qaa pcc qcc) (Sub.hull pbb qbb pdd qdd))))) r⟩
   · exact opk_pure rfl rfl fun a w hb hf hd => ⟨_, run_pick rfl (ev (hd.at 0 rfl rfl rfl rfl)), fun _ _ => pick_and (fun _ => (hd.at 1 rfl rfl rfl rfl))⟩
   · exact opk_pure rfl rfl fun a w hb hf hd => ⟨_, run_move rfl, fun _ _ => (hd.at 0 rfl rfl rfl rfl)⟩
   · refine opk_guard true rfl rfl rfl rfl (by rw [z177]; decide) (fun a w hb hf hd => (hd.at 0 rfl rfl rfl rfl)) (fun h => absurd rfl h) (fun _ => ?_)
     refine opk_pure rfl rfl fun a w hb hf hd => ?_
     obtain ⟨cs, h1, h2, h3, h4, h5⟩ := bx.below hb x230
     exact ⟨_, run_load_row _ _ rfl (ev ((hf 4 (out_of (by kernel_rfl))).trans s179)) h1 Tryz.underlying44 rfl (by rw [h2]; exact info_Interval), fun _ _ => h5⟩
   · refine opk_guard true rfl rfl rfl rfl (by rw [z177]; decide) (fun a w hb hf hd => (hd.at 0 rfl rfl rfl rfl)) (fun h => absurd rfl h) (fun _ => ?_)
     refine opk_pure rfl rfl fun a w hb hf hd => ?_
     obtain ⟨cs, h1, h2, h3, h4, h5⟩ := bx.below hb x231
     exact ⟨_, run_load_row _ _ rfl (ev ((hf 5 (out_of (by kernel_rfl))).trans s180)) h1 Tryz.underlying44 rfl (by rw [h2]; exact info_Interval), fun _ _ => h5⟩
   · refine opk_guard true rfl rfl rfl rfl (by rw [z177]; decide) (fun a w hb hf hd => (hd.at 2 rfl rfl rfl rfl)) (fun h => absurd rfl h) (fun _ => ?_)
     refine opk_call rfl rfl fun a w hb hf hd => ?_
     have e0 : a.eval (.tmp 61) = sl a 61 := rfl
     have e1 : a.eval (.tmp 62) = sl a 62 := rfl
     exact ⟨53, #[sl a 61, sl a 62], run_call rfl rfl (fun _ _ => by kernel_rfl) (args_2 e0 e1), (iv_mul  (by omega) (by omega) (mP_imp (m1' := (mR paa 4)) (m2' := (mR qaa 4)) (fun _ h => (isK.r h)) (fun _ h => (isK.r h)) (hd.at 0 rfl rfl rfl rfl)) (mP_imp (m1' := (mR pbb 4)) (m2' := (mR qbb 4)) (fun _ h => (isK.r h)) (fun _ h => (isK.r h)) (hd.at 1 rfl rfl rfl rfl)) (hT.below (B228.trans (hb.mono B228.size)))).mono fun _ _ r => RetS.imp (fun _ _ h => fun _ _ => (mP_imp (fun _ h => (isC.mono h (by omega))) (fun _ h => (isC.mono h (by omega))) h)) r⟩
   · refine opk_guard true rfl rfl rfl rfl (by rw [z177]; decide) (fun a w hb hf hd => (hd.at 0 rfl rfl rfl rfl)) (fun h => absurd rfl h) (fun _ => ?_)
     refine opk_pure rfl rfl fun a w hb hf hd => ?_
     obtain ⟨cs, h1, h2, h3, h4, h5⟩ := bx.below hb x229
     exact ⟨_, run_load_row _ _ rfl (ev ((hf 9 (out_of (by kernel_rfl))).trans s191)) h1 Tryz.underlying44 rfl (by rw [h2]; exact info_Interval), fun _ _ => h5⟩
   · refine opk_guard true rfl rfl rfl rfl (by rw [z177]; decide) (fun a w hb hf hd => (hd.at 0 rfl rfl rfl rfl)) (fun h => absurd rfl h) (fun _ => ?_)
     refine opk_pure rfl rfl fun a w hb hf hd => ?_
     obtain ⟨cs, h1, h2, h3, h4, h5⟩ := bx.below hb x224
     exact ⟨_, run_load_row _ _ rfl (ev ((hf 10 (out_of (by kernel_rfl))).trans s200)) h1 Tryz.underlying44 rfl (by rw [h2]; exact info_Interval), fun _ _ => h5⟩
   · refine opk_guard true rfl rfl rfl rfl (by rw [z177]; decide) (fun a w hb hf hd => (hd.at 3 rfl rfl rfl rfl)) (fun h => absurd rfl h) (fun _ => ?_)
     refine opk_call rfl rfl fun a w hb hf hd => ?_
     have e0 : a.eval (.tmp 64) = sl a 64 := rfl
     have e1 : a.eval (.tmp 65) = sl a 65 := rfl
     exact ⟨53, #[sl a 64, sl a 65], run_call rfl rfl (fun _ _ => by kernel_rfl) (args_2 e0 e1), (iv_mul  (by omega) (by omega) (mP_imp (m1' := (mR (mnQ (mnQ paa qaa) (mnQ pcc qcc)) 17)) (m2' := (mR (mxQ (mxQ paa qaa) (mxQ pcc qcc)) 17)) (fun _ h => (isC.r h)) (fun _ h => (isC.r h)) (hd.at 0 rfl rfl rfl rfl)) (mP_imp (m1' := (mR (mnQ (mnQ pbb qbb) (mnQ pdd qdd)) 17)) (m2' := (mR (mxQ (mxQ pbb qbb) (mxQ pdd qdd)) 17)) (fun _ h => (isC.r h)) (fun _ h => (isC.r h)) (hd.at 1 rfl rfl rfl rfl)) (hT.below (B228.trans (hb.mono B228.size)))).mono fun _ _ r => RetS.imp (fun _ _ h => fun _ _ => (mP_imp (fun _ h => (isC.mono h (by omega))) (fun _ h => (isC.mono h (by omega))) h)) r⟩
   · refine opk_guard true rfl rfl rfl rfl (by rw [z177]; decide) (fun a w hb hf hd => (hd.at 3 rfl rfl rfl rfl)) (fun h => absurd rfl h) (fun _ => ?_)
     refine opk_call rfl rfl fun a w hb hf hd => ?_
     have e0 : a.eval (.tmp 63) = sl a 63 := rfl
     have e1 : a.eval (.tmp 66) = sl a 66 := rfl
     exact ⟨35, #[sl a 63, sl a 66], run_call rfl rfl (fun _ _ => by kernel_rfl) (args_2 e0 e1), (iv_inside  (by omega) (by omega) (mP_imp (m1' := (mR (mn4 (paa * pbb) (paa * qbb) (qaa * pbb) (qaa * qbb)) 11)) (m2' := (mR (mx4 (paa * pbb) (paa * qbb) (qaa * pbb) (qaa * qbb)) 11)) (fun _ h => (isC.r h)) (fun _ h => (isC.r h)) (hd.at 0 rfl rfl rfl rfl)) (mP_imp (m1' := (mR (mn4 ((mnQ (mnQ paa qaa) (mnQ pcc qcc)) * (mnQ (mnQ pbb qbb) (mnQ pdd qdd))) ((mnQ (mnQ paa qaa) (mnQ pcc qcc)) * (mxQ (mxQ pbb qbb) (mxQ pdd qdd))) ((mxQ (mxQ paa qaa) (mxQ pcc qcc)) * (mnQ (mnQ pbb qbb) (mnQ pdd qdd))) ((mxQ (mxQ paa qaa) (mxQ pcc qcc)) * (mxQ (mxQ pbb qbb) (mxQ pdd qdd)))) 37)) (m2' := (mR (mx4 ((mnQ (mnQ paa qaa) (mnQ pcc qcc)) * (mnQ (mnQ pbb qbb) (mnQ pdd qdd))) ((mnQ (mnQ paa qaa) (mnQ pcc qcc)) * (mxQ (mxQ pbb qbb) (mxQ pdd qdd))) ((mxQ (mxQ paa qaa) (mxQ pcc qcc)) * (mnQ (mnQ pbb qbb) (mnQ pdd qdd))) ((mxQ (mxQ paa qaa) (mxQ pcc qcc)) * (mxQ (mxQ pbb qbb) (mxQ pdd qdd)))) 37)) (fun _ h => (isC.r h)) (fun _ h => (isC.r h)) (hd.at 1 rfl rfl rfl rfl)) (hT.below (B228.trans (hb.mono B228.size)))).mono fun _ _ r => RetS.imp (fun _ _ h => fun _ _ => (h.trans (congrArg Value.bool (Sub.mul (Sub.hull paa qaa pcc qcc) (Sub.hull pbb qbb pdd qdd))))) r⟩
   · exact opk_pure rfl rfl fun a w hb hf hd => ⟨_, run_pick rfl (ev (hd.at 0 rfl rfl rfl rfl)), fun _ _ => pick_and (fun _ => (hd.at 1 rfl rfl rfl rfl))⟩
   · exact opk_pure rfl rfl fun a w hb hf hd => ⟨_, run_move rfl, fun _ _ => (hd.at 0 rfl rfl rfl rfl)⟩
   · refine opk_guard true rfl rfl rfl rfl (by rw [z177]; decide) (fun a w hb hf hd => (hd.at 0 rfl rfl rfl rfl)) (fun h => absurd rfl h) (fun _ => ?_)
     refine opk_pure rfl rfl fun a w hb hf hd => ?_
     obtain ⟨cs, h1, h2, h3, h4, h5⟩ := bx.below hb x230
     exact ⟨_, run_load_row _ _ rfl (ev ((hf 4 (out_of (by kernel_rfl))).trans s179)) h1 Tryz.underlying44 rfl (by rw [h2]; exact info_Interval), fun _ _ => h5⟩
   · refine opk_guard true rfl rfl rfl rfl (by rw [z177]; decide) (fun a w hb hf hd => (hd.at 1 rfl rfl rfl rfl)) (fun h => absurd rfl h) (fun _ => ?_)
     refine opk_call rfl rfl fun a w hb hf hd => ?_
     have e0 : a.eval (.tmp 70) = sl a 70 := rfl
     exact ⟨55, #[sl a 70], run_call rfl rfl (fun _ _ => by kernel_rfl) (args_1 e0), (iv_square  (by omega) (mP_imp (m1' := (mR paa 4)) (m2' := (mR qaa 4)) (fun _ h => (isK.r h)) (fun _ h => (isK.r h)) (hd.at 0 rfl rfl rfl rfl)) (hT.below (B228.trans (hb.mono B228.size)))).mono fun _ _ r => RetS.imp (fun _ _ h => fun _ _ => (mP_imp (fun _ h => (isC.mono h (by omega))) (fun _ h => (isC.mono h (by omega))) h)) r⟩
   · refine opk_guard true rfl rfl rfl rfl (by rw [z177]; decide) (fun a w hb hf hd => (hd.at 0 rfl rfl rfl rfl)) (fun h => absurd rfl h) (fun _ => ?_)
     refine opk_pure rfl rfl fun a w hb hf hd => ?_
     obtain ⟨cs, h1, h2, h3, h4, h5⟩ := bx.below hb x229
     exact ⟨_, run_load_row _ _ rfl (ev ((hf 9 (out_of (by kernel_rfl))).trans s191)) h1 Tryz.underlying44 rfl (by rw [h2]; exact info_Interval), fun _ _ => h5⟩
   · refine opk_guard true rfl rfl rfl rfl (by rw [z177]; decide) (fun a w hb hf hd => (hd.at 2 rfl rfl rfl rfl)) (fun h => absurd rfl h) (fun _ => ?_)
     refine opk_call rfl rfl fun a w hb hf hd => ?_
     have e0 : a.eval (.tmp 72) = sl a 72 := rfl
     exact ⟨55, #[sl a 72], run_call rfl rfl (fun _ _ => by kernel_rfl) (args_1 e0), (iv_square  (by omega) (mP_imp (m1' := (mR (mnQ (mnQ paa qaa) (mnQ pcc qcc)) 17)) (m2' := (mR (mxQ (mxQ paa qaa) (mxQ pcc qcc)) 17)) (fun _ h => (isC.r h)) (fun _ h => (isC.r h)) (hd.at 0 rfl rfl rfl rfl)) (hT.below (B228.trans (hb.mono B228.size)))).mono fun _ _ r => RetS.imp (fun _ _ h => fun _ _ => (mP_imp (fun _ h => (isC.mono h (by omega))) (fun _ h => (isC.mono h (by omega))) h)) r⟩
   · refine opk_guard true rfl rfl rfl rfl (by rw [z177]; decide) (fun a w hb hf hd => (hd.at 3 rfl rfl rfl rfl)) (fun h => absurd rfl h) (fun _ => ?_)
     refine opk_call rfl rfl fun a w hb hf hd => ?_
     have e0 : a.eval (.tmp 71) = sl a 71 := rfl
     have e1 : a.eval (.tmp 73) = sl a 73 := rfl
     exact ⟨35, #[sl a 71, sl a 73], run_call rfl rfl (fun _ _ => by kernel_rfl) (args_2 e0 e1), (iv_inside  (by omega) (by omega) (mP_imp (m1' := (mR (sqL paa qaa) 13)) (m2' := (mR (mxQ (paa * paa) (qaa * qaa)) 13)) (fun _ h => (isC.r h)) (fun _ h => (isC.r h)) (hd.at 0 rfl rfl rfl rfl)) (mP_imp (m1' := (mR (sqL (mnQ (mnQ paa qaa) (mnQ pcc qcc)) (mxQ (mxQ paa qaa) (mxQ pcc qcc))) 39)) (m2' := (mR (mxQ ((mnQ (mnQ paa qaa) (mnQ pcc qcc)) * (mnQ (mnQ paa qaa) (mnQ pcc qcc))) ((mxQ (mxQ paa qaa) (mxQ pcc qcc)) * (mxQ (mxQ paa qaa) (mxQ pcc qcc)))) 39)) (fun _ h => (isC.r h)) (fun _ h => (isC.r h)) (hd.at 1 rfl rfl rfl rfl)) (hT.below (B228.trans (hb.mono B228.size)))).mono fun _ _ r => RetS.imp (fun _ _ h => fun _ _ => (h.trans (congrArg Value.bool (Sub.square (Sub.hull paa qaa pcc qcc))))) r⟩
   · exact opk_pure rfl rfl fun a w hb hf hd => ⟨_, run_pick rfl (ev (hd.at 0 rfl rfl rfl rfl)), fun _ _ => pick_and (fun _ => (hd.at 1 rfl rfl rfl rfl))⟩
   intro a236 w237 ms238
   have B239 := B228.trans (ms238.b.mono B228.size)
   have z240 := ms238.sz.trans z177
   have d241 := ms238.df.trans d178
   have x250 := bx.below ms238.b x224
   have x251 := bx.below ms238.b x229
   have x252 := bx.below ms238.b x230
   have x253 := bx.below ms238.b x231
   have x254 := bx.below ms238.b x232
   have x255 := bx.below ms238.b x233
   have s256 : sl a236 75 = .bool true := ms238.g 39 _ 75 rfl (by decide) trivial rfl
   refine tl_set rfl rfl (run_assign rfl) (by rw [z240]; decide) ?_
   intro a257 z258 d259 s260 fr261
   have s262 := s260.trans s256
   have d264 := d259.trans d241
   refine wpList_nil (then_normal ?_)
   refine wp_ret ?_
   exact end_tmp rfl d264 B239 s262
end Go.Proofs.YtbjijmjhlpkomaaGreatDoor

namespace Go.Proofs.YtbjijmjhlpkomaaGreatDoor.intervalGrows
open Go.ChangeShapes Go.WideShapes Go.ChangeAt Go.RowKit
open Go.ChangeMaps (open_string shut_string)

set_option linter.unusedVariables false
theorem lifted (os : Os) (started : os.Started) (H : Type) (enc : TypeId × Value → H) :
   ReturnsInHanded {} Tryz.checked os 7 .any (fun w args => (Rows.intervalGrowsSpec.pre enc Tryz.prog Tryz.f7 Rows.intervalGrowsRow.domain false w args ∧ laidMetH Tryz.prog Rows.intervalGrowsRow.laid w) ∧ sizedMet enc Tryz.prog Tryz.f7 (OpenSpec.ofChange Rows.intervalGrowsSpec) false w args)
     (Rows.intervalGrowsSpec.post enc Tryz.prog Tryz.f7 false true false false) := by
 refine returnsInHanded_of_change_and (C := Tryz.checked) (X := fun w _ => laidMetH Tryz.prog Rows.intervalGrowsRow.laid w) (fun _ _ _ hh h => h.of_heap hh) own started (by kernel_rfl) Tryz.func7
   (ChangeSpec.witness_shaped (enc := enc) (C := Tryz.checked) (os := os) (X := fun w _ => laidMetH Tryz.prog Rows.intervalGrowsRow.laid w) false (World.laidAll Tryz.prog os Rows.intervalGrowsRow.laid) #[.agg #[.bool false, .slice none 0 0, .slice none 0 0, .bool false, .slice none 0 0, .slice none 0 0], .agg #[.bool false, .slice none 0 0, .slice none 0 0, .bool false, .slice none 0 0, .slice none 0 0], .agg #[.bool false, .slice none 0 0, .slice none 0 0, .bool false, .slice none 0 0, .slice none 0 0], .agg #[.bool false, .slice none 0 0, .slice none 0 0, .bool false, .slice none 0 0, .slice none 0 0]] 8 (World.laidAll_os _ _ _)
     (World.shaped_of_ZipB (by kernel_rfl) (by kernel_rfl)) (by kernel_rfl) (by kernel_rfl) (by kernel_rfl)
     (by rw [MakeChecks.laidMetH_plain _ _ _ (by kernel_rfl)]; exact laidMet_laidAll _ (by kernel_rfl) (by kernel_rfl))) ?_
 intro W base args ds gs before hval0 hW hcnd _ hL _
 have hval : ∀ (j : Nat) t v, Tryz.f7.params[j]? = some t → args[j]? = some v → Value.okWide Tryz.prog W .any base t v := hval0
 have hW' := hW
 obtain ⟨p, q, hA0, hV, rfl, hfz, hnd⟩ := hW
 have hA : DataW.TrodAll enc Tryz.prog W 0 (fun _ => true) true Tryz.f7.params.toList args.toList ds p := hA0
 rw [Tryz.params7] at hA hval
 obtain ⟨v0, vs0, d0, ds0, p0, q0, hargs, rfl, rfl, h0, r0⟩ := trodAll_cons hA
 obtain ⟨v1, vs1, d1, ds1, p1, q1, rfl, rfl, rfl, h1, r1⟩ := trodAll_cons r0
 obtain ⟨v2, vs2, d2, ds2, p2, q2, rfl, rfl, rfl, h2, r2⟩ := trodAll_cons r1
 obtain ⟨v3, vs3, d3, ds3, p3, q3, rfl, rfl, rfl, h3, r3⟩ := trodAll_cons r2
 obtain ⟨rfl, rfl, rfl⟩ := trodAll_nil r3
 obtain rfl : args = #[v0, v1, v2, v3] := by cases args; simp_all
 obtain ⟨rfl, rfl⟩ := trodVars_none hV
 have k0 := h0
 have lt0 : ∀ x ∈ p0, x.block < W.heap.size := by obtain ⟨m, hm⟩ := k0; exact DataW.trod_lt m _ _ _ hm
 obtain ⟨x0, y0, hf0⟩ := open_interval (hval 0 44 v0 rfl rfl) h0
 have k1 := h1
 have lt1 : ∀ x ∈ p1, x.block < W.heap.size := by obtain ⟨m, hm⟩ := k1; exact DataW.trod_lt m _ _ _ hm
 obtain ⟨x1, y1, hf1⟩ := open_interval (hval 1 44 v1 rfl rfl) h1
 have k2 := h2
 have lt2 : ∀ x ∈ p2, x.block < W.heap.size := by obtain ⟨m, hm⟩ := k2; exact DataW.trod_lt m _ _ _ hm
 obtain ⟨x2, y2, hf2⟩ := open_interval (hval 2 44 v2 rfl rfl) h2
 have k3 := h3
 have lt3 : ∀ x ∈ p3, x.block < W.heap.size := by obtain ⟨m, hm⟩ := k3; exact DataW.trod_lt m _ _ _ hm
 obtain ⟨x3, y3, hf3⟩ := open_interval (hval 3 44 v3 rfl rfl) h3
 clear hA0 hval0
 refine (walkIntervalGrows hf0 hf1 hf2 hf3 (tb_of_met (by rw [MakeChecks.laidMetH_plain _ _ _ (by kernel_rfl)] at hL; exact hL))).mono fun e W' hr => ?_
 obtain ⟨vr, he, hvr, bel⟩ := hr
 obtain rfl : vr = .bool true := hvr
 subst he
 exact ⟨_, rfl, _, _, _, [], _, [], hW', trodAll_mk1 (shut_bool Tryz.underlying4 _), (trodAll_cons_mk (Below.trod laidOut (by kernel_rfl) (of_decide_eq_true (by kernel_rfl)) k0 bel lt0) (trodAll_cons_mk (Below.trod laidOut (by kernel_rfl) (of_decide_eq_true (by kernel_rfl)) k1 bel lt1) (trodAll_cons_mk (Below.trod laidOut (by kernel_rfl) (of_decide_eq_true (by kernel_rfl)) k2 bel lt2) (trodAll_cons_mk (Below.trod laidOut (by kernel_rfl) (of_decide_eq_true (by kernel_rfl)) k3 bel lt3) trodAll_mk0)))), rfl, bel.frame _, fun h => by cases h⟩

theorem both {a b : Bool} (h1 : a = true) (h2 : b = true) : (a && b) = true := by rw [h1, h2]; rfl

theorem closed : joinedFacts Tryz.prog 7 Tryz.f7 Rows.intervalGrowsSpec Rows.intervalGrowsRow = true := by
 unfold joinedFacts
 repeat' with_reducible refine both ?_ ?_
 all_goals (as_aux_lemma => kernel_rfl)

theorem over : Rows.IntervalGrowsSaid :=
 OpenClaim.holds_of_wide 7 Tryz.f7 rfl rfl rfl rfl rfl rfl rfl ⟨rfl, rfl, rfl, rfl, rfl⟩ rfl rfl rfl rfl rfl (by as_aux_lemma => kernel_rfl) Tryz.func7 closed
   (of_decide_eq_true (by kernel_rfl)) (by unfold Func.isWrapper; first | (rw [if_pos (by decide +kernel)]; kernel_rfl) | (rw [if_neg (by decide +kernel)]; exact ⟨rfl, rfl⟩))
   (fun os started H enc _ => lifted os started H enc)

theorem card : Rows.IntervalGrowsCardSaid :=
 Claim7.holds_tied_plain_at .later [] [.data] true Rows.intervalGrowsCard.stood.harness false over (fun _ h => by cases h) (by as_aux_lemma => kernel_rfl) (fun _ h => by cases h) intervalGrows_row_tie rfl ⟨rfl, rfl⟩ (by as_aux_lemma => kernel_rfl) rfl
   (fun f fn hf hfn => by
     obtain rfl : f = 7 := Option.some.inj ((show Tryz.prog.funcNamed "dspcompiler/dspcompilerlaw04.IntervalGrows" = some 7 by as_aux_lemma => kernel_rfl).symm.trans hf) |>.symm
     obtain rfl : fn = Tryz.f7 := (Option.some.inj (Tryz.func7.symm.trans hfn)).symm
     exact ⟨by as_aux_lemma => kernel_rfl, fun j t ht => by
       rw [Tryz.params7] at ht
       have hm : t ∈ [44, 44, 44, 44] := by simpa using Array.mem_of_getElem? ht
       have hall : ([44, 44, 44, 44].all fun u => !Tryz.prog.wantsStandIn u) = true := by as_aux_lemma => kernel_rfl
       exact (show Tryz.prog.wantsStandIn t = false by simpa using List.all_eq_true.1 hall t hm)⟩)
   (by as_aux_lemma => kernel_rfl)
end Go.Proofs.YtbjijmjhlpkomaaGreatDoor.intervalGrows
