/-  -/
import Derived.Test.YtbjijmjhlpkomaaGreatDoorQcf
import Derived.Test.YtbjijmjhlpkomaaGreatDoorTie
import Derived.Test.YtbjijmjhlpkomaaGreatDoorCards
import Derived.SevenTiedAt

set_option linter.unusedVariables false
set_option linter.unusedSimpArgs false
set_option linter.unusedSectionVars false
set_option maxRecDepth 100000
set_option maxHeartbeats 3200000

namespace Go.Proofs.YtbjijmjhlpkomaaGreatDoor
open Go.RowKit Num

theorem built_row0 (x0 x1 x2 y0 y1 y2 z0 z1 z2 : Value) : Tryz.prog.builtSlice 26 3 [(0, .agg #[x0, x1, x2]), (1, .agg #[y0, y1, y2]), (2, .agg #[z0, z1, z2])] = some #[x0, x1, x2, y0, y1, y2, z0, z1, z2] := by kernel_rfl
theorem run_row3 {a : Act} {o : Oper} {w : World} {t u s : Tmp} {x0 x1 x2 y0 y1 y2 z0 z1 z2 : Value} (ho : o.op = .buildSlice 63 3 #[(0, .tmp t), (1, .tmp u), (2, .tmp s)]) (h0 : sl a t = .agg #[x0, x1, x2]) (h1 : sl a u = .agg #[y0, y1, y2]) (h2 : sl a s = .agg #[z0, z1, z2]) :
   (execOp a.eval o).run Tryz.prog w = .ok (.value (.slice (some ⟨w.heap.size, 0, none⟩) 3 3)) (w.alloc (.cells #[x0, x1, x2, y0, y1, y2, z0, z1, z2] 26)) := by
 refine run_buildSliceR ho Tryz.underlying63 ?_
 have e0 : a.eval (.tmp t) = .agg #[x0, x1, x2] := h0
 have e1 : a.eval (.tmp u) = .agg #[y0, y1, y2] := h1
 have e2 : a.eval (.tmp s) = .agg #[z0, z1, z2] := h2
 simp only [List.map_toArray, List.map_cons, List.map_nil, e0, e1, e2]
 exact built_row0 _ _ _ _ _ _ _ _ _
theorem addr_sl3_0 {ρ : Operand → Value} {o : Oper} {w : World} {x y : Operand} {g : Nat} (ho : o.op = .indexAddr 63 x y) (hx : ρ x = .slice (some ⟨g, 0, none⟩) 3 3) (hy : ρ y = .int .i64 0) : (execOp ρ o).run Tryz.prog w = .ok (.value (.pointer (some ⟨g, 0, none⟩))) w := by
 unfold execOp
 rw [ho]
 simp only [hx, hy]
 refine Eq.trans (b := Result.ok (Next.value (Value.pointer (some ⟨g, 0, none⟩))) w) ?_ rfl
 kernel_rfl
theorem addr_sl3_1 {ρ : Operand → Value} {o : Oper} {w : World} {x y : Operand} {g : Nat} (ho : o.op = .indexAddr 63 x y) (hx : ρ x = .slice (some ⟨g, 0, none⟩) 3 3) (hy : ρ y = .int .i64 1) : (execOp ρ o).run Tryz.prog w = .ok (.value (.pointer (some ⟨g, 3, none⟩))) w := by
 unfold execOp
 rw [ho]
 simp only [hx, hy]
 refine Eq.trans (b := Result.ok (Next.value (Value.pointer (some ⟨g, 3, none⟩))) w) ?_ rfl
 kernel_rfl
theorem addr_sl3_2 {ρ : Operand → Value} {o : Oper} {w : World} {x y : Operand} {g : Nat} (ho : o.op = .indexAddr 63 x y) (hx : ρ x = .slice (some ⟨g, 0, none⟩) 3 3) (hy : ρ y = .int .i64 2) : (execOp ρ o).run Tryz.prog w = .ok (.value (.pointer (some ⟨g, 6, none⟩))) w := by
 unfold execOp
 rw [ho]
 simp only [hx, hy]
 refine Eq.trans (b := Result.ok (Next.value (Value.pointer (some ⟨g, 6, none⟩))) w) ?_ rfl
 kernel_rfl
end Go.Proofs.YtbjijmjhlpkomaaGreatDoor

namespace Go.Proofs.YtbjijmjhlpkomaaGreatDoor
open Go.RowKit Num

def con (p q y : Rat) : Bool := (!(decide (y < mnQ p q))) && (!(decide (mxQ p q < y)))
theorem con_iff {p q y : Rat} : con p q y = true ↔ mnQ p q ≤ y ∧ y ≤ mxQ p q := by
 unfold con; simp [Rat.not_lt]
theorem con_iff' {p q y : Rat} : con p q y = true ↔ (p ≤ y ∨ q ≤ y) ∧ (y ≤ p ∨ y ≤ q) := by
 rw [con_iff, mnQ_le, le_mxQ]
theorem meets_a {p q r s y : Rat} : (con p q y && con r s y) = ((decide (meE (mxQ (mnQ p q) (mnQ r s)) (mnQ (mxQ p q) (mxQ r s)) = 0)) && con (if meE (mxQ (mnQ p q) (mnQ r s)) (mnQ (mxQ p q) (mxQ r s)) = 0 then mxQ (mnQ p q) (mnQ r s) else 0) (if meE (mxQ (mnQ p q) (mnQ r s)) (mnQ (mxQ p q) (mxQ r s)) = 0 then mnQ (mxQ p q) (mxQ r s) else 0) y) := by
 rw [Bool.eq_iff_iff]
 simp only [Bool.and_eq_true, decide_eq_true_eq]
 unfold meE
 by_cases h : mnQ (mxQ p q) (mxQ r s) < mxQ (mnQ p q) (mnQ r s)
 · rw [if_pos h]
   refine ⟨fun ⟨h1, h2⟩ => ?_, fun ⟨h1, _⟩ => absurd h1 (by decide)⟩
   rw [con_iff] at h1 h2
   unfold mnQ mxQ at *
   exfalso
   grind
 · rw [if_neg h]
   simp only [if_true, true_and, con_iff]
   rw [mn_eq (Rat.not_lt.1 h), mx_eq (Rat.not_lt.1 h)]
   constructor
   · rintro ⟨⟨h1, h2⟩, h3, h4⟩
     exact ⟨mxQ_le.2 ⟨h1, h3⟩, le_mnQ.2 ⟨h2, h4⟩⟩
   · rintro ⟨h1, h2⟩
     have a := mxQ_le.1 h1
     have b := le_mnQ.1 h2
     exact ⟨⟨a.1, b.1⟩, a.2, b.2⟩
theorem meets_b {p q r s y : Rat} (h : (con p q y || con r s y) = true) : con (mnQ (mnQ p q) (mnQ r s)) (mxQ (mxQ p q) (mxQ r s)) y = true := by
 rw [con_iff']
 rw [Bool.or_eq_true, con_iff, con_iff] at h
 rw [mnQ_le, le_mxQ]
 rcases h with ⟨h1, h2⟩ | ⟨h1, h2⟩
 · exact ⟨Or.inl (Or.inl h1), Or.inr (Or.inl h2)⟩
 · exact ⟨Or.inl (Or.inr h1), Or.inr (Or.inr h2)⟩
theorem meets_1 {p q r s y : Rat} : ((con p q y && con r s y) != ((decide (meE (mxQ (mnQ p q) (mnQ r s)) (mnQ (mxQ p q) (mxQ r s)) = 0)) && con (if meE (mxQ (mnQ p q) (mnQ r s)) (mnQ (mxQ p q) (mxQ r s)) = 0 then mxQ (mnQ p q) (mnQ r s) else 0) (if meE (mxQ (mnQ p q) (mnQ r s)) (mnQ (mxQ p q) (mxQ r s)) = 0 then mnQ (mxQ p q) (mxQ r s) else 0) y)) = false := by
 rw [meets_a]; simp
theorem meets_2 {p q r s y : Rat} : (false || ((con p q y || con r s y) && !(con (mnQ (mnQ p q) (mnQ r s)) (mxQ (mxQ p q) (mxQ r s)) y))) = false := by
 cases h : (con p q y || con r s y) with
 | false => simp
 | true => rw [meets_b h]; rfl
theorem iv_containsN {p0 q0 : Rat} {k0 : Nat} {p1 : Rat} {k1 : Nat} {v0 : Value} {v1 : Value} {w : World} (hk0 : k0 ≤ 9999) (hk1 : k1 ≤ 9999) (pf0 : (mP (mR p0 k0) (mR q0 k0)).S w v0) (pf1 : (mR p1 k1).S w v1) (hT : Tb w) :
   Calls Tryz.prog 33 #[v0, v1] w (RetS (mV (.bool ((!(decide (p1 < (mnQ p0 q0)))) && (!(decide ((mxQ p0 q0) < p1)))))).S w) := by
 have h := iv_contains hk0 hk1 pf0 pf1 hT
 rw [dle, dle] at h
 exact h
end Go.Proofs.YtbjijmjhlpkomaaGreatDoor

namespace Go.Proofs.YtbjijmjhlpkomaaGreatDoor
open Go.RowKit Num

theorem walkIntervalMeets {x0 y0 x1 y1 x2 : Bool} (j3 : Int) {v0 : Value} {v1 : Value} {v2 : Value} {w : World} (h3a : -9223372036854775808 ≤ j3) (h3b : j3 ≤ 9223372036854775807) (pf0 : (mP (mS x0) (mS y0)).S w v0) (pf1 : (mP (mS x1) (mS y1)).S w v1) (pf2 : (mS x2).S w v2) (hT : Tb w) :
   Calls Tryz.prog 8 #[v0, v1, v2, .int .i64 j3] w (RetS (mV (.bool true)).S w) := by
 obtain ⟨c0, rfl, n0, u0, o0⟩ := (mP.cv (fun _ h => (isS.cv h)) (fun _ h => (isS.cv h)) pf0)
 obtain ⟨c1, rfl, n1, u1, o1⟩ := (mP.cv (fun _ h => (isS.cv h)) (fun _ h => (isS.cv h)) pf1)
 obtain ⟨c2, rfl, n2, u2, o2⟩ := (isS.cv pf2)
 refine calls_abs 85 Tryz.func8 rfl rfl (by simp) ?_
 intro a0 z0 d0 ha
 have s0_0 : sl a0 0 = .agg c0 := ha 0 (by simp)
 have s0_1 : sl a0 1 = .agg c1 := ha 1 (by simp)
 have s0_2 : sl a0 2 = .agg c2 := ha 2 (by simp)
 have s0_3 : sl a0 3 = .int .i64 j3 := ha 3 (by simp)
 have B0 : Below w.heap.size w w := Below.refl _ _
 refine wp_seq ?_
 refine wp_region_seq 0 (mG []) (by rw [z0]; kernel_rfl) (mG_mono _) (ops_ok trivial) ?_
 intro a1 w2 ms3
 have B4 := B0.trans (ms3.b.mono B0.size)
 have z5 := ms3.sz.trans z0
 have d6 := ms3.df.trans d0
 have s7 := (ms3.fr 0 (out_of (by kernel_rfl))).trans s0_0
 have s8 := (ms3.fr 1 (out_of (by kernel_rfl))).trans s0_1
 have s9 := (ms3.fr 2 (out_of (by kernel_rfl))).trans s0_2
 have s10 := (ms3.fr 3 (out_of (by kernel_rfl))).trans s0_3
 refine tl_new rfl rfl (run_box_op rfl (ev s7)) (by rw [z5]; decide) ?_
 intro a11 w12 g13 z14 d15 s16 fr17 hg18 hc19 hb20
 have z21 := z14.trans z5
 have d22 := d15.trans d6
 have s24 := (fr17 1 (by decide)).trans s8
 have s25 := (fr17 2 (by decide)).trans s9
 have s26 := (fr17 3 (by decide)).trans s10
 have B27 := B4.trans (hb20.mono B4.size)
 have lw29 : w.heap.size ≤ g13 := by have := B4.size; omega
 have x28 : bx 44 6 (mP (mS x0) (mS y0)) w12 g13 := ⟨c0, hc19, n0, u0, o0, (mP (mS x0) (mS y0)).mono _ _ _ (Ext.of B27) pf0⟩
 refine tl_new rfl rfl (run_box_op rfl (ev s24)) (by rw [z21]; decide) ?_
 intro a30 w31 g32 z33 d34 s35 fr36 hg37 hc38 hb39
 have z40 := z33.trans z21
 have d41 := d34.trans d22
 have s44 := (fr36 2 (by decide)).trans s25
 have s45 := (fr36 3 (by decide)).trans s26
 have s46 := (fr36 4 (by decide)).trans s16
 have B47 := B27.trans (hb39.mono B27.size)
 have ne49 : g13 ≠ g32 := by have := x28.lt; omega
 have x48 := bx.below hb39 x28
 have lw51 : w.heap.size ≤ g32 := by have := B27.size; omega
 have x50 : bx 44 6 (mP (mS x1) (mS y1)) w31 g32 := ⟨c1, hc38, n1, u1, o1, (mP (mS x1) (mS y1)).mono _ _ _ (Ext.of B47) pf1⟩
 refine tl_new rfl rfl (run_box_op rfl (ev s44)) (by rw [z40]; decide) ?_
 intro a52 w53 g54 z55 d56 s57 fr58 hg59 hc60 hb61
 have z62 := z55.trans z40
 have d63 := d56.trans d41
 have s67 := (fr58 3 (by decide)).trans s45
 have s68 := (fr58 4 (by decide)).trans s46
 have s69 := (fr58 5 (by decide)).trans s35
 have B70 := B47.trans (hb61.mono B47.size)
 have ne72 : g13 ≠ g54 := by have := x48.lt; omega
 have x71 := bx.below hb61 x48
 have ne74 : g32 ≠ g54 := by have := x50.lt; omega
 have x73 := bx.below hb61 x50
 have lw76 : w.heap.size ≤ g54 := by have := B47.size; omega
 have x75 : bx 26 3 (mS x2) w53 g54 := ⟨c2, hc60, n2, u2, o2, (mS x2).mono _ _ _ (Ext.of B70) pf2⟩
 refine tl_set rfl rfl (run_assign rfl) (by rw [z62]; decide) ?_
 intro a77 z78 d79 s80 fr81
 have z83 := z78.trans z62
 have d84 := d79.trans d63
 have s88 := (fr81 3 (by decide)).trans s67
 have s89 := (fr81 4 (by decide)).trans s68
 have s90 := (fr81 5 (by decide)).trans s69
 have s91 := (fr81 6 (by decide)).trans s57
 refine wpList_nil (then_normal ?_)
 refine wp_seq ?_
 refine wp_seq ?_
 refine wp_region_seq 13 (mG [(mP (mS x0) (mS y0)).b, (mV (.bool (x0 && y0))).b, (mV (.bool (!(x0 && y0)))).b, (mV (.bool (!(x0 && y0)))).b, (mIf (!(!(x0 && y0))) (mP (mS x1) (mS y1))).b, (mIf (!(!(x0 && y0))) (mV (.bool (x1 && y1)))).b, (mIf (!(!(x0 && y0))) (mV (.bool (!(x1 && y1))))).b, (mV (.bool ((!(x0 && y0)) || (!(x1 && y1))))).b, (mV (.bool ((!(x0 && y0)) || (!(x1 && y1))))).b, (mIf (!((!(x0 && y0)) || (!(x1 && y1)))) (mS x2)).b, (mIf (!((!(x0 && y0)) || (!(x1 && y1)))) (mV (.bool x2))).b, (mIf (!((!(x0 && y0)) || (!(x1 && y1)))) (mV (.bool (!(x2))))).b, (mV (.bool (((!(x0 && y0)) || (!(x1 && y1))) || (!(x2))))).b]) (by rw [z83]; kernel_rfl) (mG_mono _) (ops_ok ⟨?_, ?_, ?_, ?_, ?_, ?_, ?_, ?_, ?_, ?_, ?_, ?_, ?_, trivial⟩) ?_
 · refine opk_pure rfl rfl fun a w hb hf hd => ?_
   obtain ⟨cs, h1, h2, h3, h4, h5⟩ := bx.below hb x71
   exact ⟨_, run_load_row _ _ rfl (ev ((hf 4 (out_of (by kernel_rfl))).trans s89)) h1 Tryz.underlying44 rfl (by rw [h2]; exact info_Interval), fun _ _ => h5⟩
 · refine opk_call rfl rfl fun a w hb hf hd => ?_
   have e0 : a.eval (.tmp 15) = sl a 15 := rfl
   exact ⟨24, #[sl a 15], run_call rfl rfl (fun _ _ => by kernel_rfl) (args_1 e0), (k_smallon (hd.at 0 rfl rfl rfl rfl)).mono fun _ _ r => RetS.imp (fun _ _ h => fun _ _ => h) r⟩
 · exact opk_pure rfl rfl fun a w hb hf hd => ⟨_, run_not rfl (ev (hd.at 0 rfl rfl rfl rfl)), fun _ _ => rfl⟩
 · exact opk_pure rfl rfl fun a w hb hf hd => ⟨_, run_move rfl, fun _ _ => (hd.at 0 rfl rfl rfl rfl)⟩
 · refine opk_guard (!(x0 && y0)) rfl rfl rfl rfl (by rw [z83]; decide) (fun a w hb hf hd => (hd.at 0 rfl rfl rfl rfl)) (fun hne _ hγ => absurd (Eq.mp (Bool.not_eq_true' _) hγ) hne) (fun hγ0 => ?_)
   have hγ : (!(!(x0 && y0))) = true := by rw [hγ0]; rfl
   refine opk_pure rfl rfl fun a w hb hf hd => ?_
   obtain ⟨cs, h1, h2, h3, h4, h5⟩ := bx.below hb x73
   exact ⟨_, run_load_row _ _ rfl (ev ((hf 5 (out_of (by kernel_rfl))).trans s90)) h1 Tryz.underlying44 rfl (by rw [h2]; exact info_Interval), fun _ _ _ => h5⟩
 · refine opk_guard (!(x0 && y0)) rfl rfl rfl rfl (by rw [z83]; decide) (fun a w hb hf hd => (hd.at 1 rfl rfl rfl rfl)) (fun hne _ hγ => absurd (Eq.mp (Bool.not_eq_true' _) hγ) hne) (fun hγ0 => ?_)
   have hγ : (!(!(x0 && y0))) = true := by rw [hγ0]; rfl
   refine opk_call rfl rfl fun a w hb hf hd => ?_
   have e0 : a.eval (.tmp 19) = sl a 19 := rfl
   exact ⟨24, #[sl a 19], run_call rfl rfl (fun _ _ => by kernel_rfl) (args_1 e0), (k_smallon ((hd.at 0 rfl rfl rfl rfl) hγ)).mono fun _ _ r => RetS.imp (fun _ _ h => fun _ _ _ => h) r⟩
 · refine opk_guard (!(x0 && y0)) rfl rfl rfl rfl (by rw [z83]; decide) (fun a w hb hf hd => (hd.at 1 rfl rfl rfl rfl)) (fun hne _ hγ => absurd (Eq.mp (Bool.not_eq_true' _) hγ) hne) (fun hγ0 => ?_)
   have hγ : (!(!(x0 && y0))) = true := by rw [hγ0]; rfl
   exact opk_pure rfl rfl fun a w hb hf hd => ⟨_, run_not rfl (ev ((hd.at 0 rfl rfl rfl rfl) hγ)), fun _ _ _ => rfl⟩
 · exact opk_pure rfl rfl fun a w hb hf hd => ⟨_, run_pick rfl (ev (hd.at 0 rfl rfl rfl rfl)), fun _ _ => pick_or fun h => (hd.at 1 rfl rfl rfl rfl) (by rw [h]; rfl)⟩
 · exact opk_pure rfl rfl fun a w hb hf hd => ⟨_, run_move rfl, fun _ _ => (hd.at 0 rfl rfl rfl rfl)⟩
 · refine opk_guard ((!(x0 && y0)) || (!(x1 && y1))) rfl rfl rfl rfl (by rw [z83]; decide) (fun a w hb hf hd => (hd.at 0 rfl rfl rfl rfl)) (fun hne _ hγ => absurd (Eq.mp (Bool.not_eq_true' _) hγ) hne) (fun hγ0 => ?_)
   have hγ : (!((!(x0 && y0)) || (!(x1 && y1)))) = true := by rw [hγ0]; rfl
   refine opk_pure rfl rfl fun a w hb hf hd => ?_
   obtain ⟨cs, h1, h2, h3, h4, h5⟩ := bx.below hb x75
   exact ⟨_, run_load_row _ _ rfl (ev ((hf 6 (out_of (by kernel_rfl))).trans s91)) h1 Tryz.underlying26 rfl (by rw [h2]; exact info_Rat), fun _ _ _ => h5⟩
 · refine opk_guard ((!(x0 && y0)) || (!(x1 && y1))) rfl rfl rfl rfl (by rw [z83]; decide) (fun a w hb hf hd => (hd.at 1 rfl rfl rfl rfl)) (fun hne _ hγ => absurd (Eq.mp (Bool.not_eq_true' _) hγ) hne) (fun hγ0 => ?_)
   have hγ : (!((!(x0 && y0)) || (!(x1 && y1)))) = true := by rw [hγ0]; rfl
   refine opk_call rfl rfl fun a w hb hf hd => ?_
   have e0 : a.eval (.tmp 24) = sl a 24 := rfl
   exact ⟨9, #[sl a 24], run_call rfl rfl (fun _ _ => by kernel_rfl) (args_1 e0), (k_small ((hd.at 0 rfl rfl rfl rfl) hγ)).mono fun _ _ r => RetS.imp (fun _ _ h => fun _ _ _ => h) r⟩
 · refine opk_guard ((!(x0 && y0)) || (!(x1 && y1))) rfl rfl rfl rfl (by rw [z83]; decide) (fun a w hb hf hd => (hd.at 1 rfl rfl rfl rfl)) (fun hne _ hγ => absurd (Eq.mp (Bool.not_eq_true' _) hγ) hne) (fun hγ0 => ?_)
   have hγ : (!((!(x0 && y0)) || (!(x1 && y1)))) = true := by rw [hγ0]; rfl
   exact opk_pure rfl rfl fun a w hb hf hd => ⟨_, run_not rfl (ev ((hd.at 0 rfl rfl rfl rfl) hγ)), fun _ _ _ => rfl⟩
 · exact opk_pure rfl rfl fun a w hb hf hd => ⟨_, run_pick rfl (ev (hd.at 0 rfl rfl rfl rfl)), fun _ _ => pick_or fun h => (hd.at 1 rfl rfl rfl rfl) (by rw [h]; rfl)⟩
 intro a92 w93 ms94
 have B95 := B70.trans (ms94.b.mono B70.size)
 have z96 := ms94.sz.trans z83
 have d97 := ms94.df.trans d84
 have s98 := (ms94.fr 3 (out_of (by kernel_rfl))).trans s88
 have s99 := (ms94.fr 4 (out_of (by kernel_rfl))).trans s89
 have s100 := (ms94.fr 5 (out_of (by kernel_rfl))).trans s90
 have s101 := (ms94.fr 6 (out_of (by kernel_rfl))).trans s91
 have x103 := bx.below ms94.b x71
 have x104 := bx.below ms94.b x73
 have x105 := bx.below ms94.b x75
 have s106 : sl a92 27 = .bool (((!(x0 && y0)) || (!(x1 && y1))) || (!(x2))) := ms94.g 12 _ 27 rfl (by decide) trivial rfl
 refine wpList_nil (then_normal ?_)
 refine cond_b (((!(x0 && y0)) || (!(x1 && y1))) || (!(x2))) (ev s106) (fun hb107 => ?_) (fun hb107 => ?_)
 · skip
   refine wp_seq ?_
   refine wp_region_seq 1 (mG [(mV (.bool true)).b]) (by rw [z96]; kernel_rfl) (mG_mono _) (ops_ok ⟨?_, trivial⟩) ?_
   · refine opk_call rfl rfl fun a w hb hf hd => ?_
     exact ⟨25, #[], run_call rfl rfl (fun _ _ => by kernel_rfl) args_0, (awake4_any (hT.below (B95.trans (hb.mono B95.size)))).mono fun _ _ r => RetS.imp (fun _ _ h => fun _ _ => h) r⟩
   intro a108 w109 ms110
   have B111 := B95.trans (ms110.b.mono B95.size)
   have z112 := ms110.sz.trans z96
   have d113 := ms110.df.trans d97
   have x119 := bx.below ms110.b x103
   have x120 := bx.below ms110.b x104
   have x121 := bx.below ms110.b x105
   have s122 : sl a108 28 = .bool true := ms110.g 0 _ 28 rfl (by decide) trivial rfl
   refine tl_set rfl rfl (run_assign rfl) (by rw [z112]; decide) ?_
   intro a123 z124 d125 s126 fr127
   have s128 := s126.trans s122
   have d130 := d125.trans d113
   refine wpList_nil (then_normal ?_)
   refine wp_ret ?_
   exact end_tmp rfl d130 B111 s128
 · skip
   have hq := hb107
   simp only [Bool.or_eq_false_iff, Bool.not_eq_false', Bool.and_eq_true] at hq
   obtain ⟨⟨⟨hx0, hy0⟩, hx1, hy1⟩, hx2⟩ := hq
   obtain ⟨paa, qaa, caa, daa, x137⟩ := bx_small x103 hx0 hy0
   obtain ⟨pbb, qbb, cbb, dbb, x138⟩ := bx_small x104 hx1 hy1
   obtain ⟨pxx, cxx, x139⟩ := bx_small3 x105 hx2
   refine wp_skip (then_normal ?_)
   refine wp_seq ?_
   refine wp_seq ?_
   refine wp_region_mono 10 [] (mG [(mK pxx 4 cxx).b, (mP (mK paa 4 caa) (mK qaa 4 daa)).b, (mV (.int .i64 j3)).b, (mC (btw paa qaa j3) 88).b, (mP (mK pbb 4 cbb) (mK qbb 4 dbb)).b, (mV (.int .i64 j3)).b, (mC (btw pbb qbb j3) 88).b, (mNewS w93.heap.size 26 9 3 (mRow3 (mK pxx 4 cxx) (mC (btw paa qaa j3) 88) (mC (btw pbb qbb j3) 88))), (mV (.int .i64 3)).b, (mV (.int .i64 0)).b]) (by kernel_rfl) (by rw [z96]; kernel_rfl) (fun h => absurd rfl h) (mG_mono _) (ops_ok ⟨?_, ?_, ?_, ?_, ?_, ?_, ?_, ?_, ?_, ?_, trivial⟩) ?_
   · refine opk_pure rfl rfl fun a w hb hf hd => ?_
     obtain ⟨cs, h1, h2, h3, h4, h5⟩ := bx.below hb x139
     exact ⟨_, run_load_row _ _ rfl (ev ((hf 6 (out_of (by kernel_rfl))).trans s101)) h1 Tryz.underlying26 rfl (by rw [h2]; exact info_Rat), fun _ _ => h5⟩
   · refine opk_pure rfl rfl fun a w hb hf hd => ?_
     obtain ⟨cs, h1, h2, h3, h4, h5⟩ := bx.below hb x137
     exact ⟨_, run_load_row _ _ rfl (ev ((hf 4 (out_of (by kernel_rfl))).trans s99)) h1 Tryz.underlying44 rfl (by rw [h2]; exact info_Interval), fun _ _ => h5⟩
   · exact opk_pure rfl rfl fun a w hb hf hd => ⟨_, run_move rfl, fun _ _ => ((hf 3 (out_of (by kernel_rfl))).trans s98)⟩
   · refine opk_call rfl rfl fun a w hb hf hd => ?_
     have e0 : a.eval (.tmp 30) = sl a 30 := rfl
     have e1 : a.eval (.tmp 31) = .int .i64 j3 := (hd.at 1 rfl rfl rfl rfl)
     exact ⟨59, #[sl a 30, .int .i64 j3], run_call rfl rfl (fun _ _ => by kernel_rfl) (args_2 e0 e1), (l4_between j3 (by omega) (by omega) (by omega) (mP_imp (m1' := (mR paa 4)) (m2' := (mR qaa 4)) (fun _ h => (isK.r h)) (fun _ h => (isK.r h)) (hd.at 0 rfl rfl rfl rfl))).mono fun _ _ r => RetS.imp (fun _ _ h => fun _ _ => (isC.mono h (by omega))) r⟩
   · refine opk_pure rfl rfl fun a w hb hf hd => ?_
     obtain ⟨cs, h1, h2, h3, h4, h5⟩ := bx.below hb x138
     exact ⟨_, run_load_row _ _ rfl (ev ((hf 5 (out_of (by kernel_rfl))).trans s100)) h1 Tryz.underlying44 rfl (by rw [h2]; exact info_Interval), fun _ _ => h5⟩
   · exact opk_pure rfl rfl fun a w hb hf hd => ⟨_, run_move rfl, fun _ _ => ((hf 3 (out_of (by kernel_rfl))).trans s98)⟩
   · refine opk_call rfl rfl fun a w hb hf hd => ?_
     have e0 : a.eval (.tmp 33) = sl a 33 := rfl
     have e1 : a.eval (.tmp 34) = .int .i64 j3 := (hd.at 1 rfl rfl rfl rfl)
     exact ⟨59, #[sl a 33, .int .i64 j3], run_call rfl rfl (fun _ _ => by kernel_rfl) (args_2 e0 e1), (l4_between j3 (by omega) (by omega) (by omega) (mP_imp (m1' := (mR pbb 4)) (m2' := (mR qbb 4)) (fun _ h => (isK.r h)) (fun _ h => (isK.r h)) (hd.at 0 rfl rfl rfl rfl))).mono fun _ _ r => RetS.imp (fun _ _ h => fun _ _ => (isC.mono h (by omega))) r⟩
   · refine opk_alloc rfl fun a w hb hf hd => ?_
     have kk0 : (mK pxx 4 cxx).S w (sl a 29) := (hd.at 0 rfl rfl rfl rfl)
     obtain ⟨x00, x01, x02, qq0⟩ := cv3 (isK.cv kk0)
     have cc0 := (isK.cv kk0)
     rw [qq0] at kk0 cc0
     have kk1 : (mC (btw paa qaa j3) 88).S w (sl a 32) := (hd.at 1 rfl rfl rfl rfl)
     obtain ⟨x10, x11, x12, qq1⟩ := cv3 (isC.cv kk1)
     have cc1 := (isC.cv kk1)
     rw [qq1] at kk1 cc1
     have kk2 : (mC (btw pbb qbb j3) 88).S w (sl a 35) := (hd.at 2 rfl rfl rfl rfl)
     obtain ⟨x20, x21, x22, qq2⟩ := cv3 (isC.cv kk2)
     have cc2 := (isC.cv kk2)
     rw [qq2] at kk2 cc2
     exact ⟨_, _, run_row3 rfl qq0 qq1 qq2, below_alloc _ _, fun _ _ => ⟨_, rfl, hb.size, bx_row3 (heap_alloc_at _ _) (below_alloc _ _) kk0 kk1 kk2 cc0 cc1 cc2⟩, fun h => by cases h⟩
   · refine opk_pure rfl rfl fun a w hb hf hd => ?_
     obtain ⟨g, e1, e2, e3⟩ := (hd.at 0 rfl rfl rfl rfl)
     exact ⟨_, run_len_sl rfl Tryz.underlying63 (ev e1), fun _ _ => rfl⟩
   · exact opk_pure rfl rfl fun a w hb hf hd => ⟨_, run_move rfl, fun _ _ => rfl⟩
   intro a140 w141 ms142
   have B143 := B95.trans (ms142.b.mono B95.size)
   have z144 := ms142.sz.trans z96
   have d145 := ms142.df.trans d97
   have s146 := (ms142.fr 4 (out_of (by kernel_rfl))).trans s99
   have s147 := (ms142.fr 5 (out_of (by kernel_rfl))).trans s100
   have x151 := bx.below ms142.b x137
   have x152 := bx.below ms142.b x138
   have x153 := bx.below ms142.b x139
   obtain ⟨g155, s154, e157, x156⟩ := ms142.g 7 _ 36 rfl (by decide) trivial rfl
   have ne158 : g13 ≠ g155 := by have := x137.lt; omega
   have ne159 : g32 ≠ g155 := by have := x138.lt; omega
   have ne160 : g54 ≠ g155 := by have := x139.lt; omega
   have lw161 : w.heap.size ≤ g155 := by have := B95.size; omega
   have s162 : sl a140 37 = .int .i64 3 := ms142.g 8 _ 37 rfl (by decide) trivial rfl
   have s163 : sl a140 38 = .int .i64 0 := ms142.g 9 _ 38 rfl (by decide) trivial rfl
   refine wpList_nil (then_normal ?_)
   refine wp_block ?_
   refine wp_loop_rounds 4 (rounds_go ?_)
   refine wp_seq ?_
   refine wp_region_seq 1 (mG [(mV (.bool true)).b]) (by rw [z144]; kernel_rfl) (mG_mono _) (ops_ok ⟨?_, trivial⟩) ?_
   · exact opk_pure rfl rfl fun a w hb hf hd => ⟨_, run_lss rfl (ev ((hf 38 (out_of (by kernel_rfl))).trans s163)) (ev ((hf 37 (out_of (by kernel_rfl))).trans s162)), fun _ _ => rfl⟩
   intro a164 w165 ms166
   have B167 := B143.trans (ms166.b.mono B143.size)
   have z168 := ms166.sz.trans z144
   have d169 := ms166.df.trans d145
   have s170 := (ms166.fr 4 (out_of (by kernel_rfl))).trans s146
   have s171 := (ms166.fr 5 (out_of (by kernel_rfl))).trans s147
   have s175 := (ms166.fr 36 (out_of (by kernel_rfl))).trans s154
   have s176 := (ms166.fr 37 (out_of (by kernel_rfl))).trans s162
   have s177 := (ms166.fr 38 (out_of (by kernel_rfl))).trans s163
   have x178 := bx.below ms166.b x151
   have x179 := bx.below ms166.b x152
   have x180 := bx.below ms166.b x153
   have x181 := bx.below ms166.b x156
   have s182 : sl a164 39 = .bool true := ms166.g 0 _ 39 rfl (by decide) trivial rfl
   refine wpList_nil (then_normal ?_)
   refine wp_seq ?_
   refine wp_cond_true (ev s182) ?_
   refine wp_skip (then_normal ?_)
   refine wp_seq ?_
   refine wp_block ?_
   refine wp_seq ?_
   refine wp_region_seq 2 (mG [(mV (.pointer (some ⟨g155, 0, none⟩))).b, (mK pxx 4 cxx).b]) (by rw [z168]; kernel_rfl) (mG_mono _) (ops_ok ⟨?_, ?_, trivial⟩) ?_
   · exact opk_pure rfl rfl fun a w hb hf hd => ⟨_, addr_sl3_0 rfl (ev ((hf 36 (out_of (by kernel_rfl))).trans s175)) (ev ((hf 38 (out_of (by kernel_rfl))).trans s177)), fun _ _ => rfl⟩
   · refine opk_pure rfl rfl fun a w hb hf hd => ?_
     obtain ⟨x0, x1, x2, h1, h2⟩ := (bx.below hb x181).row3_0
     exact ⟨_, run_load_mid _ _ rfl (ev (hd.at 0 rfl rfl rfl rfl)) h1 Tryz.underlying26 rfl info_Rat, fun _ _ => h2⟩
   intro a183 w184 ms185
   have B186 := B167.trans (ms185.b.mono B167.size)
   have z187 := ms185.sz.trans z168
   have d188 := ms185.df.trans d169
   have s189 := (ms185.fr 4 (out_of (by kernel_rfl))).trans s170
   have s190 := (ms185.fr 5 (out_of (by kernel_rfl))).trans s171
   have s194 := (ms185.fr 36 (out_of (by kernel_rfl))).trans s175
   have s195 := (ms185.fr 37 (out_of (by kernel_rfl))).trans s176
   have s196 := (ms185.fr 38 (out_of (by kernel_rfl))).trans s177
   have x198 := bx.below ms185.b x178
   have x199 := bx.below ms185.b x179
   have x200 := bx.below ms185.b x180
   have x201 := bx.below ms185.b x181
   have s202 : (mK pxx 4 cxx).S w184 (sl a183 41) := ms185.g 1 _ 41 rfl (by decide) trivial rfl
   refine tl_new rfl rfl (run_alloc_op rfl zero_Rat) (by rw [z187]; decide) ?_
   intro a203 w204 g205 z206 d207 s208 fr209 hg210 hc211 hb212
   have z213 := z206.trans z187
   have d214 := d207.trans d188
   have s215 := (fr209 4 (by decide)).trans s189
   have s216 := (fr209 5 (by decide)).trans s190
   have s220 := (fr209 36 (by decide)).trans s194
   have s221 := (fr209 37 (by decide)).trans s195
   have s222 := (fr209 38 (by decide)).trans s196
   have s224 : (mK pxx 4 cxx).S w184 (sl a203 41) := by rw [fr209 41 (by decide)]; exact s202
   have B225 := B186.trans (hb212.mono B186.size)
   have ne227 : g13 ≠ g205 := by have := x198.lt; omega
   have x226 := bx.below hb212 x198
   have ne229 : g32 ≠ g205 := by have := x199.lt; omega
   have x228 := bx.below hb212 x199
   have ne231 : g54 ≠ g205 := by have := x200.lt; omega
   have x230 := bx.below hb212 x200
   have ne233 : g155 ≠ g205 := by have := x201.lt; omega
   have x232 := bx.below hb212 x201
   have s234 := (mK pxx 4 cxx).mono _ _ _ (Ext.of hb212) s224
   have lw236 : w.heap.size ≤ g205 := by have := B186.size; omega
   have x235 := bx_Rat hc211
   refine tl_put rfl rfl rfl (m' := (mK pxx 4 cxx)) x235 (ev s208) s234 (isK.cv s234) info_Rat ?_
   intro w237 x238 ex239 ot240 bl241
   have B242 := bl241 w (by omega) B225
   have x243 := ot240 (by omega) x226
   have x244 := ot240 (by omega) x228
   have x245 := ot240 (by omega) x230
   have x246 := ot240 (by omega) x232
   have s247 := (mK pxx 4 cxx).mono _ _ _ ex239 s234
   refine wpList_nil (then_normal ?_)
   refine wp_seq ?_
   refine wp_region_seq 6 (mG [(mP (mK paa 4 caa) (mK qaa 4 daa)).b, (mP (mK pbb 4 cbb) (mK qbb 4 dbb)).b, (mT (mP (mE (mxQ (mnQ paa qaa) (mnQ pbb qbb)) (meE (mxQ (mnQ paa qaa) (mnQ pbb qbb)) (mnQ (mxQ paa qaa) (mxQ pbb qbb))) 17) (mE (mnQ (mxQ paa qaa) (mxQ pbb qbb)) (meE (mxQ (mnQ paa qaa) (mnQ pbb qbb)) (mnQ (mxQ paa qaa) (mxQ pbb qbb))) 17)) (mV (.bool (decide (meE (mxQ (mnQ paa qaa) (mnQ pbb qbb)) (mnQ (mxQ paa qaa) (mxQ pbb qbb)) = 0))))).b, (mT (mP (mE (mxQ (mnQ paa qaa) (mnQ pbb qbb)) (meE (mxQ (mnQ paa qaa) (mnQ pbb qbb)) (mnQ (mxQ paa qaa) (mxQ pbb qbb))) 17) (mE (mnQ (mxQ paa qaa) (mxQ pbb qbb)) (meE (mxQ (mnQ paa qaa) (mnQ pbb qbb)) (mnQ (mxQ paa qaa) (mxQ pbb qbb))) 17)) (mV (.bool (decide (meE (mxQ (mnQ paa qaa) (mnQ pbb qbb)) (mnQ (mxQ paa qaa) (mxQ pbb qbb)) = 0))))).b, (mP (mE (mxQ (mnQ paa qaa) (mnQ pbb qbb)) (meE (mxQ (mnQ paa qaa) (mnQ pbb qbb)) (mnQ (mxQ paa qaa) (mxQ pbb qbb))) 17) (mE (mnQ (mxQ paa qaa) (mxQ pbb qbb)) (meE (mxQ (mnQ paa qaa) (mnQ pbb qbb)) (mnQ (mxQ paa qaa) (mxQ pbb qbb))) 17)).b, (mV (.bool (decide (meE (mxQ (mnQ paa qaa) (mnQ pbb qbb)) (mnQ (mxQ paa qaa) (mxQ pbb qbb)) = 0)))).b]) (by rw [z213]; kernel_rfl) (mG_mono _) (ops_ok ⟨?_, ?_, ?_, ?_, ?_, ?_, trivial⟩) ?_
   · refine opk_pure rfl rfl fun a w hb hf hd => ?_
     obtain ⟨cs, h1, h2, h3, h4, h5⟩ := bx.below hb x243
     exact ⟨_, run_load_row _ _ rfl (ev ((hf 4 (out_of (by kernel_rfl))).trans s215)) h1 Tryz.underlying44 rfl (by rw [h2]; exact info_Interval), fun _ _ => h5⟩
   · refine opk_pure rfl rfl fun a w hb hf hd => ?_
     obtain ⟨cs, h1, h2, h3, h4, h5⟩ := bx.below hb x244
     exact ⟨_, run_load_row _ _ rfl (ev ((hf 5 (out_of (by kernel_rfl))).trans s216)) h1 Tryz.underlying44 rfl (by rw [h2]; exact info_Interval), fun _ _ => h5⟩
   · refine opk_call rfl rfl fun a w hb hf hd => ?_
     have e0 : a.eval (.tmp 43) = sl a 43 := rfl
     have e1 : a.eval (.tmp 44) = sl a 44 := rfl
     exact ⟨28, #[sl a 43, sl a 44], run_call rfl rfl (fun _ _ => by kernel_rfl) (args_2 e0 e1), (iv_meet  (by omega) (by omega) (mP_imp (m1' := (mR paa 4)) (m2' := (mR qaa 4)) (fun _ h => (isK.r h)) (fun _ h => (isK.r h)) (hd.at 0 rfl rfl rfl rfl)) (mP_imp (m1' := (mR pbb 4)) (m2' := (mR qbb 4)) (fun _ h => (isK.r h)) (fun _ h => (isK.r h)) (hd.at 1 rfl rfl rfl rfl)) (hT.below (B242.trans (hb.mono B242.size)))).mono fun _ _ r => RetS.imp (fun _ _ h => fun _ _ => (mT_imp (fun _ h => (mP_imp (fun _ h => (isE.mono h (by omega))) (fun _ h => (isE.mono h (by omega))) h)) (fun _ h => h) h)) r⟩
   · exact opk_pure rfl rfl fun a w hb hf hd => ⟨_, run_move rfl, fun _ _ => (hd.at 0 rfl rfl rfl rfl)⟩
   · refine opk_pure rfl rfl fun a w hb hf hd => ?_
     obtain ⟨x, y, h1, h2, h3⟩ := (hd.at 0 rfl rfl rfl rfl)
     exact ⟨_, run_extract_op rfl (ev h1) rfl, fun _ _ => h2⟩
   · refine opk_pure rfl rfl fun a w hb hf hd => ?_
     obtain ⟨x, y, h1, h2, h3⟩ := (hd.at 0 rfl rfl rfl rfl)
     exact ⟨_, run_extract_op rfl (ev h1) rfl, fun _ _ => h3⟩
   intro a248 w249 ms250
   have B251 := B242.trans (ms250.b.mono B242.size)
   have z252 := ms250.sz.trans z213
   have d253 := ms250.df.trans d214
   have s254 := (ms250.fr 4 (out_of (by kernel_rfl))).trans s215
   have s255 := (ms250.fr 5 (out_of (by kernel_rfl))).trans s216
   have s259 := (ms250.fr 36 (out_of (by kernel_rfl))).trans s220
   have s260 := (ms250.fr 37 (out_of (by kernel_rfl))).trans s221
   have s261 := (ms250.fr 38 (out_of (by kernel_rfl))).trans s222
   have s263 := (ms250.fr 10 (out_of (by kernel_rfl))).trans s208
   have x264 := bx.below ms250.b x238
   have x265 := bx.below ms250.b x243
   have x266 := bx.below ms250.b x244
   have x267 := bx.below ms250.b x245
   have x268 := bx.below ms250.b x246
   have s269 : (mP (mE (mxQ (mnQ paa qaa) (mnQ pbb qbb)) (meE (mxQ (mnQ paa qaa) (mnQ pbb qbb)) (mnQ (mxQ paa qaa) (mxQ pbb qbb))) 17) (mE (mnQ (mxQ paa qaa) (mxQ pbb qbb)) (meE (mxQ (mnQ paa qaa) (mnQ pbb qbb)) (mnQ (mxQ paa qaa) (mxQ pbb qbb))) 17)).S w249 (sl a248 46) := ms250.g 4 _ 46 rfl (by decide) trivial rfl
   have s270 : sl a248 47 = .bool (decide (meE (mxQ (mnQ paa qaa) (mnQ pbb qbb)) (mnQ (mxQ paa qaa) (mxQ pbb qbb)) = 0)) := ms250.g 5 _ 47 rfl (by decide) trivial rfl
   refine tl_new rfl rfl (run_alloc_op rfl zero_Interval) (by rw [z252]; decide) ?_
   intro a271 w272 g273 z274 d275 s276 fr277 hg278 hc279 hb280
   have z281 := z274.trans z252
   have d282 := d275.trans d253
   have s283 := (fr277 4 (by decide)).trans s254
   have s284 := (fr277 5 (by decide)).trans s255
   have s288 := (fr277 36 (by decide)).trans s259
   have s289 := (fr277 37 (by decide)).trans s260
   have s290 := (fr277 38 (by decide)).trans s261
   have s292 := (fr277 10 (by decide)).trans s263
   have s293 : (mP (mE (mxQ (mnQ paa qaa) (mnQ pbb qbb)) (meE (mxQ (mnQ paa qaa) (mnQ pbb qbb)) (mnQ (mxQ paa qaa) (mxQ pbb qbb))) 17) (mE (mnQ (mxQ paa qaa) (mxQ pbb qbb)) (meE (mxQ (mnQ paa qaa) (mnQ pbb qbb)) (mnQ (mxQ paa qaa) (mxQ pbb qbb))) 17)).S w249 (sl a271 46) := by rw [fr277 46 (by decide)]; exact s269
   have s294 := (fr277 47 (by decide)).trans s270
   have B295 := B251.trans (hb280.mono B251.size)
   have ne297 : g205 ≠ g273 := by have := x264.lt; omega
   have x296 := bx.below hb280 x264
   have ne299 : g13 ≠ g273 := by have := x265.lt; omega
   have x298 := bx.below hb280 x265
   have ne301 : g32 ≠ g273 := by have := x266.lt; omega
   have x300 := bx.below hb280 x266
   have ne303 : g54 ≠ g273 := by have := x267.lt; omega
   have x302 := bx.below hb280 x267
   have ne305 : g155 ≠ g273 := by have := x268.lt; omega
   have x304 := bx.below hb280 x268
   have s306 := (mP (mE (mxQ (mnQ paa qaa) (mnQ pbb qbb)) (meE (mxQ (mnQ paa qaa) (mnQ pbb qbb)) (mnQ (mxQ paa qaa) (mxQ pbb qbb))) 17) (mE (mnQ (mxQ paa qaa) (mxQ pbb qbb)) (meE (mxQ (mnQ paa qaa) (mnQ pbb qbb)) (mnQ (mxQ paa qaa) (mxQ pbb qbb))) 17)).mono _ _ _ (Ext.of hb280) s293
   have lw308 : w.heap.size ≤ g273 := by have := B251.size; omega
   have x307 := bx_Interval hc279
   refine tl_put rfl rfl rfl (m' := (mP (mE (mxQ (mnQ paa qaa) (mnQ pbb qbb)) (meE (mxQ (mnQ paa qaa) (mnQ pbb qbb)) (mnQ (mxQ paa qaa) (mxQ pbb qbb))) 17) (mE (mnQ (mxQ paa qaa) (mxQ pbb qbb)) (meE (mxQ (mnQ paa qaa) (mnQ pbb qbb)) (mnQ (mxQ paa qaa) (mxQ pbb qbb))) 17))) x307 (ev s276) s306 (mP.cv (fun _ h => (isE.cv h)) (fun _ h => (isE.cv h)) s306) info_Interval ?_
   intro w309 x310 ex311 ot312 bl313
   have B314 := bl313 w (by omega) B295
   have x315 := ot312 (by omega) x296
   have x316 := ot312 (by omega) x298
   have x317 := ot312 (by omega) x300
   have x318 := ot312 (by omega) x302
   have x319 := ot312 (by omega) x304
   have s320 := (mP (mE (mxQ (mnQ paa qaa) (mnQ pbb qbb)) (meE (mxQ (mnQ paa qaa) (mnQ pbb qbb)) (mnQ (mxQ paa qaa) (mxQ pbb qbb))) 17) (mE (mnQ (mxQ paa qaa) (mxQ pbb qbb)) (meE (mxQ (mnQ paa qaa) (mnQ pbb qbb)) (mnQ (mxQ paa qaa) (mxQ pbb qbb))) 17)).mono _ _ _ ex311 s306
   refine tl_set rfl rfl (run_assign rfl) (by rw [z281]; decide) ?_
   intro a321 z322 d323 s324 fr325
   have s326 := s324.trans s294
   have z327 := z322.trans z281
   have d328 := d323.trans d282
   have s329 := (fr325 4 (by decide)).trans s283
   have s330 := (fr325 5 (by decide)).trans s284
   have s334 := (fr325 36 (by decide)).trans s288
   have s335 := (fr325 37 (by decide)).trans s289
   have s336 := (fr325 38 (by decide)).trans s290
   have s338 := (fr325 10 (by decide)).trans s292
   have s341 := (fr325 11 (by decide)).trans s276
   refine wpList_nil (then_normal ?_)
   refine wp_seq ?_
   refine wp_region_seq 8 (mG [(mP (mK paa 4 caa) (mK qaa 4 daa)).b, (mK pxx 4 cxx).b, (mV (.bool ((!(decide (pxx < (mnQ paa qaa)))) && (!(decide ((mxQ paa qaa) < pxx)))))).b, (mV (.bool ((!(decide (pxx < (mnQ paa qaa)))) && (!(decide ((mxQ paa qaa) < pxx)))))).b, (mIf ((!(decide (pxx < (mnQ paa qaa)))) && (!(decide ((mxQ paa qaa) < pxx)))) (mP (mK pbb 4 cbb) (mK qbb 4 dbb))).b, (mIf ((!(decide (pxx < (mnQ paa qaa)))) && (!(decide ((mxQ paa qaa) < pxx)))) (mK pxx 4 cxx)).b, (mIf ((!(decide (pxx < (mnQ paa qaa)))) && (!(decide ((mxQ paa qaa) < pxx)))) (mV (.bool ((!(decide (pxx < (mnQ pbb qbb)))) && (!(decide ((mxQ pbb qbb) < pxx))))))).b, (mV (.bool (((!(decide (pxx < (mnQ paa qaa)))) && (!(decide ((mxQ paa qaa) < pxx)))) && ((!(decide (pxx < (mnQ pbb qbb)))) && (!(decide ((mxQ pbb qbb) < pxx))))))).b]) (by rw [z327]; kernel_rfl) (mG_mono _) (ops_ok ⟨?_, ?_, ?_, ?_, ?_, ?_, ?_, ?_, trivial⟩) ?_
   · refine opk_pure rfl rfl fun a w hb hf hd => ?_
     obtain ⟨cs, h1, h2, h3, h4, h5⟩ := bx.below hb x316
     exact ⟨_, run_load_row _ _ rfl (ev ((hf 4 (out_of (by kernel_rfl))).trans s329)) h1 Tryz.underlying44 rfl (by rw [h2]; exact info_Interval), fun _ _ => h5⟩
   · refine opk_pure rfl rfl fun a w hb hf hd => ?_
     obtain ⟨cs, h1, h2, h3, h4, h5⟩ := bx.below hb x315
     exact ⟨_, run_load_row _ _ rfl (ev ((hf 10 (out_of (by kernel_rfl))).trans s338)) h1 Tryz.underlying26 rfl (by rw [h2]; exact info_Rat), fun _ _ => h5⟩
   · refine opk_call rfl rfl fun a w hb hf hd => ?_
     have e0 : a.eval (.tmp 48) = sl a 48 := rfl
     have e1 : a.eval (.tmp 49) = sl a 49 := rfl
     exact ⟨33, #[sl a 48, sl a 49], run_call rfl rfl (fun _ _ => by kernel_rfl) (args_2 e0 e1), (iv_containsN  (by omega) (by omega) (mP_imp (m1' := (mR paa 4)) (m2' := (mR qaa 4)) (fun _ h => (isK.r h)) (fun _ h => (isK.r h)) (hd.at 0 rfl rfl rfl rfl)) (isK.r (hd.at 1 rfl rfl rfl rfl)) (hT.below (B314.trans (hb.mono B314.size)))).mono fun _ _ r => RetS.imp (fun _ _ h => fun _ _ => h) r⟩
   · exact opk_pure rfl rfl fun a w hb hf hd => ⟨_, run_move rfl, fun _ _ => (hd.at 0 rfl rfl rfl rfl)⟩
   · refine opk_guard ((!(decide (pxx < (mnQ paa qaa)))) && (!(decide ((mxQ paa qaa) < pxx)))) rfl rfl rfl rfl (by rw [z327]; decide) (fun a w hb hf hd => (hd.at 0 rfl rfl rfl rfl)) (fun hne _ hγ => absurd hγ hne) (fun hγ => ?_)
     refine opk_pure rfl rfl fun a w hb hf hd => ?_
     obtain ⟨cs, h1, h2, h3, h4, h5⟩ := bx.below hb x317
     exact ⟨_, run_load_row _ _ rfl (ev ((hf 5 (out_of (by kernel_rfl))).trans s330)) h1 Tryz.underlying44 rfl (by rw [h2]; exact info_Interval), fun _ _ _ => h5⟩
   · refine opk_guard ((!(decide (pxx < (mnQ paa qaa)))) && (!(decide ((mxQ paa qaa) < pxx)))) rfl rfl rfl rfl (by rw [z327]; decide) (fun a w hb hf hd => (hd.at 0 rfl rfl rfl rfl)) (fun hne _ hγ => absurd hγ hne) (fun hγ => ?_)
     refine opk_pure rfl rfl fun a w hb hf hd => ?_
     obtain ⟨cs, h1, h2, h3, h4, h5⟩ := bx.below hb x315
     exact ⟨_, run_load_row _ _ rfl (ev ((hf 10 (out_of (by kernel_rfl))).trans s338)) h1 Tryz.underlying26 rfl (by rw [h2]; exact info_Rat), fun _ _ _ => h5⟩
   · refine opk_guard ((!(decide (pxx < (mnQ paa qaa)))) && (!(decide ((mxQ paa qaa) < pxx)))) rfl rfl rfl rfl (by rw [z327]; decide) (fun a w hb hf hd => (hd.at 2 rfl rfl rfl rfl)) (fun hne _ hγ => absurd hγ hne) (fun hγ => ?_)
     refine opk_call rfl rfl fun a w hb hf hd => ?_
     have e0 : a.eval (.tmp 52) = sl a 52 := rfl
     have e1 : a.eval (.tmp 53) = sl a 53 := rfl
     exact ⟨33, #[sl a 52, sl a 53], run_call rfl rfl (fun _ _ => by kernel_rfl) (args_2 e0 e1), (iv_containsN  (by omega) (by omega) (mP_imp (m1' := (mR pbb 4)) (m2' := (mR qbb 4)) (fun _ h => (isK.r h)) (fun _ h => (isK.r h)) ((hd.at 0 rfl rfl rfl rfl) hγ)) (isK.r ((hd.at 1 rfl rfl rfl rfl) hγ)) (hT.below (B314.trans (hb.mono B314.size)))).mono fun _ _ r => RetS.imp (fun _ _ h => fun _ _ _ => h) r⟩
   · exact opk_pure rfl rfl fun a w hb hf hd => ⟨_, run_pick rfl (ev (hd.at 0 rfl rfl rfl rfl)), fun _ _ => pick_and (hd.at 1 rfl rfl rfl rfl)⟩
   intro a342 w343 ms344
   have B345 := B314.trans (ms344.b.mono B314.size)
   have z346 := ms344.sz.trans z327
   have d347 := ms344.df.trans d328
   have s348 := (ms344.fr 4 (out_of (by kernel_rfl))).trans s329
   have s349 := (ms344.fr 5 (out_of (by kernel_rfl))).trans s330
   have s353 := (ms344.fr 36 (out_of (by kernel_rfl))).trans s334
   have s354 := (ms344.fr 37 (out_of (by kernel_rfl))).trans s335
   have s355 := (ms344.fr 38 (out_of (by kernel_rfl))).trans s336
   have s357 := (ms344.fr 10 (out_of (by kernel_rfl))).trans s338
   have s358 := (ms344.fr 11 (out_of (by kernel_rfl))).trans s341
   have s359 := (ms344.fr 12 (out_of (by kernel_rfl))).trans s326
   have x360 := bx.below ms344.b x310
   have x361 := bx.below ms344.b x315
   have x362 := bx.below ms344.b x316
   have x363 := bx.below ms344.b x317
   have x364 := bx.below ms344.b x318
   have x365 := bx.below ms344.b x319
   have s366 : sl a342 55 = .bool (((!(decide (pxx < (mnQ paa qaa)))) && (!(decide ((mxQ paa qaa) < pxx)))) && ((!(decide (pxx < (mnQ pbb qbb)))) && (!(decide ((mxQ pbb qbb) < pxx))))) := ms344.g 7 _ 55 rfl (by decide) trivial rfl
   refine tl_set rfl rfl (run_assign rfl) (by rw [z346]; decide) ?_
   intro a367 z368 d369 s370 fr371
   have s372 := s370.trans s366
   have z373 := z368.trans z346
   have d374 := d369.trans d347
   have s375 := (fr371 4 (by decide)).trans s348
   have s376 := (fr371 5 (by decide)).trans s349
   have s380 := (fr371 36 (by decide)).trans s353
   have s381 := (fr371 37 (by decide)).trans s354
   have s382 := (fr371 38 (by decide)).trans s355
   have s384 := (fr371 10 (by decide)).trans s357
   have s385 := (fr371 11 (by decide)).trans s358
   have s386 := (fr371 12 (by decide)).trans s359
   refine wpList_nil (then_normal ?_)
   refine wp_seq ?_
   refine wp_region_seq 8 (mG [(mP (mK paa 4 caa) (mK qaa 4 daa)).b, (mK pxx 4 cxx).b, (mV (.bool ((!(decide (pxx < (mnQ paa qaa)))) && (!(decide ((mxQ paa qaa) < pxx)))))).b, (mV (.bool ((!(decide (pxx < (mnQ paa qaa)))) && (!(decide ((mxQ paa qaa) < pxx)))))).b, (mIf (!((!(decide (pxx < (mnQ paa qaa)))) && (!(decide ((mxQ paa qaa) < pxx))))) (mP (mK pbb 4 cbb) (mK qbb 4 dbb))).b, (mIf (!((!(decide (pxx < (mnQ paa qaa)))) && (!(decide ((mxQ paa qaa) < pxx))))) (mK pxx 4 cxx)).b, (mIf (!((!(decide (pxx < (mnQ paa qaa)))) && (!(decide ((mxQ paa qaa) < pxx))))) (mV (.bool ((!(decide (pxx < (mnQ pbb qbb)))) && (!(decide ((mxQ pbb qbb) < pxx))))))).b, (mV (.bool (((!(decide (pxx < (mnQ paa qaa)))) && (!(decide ((mxQ paa qaa) < pxx)))) || ((!(decide (pxx < (mnQ pbb qbb)))) && (!(decide ((mxQ pbb qbb) < pxx))))))).b]) (by rw [z373]; kernel_rfl) (mG_mono _) (ops_ok ⟨?_, ?_, ?_, ?_, ?_, ?_, ?_, ?_, trivial⟩) ?_
   · refine opk_pure rfl rfl fun a w hb hf hd => ?_
     obtain ⟨cs, h1, h2, h3, h4, h5⟩ := bx.below hb x362
     exact ⟨_, run_load_row _ _ rfl (ev ((hf 4 (out_of (by kernel_rfl))).trans s375)) h1 Tryz.underlying44 rfl (by rw [h2]; exact info_Interval), fun _ _ => h5⟩
   · refine opk_pure rfl rfl fun a w hb hf hd => ?_
     obtain ⟨cs, h1, h2, h3, h4, h5⟩ := bx.below hb x361
     exact ⟨_, run_load_row _ _ rfl (ev ((hf 10 (out_of (by kernel_rfl))).trans s384)) h1 Tryz.underlying26 rfl (by rw [h2]; exact info_Rat), fun _ _ => h5⟩
   · refine opk_call rfl rfl fun a w hb hf hd => ?_
     have e0 : a.eval (.tmp 56) = sl a 56 := rfl
     have e1 : a.eval (.tmp 57) = sl a 57 := rfl
     exact ⟨33, #[sl a 56, sl a 57], run_call rfl rfl (fun _ _ => by kernel_rfl) (args_2 e0 e1), (iv_containsN  (by omega) (by omega) (mP_imp (m1' := (mR paa 4)) (m2' := (mR qaa 4)) (fun _ h => (isK.r h)) (fun _ h => (isK.r h)) (hd.at 0 rfl rfl rfl rfl)) (isK.r (hd.at 1 rfl rfl rfl rfl)) (hT.below (B345.trans (hb.mono B345.size)))).mono fun _ _ r => RetS.imp (fun _ _ h => fun _ _ => h) r⟩
   · exact opk_pure rfl rfl fun a w hb hf hd => ⟨_, run_move rfl, fun _ _ => (hd.at 0 rfl rfl rfl rfl)⟩
   · refine opk_guard ((!(decide (pxx < (mnQ paa qaa)))) && (!(decide ((mxQ paa qaa) < pxx)))) rfl rfl rfl rfl (by rw [z373]; decide) (fun a w hb hf hd => (hd.at 0 rfl rfl rfl rfl)) (fun hne _ hγ => absurd (Eq.mp (Bool.not_eq_true' _) hγ) hne) (fun hγ0 => ?_)
     have hγ : (!((!(decide (pxx < (mnQ paa qaa)))) && (!(decide ((mxQ paa qaa) < pxx))))) = true := by rw [hγ0]; rfl
     refine opk_pure rfl rfl fun a w hb hf hd => ?_
     obtain ⟨cs, h1, h2, h3, h4, h5⟩ := bx.below hb x363
     exact ⟨_, run_load_row _ _ rfl (ev ((hf 5 (out_of (by kernel_rfl))).trans s376)) h1 Tryz.underlying44 rfl (by rw [h2]; exact info_Interval), fun _ _ _ => h5⟩
   · refine opk_guard ((!(decide (pxx < (mnQ paa qaa)))) && (!(decide ((mxQ paa qaa) < pxx)))) rfl rfl rfl rfl (by rw [z373]; decide) (fun a w hb hf hd => (hd.at 0 rfl rfl rfl rfl)) (fun hne _ hγ => absurd (Eq.mp (Bool.not_eq_true' _) hγ) hne) (fun hγ0 => ?_)
     have hγ : (!((!(decide (pxx < (mnQ paa qaa)))) && (!(decide ((mxQ paa qaa) < pxx))))) = true := by rw [hγ0]; rfl
     refine opk_pure rfl rfl fun a w hb hf hd => ?_
     obtain ⟨cs, h1, h2, h3, h4, h5⟩ := bx.below hb x361
     exact ⟨_, run_load_row _ _ rfl (ev ((hf 10 (out_of (by kernel_rfl))).trans s384)) h1 Tryz.underlying26 rfl (by rw [h2]; exact info_Rat), fun _ _ _ => h5⟩
   · refine opk_guard ((!(decide (pxx < (mnQ paa qaa)))) && (!(decide ((mxQ paa qaa) < pxx)))) rfl rfl rfl rfl (by rw [z373]; decide) (fun a w hb hf hd => (hd.at 2 rfl rfl rfl rfl)) (fun hne _ hγ => absurd (Eq.mp (Bool.not_eq_true' _) hγ) hne) (fun hγ0 => ?_)
     have hγ : (!((!(decide (pxx < (mnQ paa qaa)))) && (!(decide ((mxQ paa qaa) < pxx))))) = true := by rw [hγ0]; rfl
     refine opk_call rfl rfl fun a w hb hf hd => ?_
     have e0 : a.eval (.tmp 60) = sl a 60 := rfl
     have e1 : a.eval (.tmp 61) = sl a 61 := rfl
     exact ⟨33, #[sl a 60, sl a 61], run_call rfl rfl (fun _ _ => by kernel_rfl) (args_2 e0 e1), (iv_containsN  (by omega) (by omega) (mP_imp (m1' := (mR pbb 4)) (m2' := (mR qbb 4)) (fun _ h => (isK.r h)) (fun _ h => (isK.r h)) ((hd.at 0 rfl rfl rfl rfl) hγ)) (isK.r ((hd.at 1 rfl rfl rfl rfl) hγ)) (hT.below (B345.trans (hb.mono B345.size)))).mono fun _ _ r => RetS.imp (fun _ _ h => fun _ _ _ => h) r⟩
   · exact opk_pure rfl rfl fun a w hb hf hd => ⟨_, run_pick rfl (ev (hd.at 0 rfl rfl rfl rfl)), fun _ _ => pick_or fun h => (hd.at 1 rfl rfl rfl rfl) (by rw [h]; rfl)⟩
   intro a388 w389 ms390
   have B391 := B345.trans (ms390.b.mono B345.size)
   have z392 := ms390.sz.trans z373
   have d393 := ms390.df.trans d374
   have s394 := (ms390.fr 4 (out_of (by kernel_rfl))).trans s375
   have s395 := (ms390.fr 5 (out_of (by kernel_rfl))).trans s376
   have s399 := (ms390.fr 36 (out_of (by kernel_rfl))).trans s380
   have s400 := (ms390.fr 37 (out_of (by kernel_rfl))).trans s381
   have s401 := (ms390.fr 38 (out_of (by kernel_rfl))).trans s382
   have s403 := (ms390.fr 10 (out_of (by kernel_rfl))).trans s384
   have s404 := (ms390.fr 11 (out_of (by kernel_rfl))).trans s385
   have s405 := (ms390.fr 12 (out_of (by kernel_rfl))).trans s386
   have s406 := (ms390.fr 13 (out_of (by kernel_rfl))).trans s372
   have x407 := bx.below ms390.b x360
   have x408 := bx.below ms390.b x361
   have x409 := bx.below ms390.b x362
   have x410 := bx.below ms390.b x363
   have x411 := bx.below ms390.b x364
   have x412 := bx.below ms390.b x365
   have s413 : sl a388 63 = .bool (((!(decide (pxx < (mnQ paa qaa)))) && (!(decide ((mxQ paa qaa) < pxx)))) || ((!(decide (pxx < (mnQ pbb qbb)))) && (!(decide ((mxQ pbb qbb) < pxx))))) := ms390.g 7 _ 63 rfl (by decide) trivial rfl
   refine tl_set rfl rfl (run_assign rfl) (by rw [z392]; decide) ?_
   intro a414 z415 d416 s417 fr418
   have s419 := s417.trans s413
   have z420 := z415.trans z392
   have d421 := d416.trans d393
   have s422 := (fr418 4 (by decide)).trans s394
   have s423 := (fr418 5 (by decide)).trans s395
   have s427 := (fr418 36 (by decide)).trans s399
   have s428 := (fr418 37 (by decide)).trans s400
   have s429 := (fr418 38 (by decide)).trans s401
   have s431 := (fr418 10 (by decide)).trans s403
   have s432 := (fr418 11 (by decide)).trans s404
   have s433 := (fr418 12 (by decide)).trans s405
   have s434 := (fr418 13 (by decide)).trans s406
   refine wpList_nil (then_normal ?_)
   refine wp_seq ?_
   refine wp_region_mono 19 [] (mG [(mV (.bool (((!(decide (pxx < (mnQ paa qaa)))) && (!(decide ((mxQ paa qaa) < pxx)))) && ((!(decide (pxx < (mnQ pbb qbb)))) && (!(decide ((mxQ pbb qbb) < pxx))))))).b, (mV (.bool (decide (meE (mxQ (mnQ paa qaa) (mnQ pbb qbb)) (mnQ (mxQ paa qaa) (mxQ pbb qbb)) = 0)))).b, (mV (.bool (decide (meE (mxQ (mnQ paa qaa) (mnQ pbb qbb)) (mnQ (mxQ paa qaa) (mxQ pbb qbb)) = 0)))).b, (mIf (decide (meE (mxQ (mnQ paa qaa) (mnQ pbb qbb)) (mnQ (mxQ paa qaa) (mxQ pbb qbb)) = 0)) (mP (mE (mxQ (mnQ paa qaa) (mnQ pbb qbb)) (meE (mxQ (mnQ paa qaa) (mnQ pbb qbb)) (mnQ (mxQ paa qaa) (mxQ pbb qbb))) 17) (mE (mnQ (mxQ paa qaa) (mxQ pbb qbb)) (meE (mxQ (mnQ paa qaa) (mnQ pbb qbb)) (mnQ (mxQ paa qaa) (mxQ pbb qbb))) 17))).b, (mIf (decide (meE (mxQ (mnQ paa qaa) (mnQ pbb qbb)) (mnQ (mxQ paa qaa) (mxQ pbb qbb)) = 0)) (mK pxx 4 cxx)).b, (mIf (decide (meE (mxQ (mnQ paa qaa) (mnQ pbb qbb)) (mnQ (mxQ paa qaa) (mxQ pbb qbb)) = 0)) (mV (.bool ((!(decide (pxx < (mnQ (if meE (mxQ (mnQ paa qaa) (mnQ pbb qbb)) (mnQ (mxQ paa qaa) (mxQ pbb qbb)) = 0 then mxQ (mnQ paa qaa) (mnQ pbb qbb) else 0) (if meE (mxQ (mnQ paa qaa) (mnQ pbb qbb)) (mnQ (mxQ paa qaa) (mxQ pbb qbb)) = 0 then mnQ (mxQ paa qaa) (mxQ pbb qbb) else 0))))) && (!(decide ((mxQ (if meE (mxQ (mnQ paa qaa) (mnQ pbb qbb)) (mnQ (mxQ paa qaa) (mxQ pbb qbb)) = 0 then mxQ (mnQ paa qaa) (mnQ pbb qbb) else 0) (if meE (mxQ (mnQ paa qaa) (mnQ pbb qbb)) (mnQ (mxQ paa qaa) (mxQ pbb qbb)) = 0 then mnQ (mxQ paa qaa) (mxQ pbb qbb) else 0)) < pxx))))))).b, (mV (.bool ((decide (meE (mxQ (mnQ paa qaa) (mnQ pbb qbb)) (mnQ (mxQ paa qaa) (mxQ pbb qbb)) = 0)) && ((!(decide (pxx < (mnQ (if meE (mxQ (mnQ paa qaa) (mnQ pbb qbb)) (mnQ (mxQ paa qaa) (mxQ pbb qbb)) = 0 then mxQ (mnQ paa qaa) (mnQ pbb qbb) else 0) (if meE (mxQ (mnQ paa qaa) (mnQ pbb qbb)) (mnQ (mxQ paa qaa) (mxQ pbb qbb)) = 0 then mnQ (mxQ paa qaa) (mxQ pbb qbb) else 0))))) && (!(decide ((mxQ (if meE (mxQ (mnQ paa qaa) (mnQ pbb qbb)) (mnQ (mxQ paa qaa) (mxQ pbb qbb)) = 0 then mxQ (mnQ paa qaa) (mnQ pbb qbb) else 0) (if meE (mxQ (mnQ paa qaa) (mnQ pbb qbb)) (mnQ (mxQ paa qaa) (mxQ pbb qbb)) = 0 then mnQ (mxQ paa qaa) (mxQ pbb qbb) else 0)) < pxx))))))).b, (mV (.bool false)).b, (mV (.bool false)).b, (mV (.bool (((!(decide (pxx < (mnQ paa qaa)))) && (!(decide ((mxQ paa qaa) < pxx)))) || ((!(decide (pxx < (mnQ pbb qbb)))) && (!(decide ((mxQ pbb qbb) < pxx))))))).b, (mV (.bool (((!(decide (pxx < (mnQ paa qaa)))) && (!(decide ((mxQ paa qaa) < pxx)))) || ((!(decide (pxx < (mnQ pbb qbb)))) && (!(decide ((mxQ pbb qbb) < pxx))))))).b, (mIf (((!(decide (pxx < (mnQ paa qaa)))) && (!(decide ((mxQ paa qaa) < pxx)))) || ((!(decide (pxx < (mnQ pbb qbb)))) && (!(decide ((mxQ pbb qbb) < pxx))))) (mP (mK paa 4 caa) (mK qaa 4 daa))).b, (mIf (((!(decide (pxx < (mnQ paa qaa)))) && (!(decide ((mxQ paa qaa) < pxx)))) || ((!(decide (pxx < (mnQ pbb qbb)))) && (!(decide ((mxQ pbb qbb) < pxx))))) (mP (mK pbb 4 cbb) (mK qbb 4 dbb))).b, (mIf (((!(decide (pxx < (mnQ paa qaa)))) && (!(decide ((mxQ paa qaa) < pxx)))) || ((!(decide (pxx < (mnQ pbb qbb)))) && (!(decide ((mxQ pbb qbb) < pxx))))) (mP (mC (mnQ (mnQ paa qaa) (mnQ pbb qbb)) 17) (mC (mxQ (mxQ paa qaa) (mxQ pbb qbb)) 17))).b, (mIf (((!(decide (pxx < (mnQ paa qaa)))) && (!(decide ((mxQ paa qaa) < pxx)))) || ((!(decide (pxx < (mnQ pbb qbb)))) && (!(decide ((mxQ pbb qbb) < pxx))))) (mK pxx 4 cxx)).b, (mIf (((!(decide (pxx < (mnQ paa qaa)))) && (!(decide ((mxQ paa qaa) < pxx)))) || ((!(decide (pxx < (mnQ pbb qbb)))) && (!(decide ((mxQ pbb qbb) < pxx))))) (mV (.bool ((!(decide (pxx < (mnQ (mnQ (mnQ paa qaa) (mnQ pbb qbb)) (mxQ (mxQ paa qaa) (mxQ pbb qbb)))))) && (!(decide ((mxQ (mnQ (mnQ paa qaa) (mnQ pbb qbb)) (mxQ (mxQ paa qaa) (mxQ pbb qbb))) < pxx))))))).b, (mIf (((!(decide (pxx < (mnQ paa qaa)))) && (!(decide ((mxQ paa qaa) < pxx)))) || ((!(decide (pxx < (mnQ pbb qbb)))) && (!(decide ((mxQ pbb qbb) < pxx))))) (mV (.bool (!((!(decide (pxx < (mnQ (mnQ (mnQ paa qaa) (mnQ pbb qbb)) (mxQ (mxQ paa qaa) (mxQ pbb qbb)))))) && (!(decide ((mxQ (mnQ (mnQ paa qaa) (mnQ pbb qbb)) (mxQ (mxQ paa qaa) (mxQ pbb qbb))) < pxx)))))))).b, (mV (.bool ((((!(decide (pxx < (mnQ paa qaa)))) && (!(decide ((mxQ paa qaa) < pxx)))) || ((!(decide (pxx < (mnQ pbb qbb)))) && (!(decide ((mxQ pbb qbb) < pxx))))) && (!((!(decide (pxx < (mnQ (mnQ (mnQ paa qaa) (mnQ pbb qbb)) (mxQ (mxQ paa qaa) (mxQ pbb qbb)))))) && (!(decide ((mxQ (mnQ (mnQ paa qaa) (mnQ pbb qbb)) (mxQ (mxQ paa qaa) (mxQ pbb qbb))) < pxx)))))))).b, (mV (.bool false)).b]) (by kernel_rfl) (by rw [z420]; kernel_rfl) (fun h => absurd rfl h) (mG_mono _) (ops_ok ⟨?_, ?_, ?_, ?_, ?_, ?_, ?_, ?_, ?_, ?_, ?_, ?_, ?_, ?_, ?_, ?_, ?_, ?_, ?_, trivial⟩) ?_
   · exact opk_pure rfl rfl fun a w hb hf hd => ⟨_, run_move rfl, fun _ _ => ((hf 13 (out_of (by kernel_rfl))).trans s434)⟩
   · exact opk_pure rfl rfl fun a w hb hf hd => ⟨_, run_move rfl, fun _ _ => ((hf 12 (out_of (by kernel_rfl))).trans s433)⟩
   · exact opk_pure rfl rfl fun a w hb hf hd => ⟨_, run_move rfl, fun _ _ => (hd.at 0 rfl rfl rfl rfl)⟩
   · refine opk_guard (decide (meE (mxQ (mnQ paa qaa) (mnQ pbb qbb)) (mnQ (mxQ paa qaa) (mxQ pbb qbb)) = 0)) rfl rfl rfl rfl (by rw [z420]; decide) (fun a w hb hf hd => (hd.at 0 rfl rfl rfl rfl)) (fun hne _ hγ => absurd hγ hne) (fun hγ => ?_)
     refine opk_pure rfl rfl fun a w hb hf hd => ?_
     obtain ⟨cs, h1, h2, h3, h4, h5⟩ := bx.below hb x407
     exact ⟨_, run_load_row _ _ rfl (ev ((hf 11 (out_of (by kernel_rfl))).trans s432)) h1 Tryz.underlying44 rfl (by rw [h2]; exact info_Interval), fun _ _ _ => h5⟩
   · refine opk_guard (decide (meE (mxQ (mnQ paa qaa) (mnQ pbb qbb)) (mnQ (mxQ paa qaa) (mxQ pbb qbb)) = 0)) rfl rfl rfl rfl (by rw [z420]; decide) (fun a w hb hf hd => (hd.at 0 rfl rfl rfl rfl)) (fun hne _ hγ => absurd hγ hne) (fun hγ => ?_)
     refine opk_pure rfl rfl fun a w hb hf hd => ?_
     obtain ⟨cs, h1, h2, h3, h4, h5⟩ := bx.below hb x408
     exact ⟨_, run_load_row _ _ rfl (ev ((hf 10 (out_of (by kernel_rfl))).trans s431)) h1 Tryz.underlying26 rfl (by rw [h2]; exact info_Rat), fun _ _ _ => h5⟩
   · refine opk_guard (decide (meE (mxQ (mnQ paa qaa) (mnQ pbb qbb)) (mnQ (mxQ paa qaa) (mxQ pbb qbb)) = 0)) rfl rfl rfl rfl (by rw [z420]; decide) (fun a w hb hf hd => (hd.at 2 rfl rfl rfl rfl)) (fun hne _ hγ => absurd hγ hne) (fun hγ => ?_)
     refine opk_call rfl rfl fun a w hb hf hd => ?_
     have e0 : a.eval (.tmp 67) = sl a 67 := rfl
     have e1 : a.eval (.tmp 68) = sl a 68 := rfl
     exact ⟨33, #[sl a 67, sl a 68], run_call rfl rfl (fun _ _ => by kernel_rfl) (args_2 e0 e1), (iv_containsN  (by omega) (by omega) (mP_imp (m1' := (mR (if meE (mxQ (mnQ paa qaa) (mnQ pbb qbb)) (mnQ (mxQ paa qaa) (mxQ pbb qbb)) = 0 then mxQ (mnQ paa qaa) (mnQ pbb qbb) else 0) 17)) (m2' := (mR (if meE (mxQ (mnQ paa qaa) (mnQ pbb qbb)) (mnQ (mxQ paa qaa) (mxQ pbb qbb)) = 0 then mnQ (mxQ paa qaa) (mxQ pbb qbb) else 0) 17)) (fun _ h => (isE.r h)) (fun _ h => (isE.r h)) ((hd.at 0 rfl rfl rfl rfl) hγ)) (isK.r ((hd.at 1 rfl rfl rfl rfl) hγ)) (hT.below (B391.trans (hb.mono B391.size)))).mono fun _ _ r => RetS.imp (fun _ _ h => fun _ _ _ => h) r⟩
   · exact opk_pure rfl rfl fun a w hb hf hd => ⟨_, run_pick rfl (ev (hd.at 0 rfl rfl rfl rfl)), fun _ _ => pick_and (hd.at 1 rfl rfl rfl rfl)⟩
   · exact opk_pure rfl rfl fun a w hb hf hd => ⟨_, run_neqb rfl (ev (hd.at 0 rfl rfl rfl rfl)) (ev (hd.at 1 rfl rfl rfl rfl)), fun _ _ => (Eq.trans (b := Value.bool ((((!(decide (pxx < (mnQ paa qaa)))) && (!(decide ((mxQ paa qaa) < pxx)))) && ((!(decide (pxx < (mnQ pbb qbb)))) && (!(decide ((mxQ pbb qbb) < pxx))))) != ((decide (meE (mxQ (mnQ paa qaa) (mnQ pbb qbb)) (mnQ (mxQ paa qaa) (mxQ pbb qbb)) = 0)) && ((!(decide (pxx < (mnQ (if meE (mxQ (mnQ paa qaa) (mnQ pbb qbb)) (mnQ (mxQ paa qaa) (mxQ pbb qbb)) = 0 then mxQ (mnQ paa qaa) (mnQ pbb qbb) else 0) (if meE (mxQ (mnQ paa qaa) (mnQ pbb qbb)) (mnQ (mxQ paa qaa) (mxQ pbb qbb)) = 0 then mnQ (mxQ paa qaa) (mxQ pbb qbb) else 0))))) && (!(decide ((mxQ (if meE (mxQ (mnQ paa qaa) (mnQ pbb qbb)) (mnQ (mxQ paa qaa) (mxQ pbb qbb)) = 0 then mxQ (mnQ paa qaa) (mnQ pbb qbb) else 0) (if meE (mxQ (mnQ paa qaa) (mnQ pbb qbb)) (mnQ (mxQ paa qaa) (mxQ pbb qbb)) = 0 then mnQ (mxQ paa qaa) (mxQ pbb qbb) else 0)) < pxx))))))) rfl (congrArg Value.bool meets_1))⟩
   · exact opk_pure rfl rfl fun a w hb hf hd => ⟨_, run_move rfl, fun _ _ => (hd.at 0 rfl rfl rfl rfl)⟩
   · refine opk_guard false rfl rfl rfl rfl (by rw [z420]; decide) (fun a w hb hf hd => (hd.at 0 rfl rfl rfl rfl)) (fun h => absurd rfl h) (fun _ => ?_)
     exact opk_pure rfl rfl fun a w hb hf hd => ⟨_, run_move rfl, fun _ _ => ((hf 14 (out_of (by kernel_rfl))).trans s419)⟩
   · refine opk_guard false rfl rfl rfl rfl (by rw [z420]; decide) (fun a w hb hf hd => (hd.at 1 rfl rfl rfl rfl)) (fun h => absurd rfl h) (fun _ => ?_)
     exact opk_pure rfl rfl fun a w hb hf hd => ⟨_, run_move rfl, fun _ _ => (hd.at 0 rfl rfl rfl rfl)⟩
   · refine opk_guard (((!(decide (pxx < (mnQ paa qaa)))) && (!(decide ((mxQ paa qaa) < pxx)))) || ((!(decide (pxx < (mnQ pbb qbb)))) && (!(decide ((mxQ pbb qbb) < pxx))))) rfl rfl rfl rfl (by rw [z420]; decide) (fun a w hb hf hd => (hd.at 0 rfl rfl rfl rfl)) (fun hne _ hγ => absurd hγ hne) (fun hγ => ?_)
     refine opk_pure rfl rfl fun a w hb hf hd => ?_
     obtain ⟨cs, h1, h2, h3, h4, h5⟩ := bx.below hb x409
     exact ⟨_, run_load_row _ _ rfl (ev ((hf 4 (out_of (by kernel_rfl))).trans s422)) h1 Tryz.underlying44 rfl (by rw [h2]; exact info_Interval), fun _ _ _ => h5⟩
   · refine opk_guard (((!(decide (pxx < (mnQ paa qaa)))) && (!(decide ((mxQ paa qaa) < pxx)))) || ((!(decide (pxx < (mnQ pbb qbb)))) && (!(decide ((mxQ pbb qbb) < pxx))))) rfl rfl rfl rfl (by rw [z420]; decide) (fun a w hb hf hd => (hd.at 0 rfl rfl rfl rfl)) (fun hne _ hγ => absurd hγ hne) (fun hγ => ?_)
     refine opk_pure rfl rfl fun a w hb hf hd => ?_
     obtain ⟨cs, h1, h2, h3, h4, h5⟩ := bx.below hb x410
     exact ⟨_, run_load_row _ _ rfl (ev ((hf 5 (out_of (by kernel_rfl))).trans s423)) h1 Tryz.underlying44 rfl (by rw [h2]; exact info_Interval), fun _ _ _ => h5⟩
   · refine opk_guard (((!(decide (pxx < (mnQ paa qaa)))) && (!(decide ((mxQ paa qaa) < pxx)))) || ((!(decide (pxx < (mnQ pbb qbb)))) && (!(decide ((mxQ pbb qbb) < pxx))))) rfl rfl rfl rfl (by rw [z420]; decide) (fun a w hb hf hd => (hd.at 2 rfl rfl rfl rfl)) (fun hne _ hγ => absurd hγ hne) (fun hγ => ?_)
     refine opk_call rfl rfl fun a w hb hf hd => ?_
     have e0 : a.eval (.tmp 75) = sl a 75 := rfl
     have e1 : a.eval (.tmp 76) = sl a 76 := rfl
     exact ⟨57, #[sl a 75, sl a 76], run_call rfl rfl (fun _ _ => by kernel_rfl) (args_2 e0 e1), (iv_hull  (by omega) (by omega) (mP_imp (m1' := (mR paa 4)) (m2' := (mR qaa 4)) (fun _ h => (isK.r h)) (fun _ h => (isK.r h)) ((hd.at 0 rfl rfl rfl rfl) hγ)) (mP_imp (m1' := (mR pbb 4)) (m2' := (mR qbb 4)) (fun _ h => (isK.r h)) (fun _ h => (isK.r h)) ((hd.at 1 rfl rfl rfl rfl) hγ)) (hT.below (B391.trans (hb.mono B391.size)))).mono fun _ _ r => RetS.imp (fun _ _ h => fun _ _ _ => (mP_imp (fun _ h => (isC.mono h (by omega))) (fun _ h => (isC.mono h (by omega))) h)) r⟩
   · refine opk_guard (((!(decide (pxx < (mnQ paa qaa)))) && (!(decide ((mxQ paa qaa) < pxx)))) || ((!(decide (pxx < (mnQ pbb qbb)))) && (!(decide ((mxQ pbb qbb) < pxx))))) rfl rfl rfl rfl (by rw [z420]; decide) (fun a w hb hf hd => (hd.at 0 rfl rfl rfl rfl)) (fun hne _ hγ => absurd hγ hne) (fun hγ => ?_)
     refine opk_pure rfl rfl fun a w hb hf hd => ?_
     obtain ⟨cs, h1, h2, h3, h4, h5⟩ := bx.below hb x408
     exact ⟨_, run_load_row _ _ rfl (ev ((hf 10 (out_of (by kernel_rfl))).trans s431)) h1 Tryz.underlying26 rfl (by rw [h2]; exact info_Rat), fun _ _ _ => h5⟩
   · refine opk_guard (((!(decide (pxx < (mnQ paa qaa)))) && (!(decide ((mxQ paa qaa) < pxx)))) || ((!(decide (pxx < (mnQ pbb qbb)))) && (!(decide ((mxQ pbb qbb) < pxx))))) rfl rfl rfl rfl (by rw [z420]; decide) (fun a w hb hf hd => (hd.at 3 rfl rfl rfl rfl)) (fun hne _ hγ => absurd hγ hne) (fun hγ => ?_)
     refine opk_call rfl rfl fun a w hb hf hd => ?_
     have e0 : a.eval (.tmp 77) = sl a 77 := rfl
     have e1 : a.eval (.tmp 78) = sl a 78 := rfl
     exact ⟨33, #[sl a 77, sl a 78], run_call rfl rfl (fun _ _ => by kernel_rfl) (args_2 e0 e1), (iv_containsN  (by omega) (by omega) (mP_imp (m1' := (mR (mnQ (mnQ paa qaa) (mnQ pbb qbb)) 17)) (m2' := (mR (mxQ (mxQ paa qaa) (mxQ pbb qbb)) 17)) (fun _ h => (isC.r h)) (fun _ h => (isC.r h)) ((hd.at 0 rfl rfl rfl rfl) hγ)) (isK.r ((hd.at 1 rfl rfl rfl rfl) hγ)) (hT.below (B391.trans (hb.mono B391.size)))).mono fun _ _ r => RetS.imp (fun _ _ h => fun _ _ _ => h) r⟩
   · refine opk_guard (((!(decide (pxx < (mnQ paa qaa)))) && (!(decide ((mxQ paa qaa) < pxx)))) || ((!(decide (pxx < (mnQ pbb qbb)))) && (!(decide ((mxQ pbb qbb) < pxx))))) rfl rfl rfl rfl (by rw [z420]; decide) (fun a w hb hf hd => (hd.at 1 rfl rfl rfl rfl)) (fun hne _ hγ => absurd hγ hne) (fun hγ => ?_)
     exact opk_pure rfl rfl fun a w hb hf hd => ⟨_, run_not rfl (ev ((hd.at 0 rfl rfl rfl rfl) hγ)), fun _ _ _ => rfl⟩
   · refine opk_guard false rfl rfl rfl rfl (by rw [z420]; decide) (fun a w hb hf hd => (hd.at 2 rfl rfl rfl rfl)) (fun h => absurd rfl h) (fun _ => ?_)
     exact opk_pure rfl rfl fun a w hb hf hd => ⟨_, run_pick rfl (ev (hd.at 0 rfl rfl rfl rfl)), fun _ _ => pick_and (hd.at 1 rfl rfl rfl rfl)⟩
   · exact opk_pure rfl rfl fun a w hb hf hd => ⟨_, run_pick rfl (ev (hd.at 0 rfl rfl rfl rfl)), fun _ _ => (Eq.trans (b := Value.bool (false || ((((!(decide (pxx < (mnQ paa qaa)))) && (!(decide ((mxQ paa qaa) < pxx)))) || ((!(decide (pxx < (mnQ pbb qbb)))) && (!(decide ((mxQ pbb qbb) < pxx))))) && (!((!(decide (pxx < (mnQ (mnQ (mnQ paa qaa) (mnQ pbb qbb)) (mxQ (mxQ paa qaa) (mxQ pbb qbb)))))) && (!(decide ((mxQ (mnQ (mnQ paa qaa) (mnQ pbb qbb)) (mxQ (mxQ paa qaa) (mxQ pbb qbb))) < pxx)))))))) (pick_or fun h => (hd.at 1 rfl rfl rfl rfl)) (congrArg Value.bool meets_2))⟩
   intro a436 w437 ms438
   have B439 := B391.trans (ms438.b.mono B391.size)
   have z440 := ms438.sz.trans z420
   have d441 := ms438.df.trans d421
   have s442 := (ms438.fr 4 (out_of (by kernel_rfl))).trans s422
   have s443 := (ms438.fr 5 (out_of (by kernel_rfl))).trans s423
   have s447 := (ms438.fr 36 (out_of (by kernel_rfl))).trans s427
   have s448 := (ms438.fr 37 (out_of (by kernel_rfl))).trans s428
   have s449 := (ms438.fr 38 (out_of (by kernel_rfl))).trans s429
   have x453 := bx.below ms438.b x407
   have x454 := bx.below ms438.b x408
   have x455 := bx.below ms438.b x409
   have x456 := bx.below ms438.b x410
   have x457 := bx.below ms438.b x411
   have x458 := bx.below ms438.b x412
   have s459 : sl a436 82 = .bool false := ms438.g 18 _ 82 rfl (by decide) trivial rfl
   refine wpList_nil (then_normal ?_)
   refine wp_cond_false (ev s459) ?_
   refine wp_skip (in_normal (then_normal ?_))
   refine wp_region_seq 1 (mG [(mV (.int .i64 1)).b]) (by rw [z440]; kernel_rfl) (mG_mono _) (ops_ok ⟨?_, trivial⟩) ?_
   · exact opk_pure rfl rfl fun a w hb hf hd => ⟨_, run_add rfl (ev ((hf 38 (out_of (by kernel_rfl))).trans s449)) rfl (by omega) (by omega), fun _ _ => rfl⟩
   intro a460 w461 ms462
   have B463 := B439.trans (ms462.b.mono B439.size)
   have z464 := ms462.sz.trans z440
   have d465 := ms462.df.trans d441
   have s466 := (ms462.fr 4 (out_of (by kernel_rfl))).trans s442
   have s467 := (ms462.fr 5 (out_of (by kernel_rfl))).trans s443
   have s471 := (ms462.fr 36 (out_of (by kernel_rfl))).trans s447
   have s472 := (ms462.fr 37 (out_of (by kernel_rfl))).trans s448
   have x478 := bx.below ms462.b x453
   have x479 := bx.below ms462.b x454
   have x480 := bx.below ms462.b x455
   have x481 := bx.below ms462.b x456
   have x482 := bx.below ms462.b x457
   have x483 := bx.below ms462.b x458
   have s484 : sl a460 83 = .int .i64 1 := ms462.g 0 _ 83 rfl (by decide) trivial rfl
   refine tl_set rfl rfl (run_move rfl) (by rw [z464]; decide) ?_
   intro a485 z486 d487 s488 fr489
   have s490 := s488.trans s484
   have z491 := z486.trans z464
   have d492 := d487.trans d465
   have s493 := (fr489 4 (by decide)).trans s466
   have s494 := (fr489 5 (by decide)).trans s467
   have s498 := (fr489 36 (by decide)).trans s471
   have s499 := (fr489 37 (by decide)).trans s472
   refine wpList_nil (then_normal ?_)
   refine rounds_go ?_
   refine wp_seq ?_
   refine wp_region_seq 1 (mG [(mV (.bool true)).b]) (by rw [z491]; kernel_rfl) (mG_mono _) (ops_ok ⟨?_, trivial⟩) ?_
   · exact opk_pure rfl rfl fun a w hb hf hd => ⟨_, run_lss rfl (ev ((hf 38 (out_of (by kernel_rfl))).trans s490)) (ev ((hf 37 (out_of (by kernel_rfl))).trans s499)), fun _ _ => rfl⟩
   intro a505 w506 ms507
   have B508 := B463.trans (ms507.b.mono B463.size)
   have z509 := ms507.sz.trans z491
   have d510 := ms507.df.trans d492
   have s511 := (ms507.fr 4 (out_of (by kernel_rfl))).trans s493
   have s512 := (ms507.fr 5 (out_of (by kernel_rfl))).trans s494
   have s516 := (ms507.fr 36 (out_of (by kernel_rfl))).trans s498
   have s517 := (ms507.fr 37 (out_of (by kernel_rfl))).trans s499
   have s521 := (ms507.fr 38 (out_of (by kernel_rfl))).trans s490
   have x522 := bx.below ms507.b x478
   have x523 := bx.below ms507.b x479
   have x524 := bx.below ms507.b x480
   have x525 := bx.below ms507.b x481
   have x526 := bx.below ms507.b x482
   have x527 := bx.below ms507.b x483
   have s528 : sl a505 39 = .bool true := ms507.g 0 _ 39 rfl (by decide) trivial rfl
   refine wpList_nil (then_normal ?_)
   refine wp_seq ?_
   refine wp_cond_true (ev s528) ?_
   refine wp_skip (then_normal ?_)
   refine wp_seq ?_
   refine wp_block ?_
   refine wp_seq ?_
   refine wp_region_seq 2 (mG [(mV (.pointer (some ⟨g155, 3, none⟩))).b, (mC (btw paa qaa j3) 88).b]) (by rw [z509]; kernel_rfl) (mG_mono _) (ops_ok ⟨?_, ?_, trivial⟩) ?_
   · exact opk_pure rfl rfl fun a w hb hf hd => ⟨_, addr_sl3_1 rfl (ev ((hf 36 (out_of (by kernel_rfl))).trans s516)) (ev ((hf 38 (out_of (by kernel_rfl))).trans s521)), fun _ _ => rfl⟩
   · refine opk_pure rfl rfl fun a w hb hf hd => ?_
     obtain ⟨x0, x1, x2, h1, h2⟩ := (bx.below hb x527).row3_1
     exact ⟨_, run_load_mid _ _ rfl (ev (hd.at 0 rfl rfl rfl rfl)) h1 Tryz.underlying26 rfl info_Rat, fun _ _ => h2⟩
   intro a529 w530 ms531
   have B532 := B508.trans (ms531.b.mono B508.size)
   have z533 := ms531.sz.trans z509
   have d534 := ms531.df.trans d510
   have s535 := (ms531.fr 4 (out_of (by kernel_rfl))).trans s511
   have s536 := (ms531.fr 5 (out_of (by kernel_rfl))).trans s512
   have s540 := (ms531.fr 36 (out_of (by kernel_rfl))).trans s516
   have s541 := (ms531.fr 37 (out_of (by kernel_rfl))).trans s517
   have s544 := (ms531.fr 38 (out_of (by kernel_rfl))).trans s521
   have x546 := bx.below ms531.b x522
   have x547 := bx.below ms531.b x523
   have x548 := bx.below ms531.b x524
   have x549 := bx.below ms531.b x525
   have x550 := bx.below ms531.b x526
   have x551 := bx.below ms531.b x527
   have s552 : (mC (btw paa qaa j3) 88).S w530 (sl a529 41) := ms531.g 1 _ 41 rfl (by decide) trivial rfl
   refine tl_new rfl rfl (run_alloc_op rfl zero_Rat) (by rw [z533]; decide) ?_
   intro a553 w554 g555 z556 d557 s558 fr559 hg560 hc561 hb562
   have z563 := z556.trans z533
   have d564 := d557.trans d534
   have s565 := (fr559 4 (by decide)).trans s535
   have s566 := (fr559 5 (by decide)).trans s536
   have s570 := (fr559 36 (by decide)).trans s540
   have s571 := (fr559 37 (by decide)).trans s541
   have s574 := (fr559 38 (by decide)).trans s544
   have s576 : (mC (btw paa qaa j3) 88).S w530 (sl a553 41) := by rw [fr559 41 (by decide)]; exact s552
   have B577 := B532.trans (hb562.mono B532.size)
   have ne579 : g273 ≠ g555 := by have := x546.lt; omega
   have x578 := bx.below hb562 x546
   have ne581 : g205 ≠ g555 := by have := x547.lt; omega
   have x580 := bx.below hb562 x547
   have ne583 : g13 ≠ g555 := by have := x548.lt; omega
   have x582 := bx.below hb562 x548
   have ne585 : g32 ≠ g555 := by have := x549.lt; omega
   have x584 := bx.below hb562 x549
   have ne587 : g54 ≠ g555 := by have := x550.lt; omega
   have x586 := bx.below hb562 x550
   have ne589 : g155 ≠ g555 := by have := x551.lt; omega
   have x588 := bx.below hb562 x551
   have s590 := (mC (btw paa qaa j3) 88).mono _ _ _ (Ext.of hb562) s576
   have lw592 : w.heap.size ≤ g555 := by have := B532.size; omega
   have x591 := bx_Rat hc561
   refine tl_put rfl rfl rfl (m' := (mC (btw paa qaa j3) 88)) x591 (ev s558) s590 (isC.cv s590) info_Rat ?_
   intro w593 x594 ex595 ot596 bl597
   have B598 := bl597 w (by omega) B577
   have x599 := ot596 (by omega) x578
   have x600 := ot596 (by omega) x580
   have x601 := ot596 (by omega) x582
   have x602 := ot596 (by omega) x584
   have x603 := ot596 (by omega) x586
   have x604 := ot596 (by omega) x588
   have s605 := (mC (btw paa qaa j3) 88).mono _ _ _ ex595 s590
   refine wpList_nil (then_normal ?_)
   refine wp_seq ?_
   refine wp_region_seq 6 (mG [(mP (mK paa 4 caa) (mK qaa 4 daa)).b, (mP (mK pbb 4 cbb) (mK qbb 4 dbb)).b, (mT (mP (mE (mxQ (mnQ paa qaa) (mnQ pbb qbb)) (meE (mxQ (mnQ paa qaa) (mnQ pbb qbb)) (mnQ (mxQ paa qaa) (mxQ pbb qbb))) 17) (mE (mnQ (mxQ paa qaa) (mxQ pbb qbb)) (meE (mxQ (mnQ paa qaa) (mnQ pbb qbb)) (mnQ (mxQ paa qaa) (mxQ pbb qbb))) 17)) (mV (.bool (decide (meE (mxQ (mnQ paa qaa) (mnQ pbb qbb)) (mnQ (mxQ paa qaa) (mxQ pbb qbb)) = 0))))).b, (mT (mP (mE (mxQ (mnQ paa qaa) (mnQ pbb qbb)) (meE (mxQ (mnQ paa qaa) (mnQ pbb qbb)) (mnQ (mxQ paa qaa) (mxQ pbb qbb))) 17) (mE (mnQ (mxQ paa qaa) (mxQ pbb qbb)) (meE (mxQ (mnQ paa qaa) (mnQ pbb qbb)) (mnQ (mxQ paa qaa) (mxQ pbb qbb))) 17)) (mV (.bool (decide (meE (mxQ (mnQ paa qaa) (mnQ pbb qbb)) (mnQ (mxQ paa qaa) (mxQ pbb qbb)) = 0))))).b, (mP (mE (mxQ (mnQ paa qaa) (mnQ pbb qbb)) (meE (mxQ (mnQ paa qaa) (mnQ pbb qbb)) (mnQ (mxQ paa qaa) (mxQ pbb qbb))) 17) (mE (mnQ (mxQ paa qaa) (mxQ pbb qbb)) (meE (mxQ (mnQ paa qaa) (mnQ pbb qbb)) (mnQ (mxQ paa qaa) (mxQ pbb qbb))) 17)).b, (mV (.bool (decide (meE (mxQ (mnQ paa qaa) (mnQ pbb qbb)) (mnQ (mxQ paa qaa) (mxQ pbb qbb)) = 0)))).b]) (by rw [z563]; kernel_rfl) (mG_mono _) (ops_ok ⟨?_, ?_, ?_, ?_, ?_, ?_, trivial⟩) ?_
   · refine opk_pure rfl rfl fun a w hb hf hd => ?_
     obtain ⟨cs, h1, h2, h3, h4, h5⟩ := bx.below hb x601
     exact ⟨_, run_load_row _ _ rfl (ev ((hf 4 (out_of (by kernel_rfl))).trans s565)) h1 Tryz.underlying44 rfl (by rw [h2]; exact info_Interval), fun _ _ => h5⟩
   · refine opk_pure rfl rfl fun a w hb hf hd => ?_
     obtain ⟨cs, h1, h2, h3, h4, h5⟩ := bx.below hb x602
     exact ⟨_, run_load_row _ _ rfl (ev ((hf 5 (out_of (by kernel_rfl))).trans s566)) h1 Tryz.underlying44 rfl (by rw [h2]; exact info_Interval), fun _ _ => h5⟩
   · refine opk_call rfl rfl fun a w hb hf hd => ?_
     have e0 : a.eval (.tmp 43) = sl a 43 := rfl
     have e1 : a.eval (.tmp 44) = sl a 44 := rfl
     exact ⟨28, #[sl a 43, sl a 44], run_call rfl rfl (fun _ _ => by kernel_rfl) (args_2 e0 e1), (iv_meet  (by omega) (by omega) (mP_imp (m1' := (mR paa 4)) (m2' := (mR qaa 4)) (fun _ h => (isK.r h)) (fun _ h => (isK.r h)) (hd.at 0 rfl rfl rfl rfl)) (mP_imp (m1' := (mR pbb 4)) (m2' := (mR qbb 4)) (fun _ h => (isK.r h)) (fun _ h => (isK.r h)) (hd.at 1 rfl rfl rfl rfl)) (hT.below (B598.trans (hb.mono B598.size)))).mono fun _ _ r => RetS.imp (fun _ _ h => fun _ _ => (mT_imp (fun _ h => (mP_imp (fun _ h => (isE.mono h (by omega))) (fun _ h => (isE.mono h (by omega))) h)) (fun _ h => h) h)) r⟩
   · exact opk_pure rfl rfl fun a w hb hf hd => ⟨_, run_move rfl, fun _ _ => (hd.at 0 rfl rfl rfl rfl)⟩
   · refine opk_pure rfl rfl fun a w hb hf hd => ?_
     obtain ⟨x, y, h1, h2, h3⟩ := (hd.at 0 rfl rfl rfl rfl)
     exact ⟨_, run_extract_op rfl (ev h1) rfl, fun _ _ => h2⟩
   · refine opk_pure rfl rfl fun a w hb hf hd => ?_
     obtain ⟨x, y, h1, h2, h3⟩ := (hd.at 0 rfl rfl rfl rfl)
     exact ⟨_, run_extract_op rfl (ev h1) rfl, fun _ _ => h3⟩
   intro a606 w607 ms608
   have B609 := B598.trans (ms608.b.mono B598.size)
   have z610 := ms608.sz.trans z563
   have d611 := ms608.df.trans d564
   have s612 := (ms608.fr 4 (out_of (by kernel_rfl))).trans s565
   have s613 := (ms608.fr 5 (out_of (by kernel_rfl))).trans s566
   have s617 := (ms608.fr 36 (out_of (by kernel_rfl))).trans s570
   have s618 := (ms608.fr 37 (out_of (by kernel_rfl))).trans s571
   have s620 := (ms608.fr 38 (out_of (by kernel_rfl))).trans s574
   have s622 := (ms608.fr 10 (out_of (by kernel_rfl))).trans s558
   have x623 := bx.below ms608.b x594
   have x624 := bx.below ms608.b x599
   have x625 := bx.below ms608.b x601
   have x626 := bx.below ms608.b x602
   have x627 := bx.below ms608.b x603
   have x628 := bx.below ms608.b x604
   have s629 : (mP (mE (mxQ (mnQ paa qaa) (mnQ pbb qbb)) (meE (mxQ (mnQ paa qaa) (mnQ pbb qbb)) (mnQ (mxQ paa qaa) (mxQ pbb qbb))) 17) (mE (mnQ (mxQ paa qaa) (mxQ pbb qbb)) (meE (mxQ (mnQ paa qaa) (mnQ pbb qbb)) (mnQ (mxQ paa qaa) (mxQ pbb qbb))) 17)).S w607 (sl a606 46) := ms608.g 4 _ 46 rfl (by decide) trivial rfl
   have s630 : sl a606 47 = .bool (decide (meE (mxQ (mnQ paa qaa) (mnQ pbb qbb)) (mnQ (mxQ paa qaa) (mxQ pbb qbb)) = 0)) := ms608.g 5 _ 47 rfl (by decide) trivial rfl
   refine tl_new rfl rfl (run_alloc_op rfl zero_Interval) (by rw [z610]; decide) ?_
   intro a631 w632 g633 z634 d635 s636 fr637 hg638 hc639 hb640
   have z641 := z634.trans z610
   have d642 := d635.trans d611
   have s643 := (fr637 4 (by decide)).trans s612
   have s644 := (fr637 5 (by decide)).trans s613
   have s648 := (fr637 36 (by decide)).trans s617
   have s649 := (fr637 37 (by decide)).trans s618
   have s651 := (fr637 38 (by decide)).trans s620
   have s653 := (fr637 10 (by decide)).trans s622
   have s654 : (mP (mE (mxQ (mnQ paa qaa) (mnQ pbb qbb)) (meE (mxQ (mnQ paa qaa) (mnQ pbb qbb)) (mnQ (mxQ paa qaa) (mxQ pbb qbb))) 17) (mE (mnQ (mxQ paa qaa) (mxQ pbb qbb)) (meE (mxQ (mnQ paa qaa) (mnQ pbb qbb)) (mnQ (mxQ paa qaa) (mxQ pbb qbb))) 17)).S w607 (sl a631 46) := by rw [fr637 46 (by decide)]; exact s629
   have s655 := (fr637 47 (by decide)).trans s630
   have B656 := B609.trans (hb640.mono B609.size)
   have ne658 : g555 ≠ g633 := by have := x623.lt; omega
   have x657 := bx.below hb640 x623
   have ne660 : g273 ≠ g633 := by have := x624.lt; omega
   have x659 := bx.below hb640 x624
   have ne662 : g13 ≠ g633 := by have := x625.lt; omega
   have x661 := bx.below hb640 x625
   have ne664 : g32 ≠ g633 := by have := x626.lt; omega
   have x663 := bx.below hb640 x626
   have ne666 : g54 ≠ g633 := by have := x627.lt; omega
   have x665 := bx.below hb640 x627
   have ne668 : g155 ≠ g633 := by have := x628.lt; omega
   have x667 := bx.below hb640 x628
   have s669 := (mP (mE (mxQ (mnQ paa qaa) (mnQ pbb qbb)) (meE (mxQ (mnQ paa qaa) (mnQ pbb qbb)) (mnQ (mxQ paa qaa) (mxQ pbb qbb))) 17) (mE (mnQ (mxQ paa qaa) (mxQ pbb qbb)) (meE (mxQ (mnQ paa qaa) (mnQ pbb qbb)) (mnQ (mxQ paa qaa) (mxQ pbb qbb))) 17)).mono _ _ _ (Ext.of hb640) s654
   have lw671 : w.heap.size ≤ g633 := by have := B609.size; omega
   have x670 := bx_Interval hc639
   refine tl_put rfl rfl rfl (m' := (mP (mE (mxQ (mnQ paa qaa) (mnQ pbb qbb)) (meE (mxQ (mnQ paa qaa) (mnQ pbb qbb)) (mnQ (mxQ paa qaa) (mxQ pbb qbb))) 17) (mE (mnQ (mxQ paa qaa) (mxQ pbb qbb)) (meE (mxQ (mnQ paa qaa) (mnQ pbb qbb)) (mnQ (mxQ paa qaa) (mxQ pbb qbb))) 17))) x670 (ev s636) s669 (mP.cv (fun _ h => (isE.cv h)) (fun _ h => (isE.cv h)) s669) info_Interval ?_
   intro w672 x673 ex674 ot675 bl676
   have B677 := bl676 w (by omega) B656
   have x678 := ot675 (by omega) x657
   have x679 := ot675 (by omega) x659
   have x680 := ot675 (by omega) x661
   have x681 := ot675 (by omega) x663
   have x682 := ot675 (by omega) x665
   have x683 := ot675 (by omega) x667
   have s684 := (mP (mE (mxQ (mnQ paa qaa) (mnQ pbb qbb)) (meE (mxQ (mnQ paa qaa) (mnQ pbb qbb)) (mnQ (mxQ paa qaa) (mxQ pbb qbb))) 17) (mE (mnQ (mxQ paa qaa) (mxQ pbb qbb)) (meE (mxQ (mnQ paa qaa) (mnQ pbb qbb)) (mnQ (mxQ paa qaa) (mxQ pbb qbb))) 17)).mono _ _ _ ex674 s669
   refine tl_set rfl rfl (run_assign rfl) (by rw [z641]; decide) ?_
   intro a685 z686 d687 s688 fr689
   have s690 := s688.trans s655
   have z691 := z686.trans z641
   have d692 := d687.trans d642
   have s693 := (fr689 4 (by decide)).trans s643
   have s694 := (fr689 5 (by decide)).trans s644
   have s698 := (fr689 36 (by decide)).trans s648
   have s699 := (fr689 37 (by decide)).trans s649
   have s701 := (fr689 38 (by decide)).trans s651
   have s703 := (fr689 10 (by decide)).trans s653
   have s706 := (fr689 11 (by decide)).trans s636
   refine wpList_nil (then_normal ?_)
   refine wp_seq ?_
   refine wp_region_seq 8 (mG [(mP (mK paa 4 caa) (mK qaa 4 daa)).b, (mC (btw paa qaa j3) 88).b, (mV (.bool ((!(decide ((btw paa qaa j3) < (mnQ paa qaa)))) && (!(decide ((mxQ paa qaa) < (btw paa qaa j3))))))).b, (mV (.bool ((!(decide ((btw paa qaa j3) < (mnQ paa qaa)))) && (!(decide ((mxQ paa qaa) < (btw paa qaa j3))))))).b, (mIf ((!(decide ((btw paa qaa j3) < (mnQ paa qaa)))) && (!(decide ((mxQ paa qaa) < (btw paa qaa j3))))) (mP (mK pbb 4 cbb) (mK qbb 4 dbb))).b, (mIf ((!(decide ((btw paa qaa j3) < (mnQ paa qaa)))) && (!(decide ((mxQ paa qaa) < (btw paa qaa j3))))) (mC (btw paa qaa j3) 88)).b, (mIf ((!(decide ((btw paa qaa j3) < (mnQ paa qaa)))) && (!(decide ((mxQ paa qaa) < (btw paa qaa j3))))) (mV (.bool ((!(decide ((btw paa qaa j3) < (mnQ pbb qbb)))) && (!(decide ((mxQ pbb qbb) < (btw paa qaa j3)))))))).b, (mV (.bool (((!(decide ((btw paa qaa j3) < (mnQ paa qaa)))) && (!(decide ((mxQ paa qaa) < (btw paa qaa j3))))) && ((!(decide ((btw paa qaa j3) < (mnQ pbb qbb)))) && (!(decide ((mxQ pbb qbb) < (btw paa qaa j3)))))))).b]) (by rw [z691]; kernel_rfl) (mG_mono _) (ops_ok ⟨?_, ?_, ?_, ?_, ?_, ?_, ?_, ?_, trivial⟩) ?_
   · refine opk_pure rfl rfl fun a w hb hf hd => ?_
     obtain ⟨cs, h1, h2, h3, h4, h5⟩ := bx.below hb x680
     exact ⟨_, run_load_row _ _ rfl (ev ((hf 4 (out_of (by kernel_rfl))).trans s693)) h1 Tryz.underlying44 rfl (by rw [h2]; exact info_Interval), fun _ _ => h5⟩
   · refine opk_pure rfl rfl fun a w hb hf hd => ?_
     obtain ⟨cs, h1, h2, h3, h4, h5⟩ := bx.below hb x678
     exact ⟨_, run_load_row _ _ rfl (ev ((hf 10 (out_of (by kernel_rfl))).trans s703)) h1 Tryz.underlying26 rfl (by rw [h2]; exact info_Rat), fun _ _ => h5⟩
   · refine opk_call rfl rfl fun a w hb hf hd => ?_
     have e0 : a.eval (.tmp 48) = sl a 48 := rfl
     have e1 : a.eval (.tmp 49) = sl a 49 := rfl
     exact ⟨33, #[sl a 48, sl a 49], run_call rfl rfl (fun _ _ => by kernel_rfl) (args_2 e0 e1), (iv_containsN  (by omega) (by omega) (mP_imp (m1' := (mR paa 4)) (m2' := (mR qaa 4)) (fun _ h => (isK.r h)) (fun _ h => (isK.r h)) (hd.at 0 rfl rfl rfl rfl)) (isC.r (hd.at 1 rfl rfl rfl rfl)) (hT.below (B677.trans (hb.mono B677.size)))).mono fun _ _ r => RetS.imp (fun _ _ h => fun _ _ => h) r⟩
   · exact opk_pure rfl rfl fun a w hb hf hd => ⟨_, run_move rfl, fun _ _ => (hd.at 0 rfl rfl rfl rfl)⟩
   · refine opk_guard ((!(decide ((btw paa qaa j3) < (mnQ paa qaa)))) && (!(decide ((mxQ paa qaa) < (btw paa qaa j3))))) rfl rfl rfl rfl (by rw [z691]; decide) (fun a w hb hf hd => (hd.at 0 rfl rfl rfl rfl)) (fun hne _ hγ => absurd hγ hne) (fun hγ => ?_)
     refine opk_pure rfl rfl fun a w hb hf hd => ?_
     obtain ⟨cs, h1, h2, h3, h4, h5⟩ := bx.below hb x681
     exact ⟨_, run_load_row _ _ rfl (ev ((hf 5 (out_of (by kernel_rfl))).trans s694)) h1 Tryz.underlying44 rfl (by rw [h2]; exact info_Interval), fun _ _ _ => h5⟩
   · refine opk_guard ((!(decide ((btw paa qaa j3) < (mnQ paa qaa)))) && (!(decide ((mxQ paa qaa) < (btw paa qaa j3))))) rfl rfl rfl rfl (by rw [z691]; decide) (fun a w hb hf hd => (hd.at 0 rfl rfl rfl rfl)) (fun hne _ hγ => absurd hγ hne) (fun hγ => ?_)
     refine opk_pure rfl rfl fun a w hb hf hd => ?_
     obtain ⟨cs, h1, h2, h3, h4, h5⟩ := bx.below hb x678
     exact ⟨_, run_load_row _ _ rfl (ev ((hf 10 (out_of (by kernel_rfl))).trans s703)) h1 Tryz.underlying26 rfl (by rw [h2]; exact info_Rat), fun _ _ _ => h5⟩
   · refine opk_guard ((!(decide ((btw paa qaa j3) < (mnQ paa qaa)))) && (!(decide ((mxQ paa qaa) < (btw paa qaa j3))))) rfl rfl rfl rfl (by rw [z691]; decide) (fun a w hb hf hd => (hd.at 2 rfl rfl rfl rfl)) (fun hne _ hγ => absurd hγ hne) (fun hγ => ?_)
     refine opk_call rfl rfl fun a w hb hf hd => ?_
     have e0 : a.eval (.tmp 52) = sl a 52 := rfl
     have e1 : a.eval (.tmp 53) = sl a 53 := rfl
     exact ⟨33, #[sl a 52, sl a 53], run_call rfl rfl (fun _ _ => by kernel_rfl) (args_2 e0 e1), (iv_containsN  (by omega) (by omega) (mP_imp (m1' := (mR pbb 4)) (m2' := (mR qbb 4)) (fun _ h => (isK.r h)) (fun _ h => (isK.r h)) ((hd.at 0 rfl rfl rfl rfl) hγ)) (isC.r ((hd.at 1 rfl rfl rfl rfl) hγ)) (hT.below (B677.trans (hb.mono B677.size)))).mono fun _ _ r => RetS.imp (fun _ _ h => fun _ _ _ => h) r⟩
   · exact opk_pure rfl rfl fun a w hb hf hd => ⟨_, run_pick rfl (ev (hd.at 0 rfl rfl rfl rfl)), fun _ _ => pick_and (hd.at 1 rfl rfl rfl rfl)⟩
   intro a707 w708 ms709
   have B710 := B677.trans (ms709.b.mono B677.size)
   have z711 := ms709.sz.trans z691
   have d712 := ms709.df.trans d692
   have s713 := (ms709.fr 4 (out_of (by kernel_rfl))).trans s693
   have s714 := (ms709.fr 5 (out_of (by kernel_rfl))).trans s694
   have s718 := (ms709.fr 36 (out_of (by kernel_rfl))).trans s698
   have s719 := (ms709.fr 37 (out_of (by kernel_rfl))).trans s699
   have s721 := (ms709.fr 38 (out_of (by kernel_rfl))).trans s701
   have s723 := (ms709.fr 10 (out_of (by kernel_rfl))).trans s703
   have s724 := (ms709.fr 11 (out_of (by kernel_rfl))).trans s706
   have s725 := (ms709.fr 12 (out_of (by kernel_rfl))).trans s690
   have x726 := bx.below ms709.b x673
   have x727 := bx.below ms709.b x678
   have x728 := bx.below ms709.b x680
   have x729 := bx.below ms709.b x681
   have x730 := bx.below ms709.b x682
   have x731 := bx.below ms709.b x683
   have s732 : sl a707 55 = .bool (((!(decide ((btw paa qaa j3) < (mnQ paa qaa)))) && (!(decide ((mxQ paa qaa) < (btw paa qaa j3))))) && ((!(decide ((btw paa qaa j3) < (mnQ pbb qbb)))) && (!(decide ((mxQ pbb qbb) < (btw paa qaa j3)))))) := ms709.g 7 _ 55 rfl (by decide) trivial rfl
   refine tl_set rfl rfl (run_assign rfl) (by rw [z711]; decide) ?_
   intro a733 z734 d735 s736 fr737
   have s738 := s736.trans s732
   have z739 := z734.trans z711
   have d740 := d735.trans d712
   have s741 := (fr737 4 (by decide)).trans s713
   have s742 := (fr737 5 (by decide)).trans s714
   have s746 := (fr737 36 (by decide)).trans s718
   have s747 := (fr737 37 (by decide)).trans s719
   have s749 := (fr737 38 (by decide)).trans s721
   have s751 := (fr737 10 (by decide)).trans s723
   have s752 := (fr737 11 (by decide)).trans s724
   have s753 := (fr737 12 (by decide)).trans s725
   refine wpList_nil (then_normal ?_)
   refine wp_seq ?_
   refine wp_region_seq 8 (mG [(mP (mK paa 4 caa) (mK qaa 4 daa)).b, (mC (btw paa qaa j3) 88).b, (mV (.bool ((!(decide ((btw paa qaa j3) < (mnQ paa qaa)))) && (!(decide ((mxQ paa qaa) < (btw paa qaa j3))))))).b, (mV (.bool ((!(decide ((btw paa qaa j3) < (mnQ paa qaa)))) && (!(decide ((mxQ paa qaa) < (btw paa qaa j3))))))).b, (mIf (!((!(decide ((btw paa qaa j3) < (mnQ paa qaa)))) && (!(decide ((mxQ paa qaa) < (btw paa qaa j3)))))) (mP (mK pbb 4 cbb) (mK qbb 4 dbb))).b, (mIf (!((!(decide ((btw paa qaa j3) < (mnQ paa qaa)))) && (!(decide ((mxQ paa qaa) < (btw paa qaa j3)))))) (mC (btw paa qaa j3) 88)).b, (mIf (!((!(decide ((btw paa qaa j3) < (mnQ paa qaa)))) && (!(decide ((mxQ paa qaa) < (btw paa qaa j3)))))) (mV (.bool ((!(decide ((btw paa qaa j3) < (mnQ pbb qbb)))) && (!(decide ((mxQ pbb qbb) < (btw paa qaa j3)))))))).b, (mV (.bool (((!(decide ((btw paa qaa j3) < (mnQ paa qaa)))) && (!(decide ((mxQ paa qaa) < (btw paa qaa j3))))) || ((!(decide ((btw paa qaa j3) < (mnQ pbb qbb)))) && (!(decide ((mxQ pbb qbb) < (btw paa qaa j3)))))))).b]) (by rw [z739]; kernel_rfl) (mG_mono _) (ops_ok ⟨?_, ?_, ?_, ?_, ?_, ?_, ?_, ?_, trivial⟩) ?_
   · refine opk_pure rfl rfl fun a w hb hf hd => ?_
     obtain ⟨cs, h1, h2, h3, h4, h5⟩ := bx.below hb x728
     exact ⟨_, run_load_row _ _ rfl (ev ((hf 4 (out_of (by kernel_rfl))).trans s741)) h1 Tryz.underlying44 rfl (by rw [h2]; exact info_Interval), fun _ _ => h5⟩
   · refine opk_pure rfl rfl fun a w hb hf hd => ?_
     obtain ⟨cs, h1, h2, h3, h4, h5⟩ := bx.below hb x727
     exact ⟨_, run_load_row _ _ rfl (ev ((hf 10 (out_of (by kernel_rfl))).trans s751)) h1 Tryz.underlying26 rfl (by rw [h2]; exact info_Rat), fun _ _ => h5⟩
   · refine opk_call rfl rfl fun a w hb hf hd => ?_
     have e0 : a.eval (.tmp 56) = sl a 56 := rfl
     have e1 : a.eval (.tmp 57) = sl a 57 := rfl
     exact ⟨33, #[sl a 56, sl a 57], run_call rfl rfl (fun _ _ => by kernel_rfl) (args_2 e0 e1), (iv_containsN  (by omega) (by omega) (mP_imp (m1' := (mR paa 4)) (m2' := (mR qaa 4)) (fun _ h => (isK.r h)) (fun _ h => (isK.r h)) (hd.at 0 rfl rfl rfl rfl)) (isC.r (hd.at 1 rfl rfl rfl rfl)) (hT.below (B710.trans (hb.mono B710.size)))).mono fun _ _ r => RetS.imp (fun _ _ h => fun _ _ => h) r⟩
   · exact opk_pure rfl rfl fun a w hb hf hd => ⟨_, run_move rfl, fun _ _ => (hd.at 0 rfl rfl rfl rfl)⟩
   · refine opk_guard ((!(decide ((btw paa qaa j3) < (mnQ paa qaa)))) && (!(decide ((mxQ paa qaa) < (btw paa qaa j3))))) rfl rfl rfl rfl (by rw [z739]; decide) (fun a w hb hf hd => (hd.at 0 rfl rfl rfl rfl)) (fun hne _ hγ => absurd (Eq.mp (Bool.not_eq_true' _) hγ) hne) (fun hγ0 => ?_)
     have hγ : (!((!(decide ((btw paa qaa j3) < (mnQ paa qaa)))) && (!(decide ((mxQ paa qaa) < (btw paa qaa j3)))))) = true := by rw [hγ0]; rfl
     refine opk_pure rfl rfl fun a w hb hf hd => ?_
     obtain ⟨cs, h1, h2, h3, h4, h5⟩ := bx.below hb x729
     exact ⟨_, run_load_row _ _ rfl (ev ((hf 5 (out_of (by kernel_rfl))).trans s742)) h1 Tryz.underlying44 rfl (by rw [h2]; exact info_Interval), fun _ _ _ => h5⟩
   · refine opk_guard ((!(decide ((btw paa qaa j3) < (mnQ paa qaa)))) && (!(decide ((mxQ paa qaa) < (btw paa qaa j3))))) rfl rfl rfl rfl (by rw [z739]; decide) (fun a w hb hf hd => (hd.at 0 rfl rfl rfl rfl)) (fun hne _ hγ => absurd (Eq.mp (Bool.not_eq_true' _) hγ) hne) (fun hγ0 => ?_)
     have hγ : (!((!(decide ((btw paa qaa j3) < (mnQ paa qaa)))) && (!(decide ((mxQ paa qaa) < (btw paa qaa j3)))))) = true := by rw [hγ0]; rfl
     refine opk_pure rfl rfl fun a w hb hf hd => ?_
     obtain ⟨cs, h1, h2, h3, h4, h5⟩ := bx.below hb x727
     exact ⟨_, run_load_row _ _ rfl (ev ((hf 10 (out_of (by kernel_rfl))).trans s751)) h1 Tryz.underlying26 rfl (by rw [h2]; exact info_Rat), fun _ _ _ => h5⟩
   · refine opk_guard ((!(decide ((btw paa qaa j3) < (mnQ paa qaa)))) && (!(decide ((mxQ paa qaa) < (btw paa qaa j3))))) rfl rfl rfl rfl (by rw [z739]; decide) (fun a w hb hf hd => (hd.at 2 rfl rfl rfl rfl)) (fun hne _ hγ => absurd (Eq.mp (Bool.not_eq_true' _) hγ) hne) (fun hγ0 => ?_)
     have hγ : (!((!(decide ((btw paa qaa j3) < (mnQ paa qaa)))) && (!(decide ((mxQ paa qaa) < (btw paa qaa j3)))))) = true := by rw [hγ0]; rfl
     refine opk_call rfl rfl fun a w hb hf hd => ?_
     have e0 : a.eval (.tmp 60) = sl a 60 := rfl
     have e1 : a.eval (.tmp 61) = sl a 61 := rfl
     exact ⟨33, #[sl a 60, sl a 61], run_call rfl rfl (fun _ _ => by kernel_rfl) (args_2 e0 e1), (iv_containsN  (by omega) (by omega) (mP_imp (m1' := (mR pbb 4)) (m2' := (mR qbb 4)) (fun _ h => (isK.r h)) (fun _ h => (isK.r h)) ((hd.at 0 rfl rfl rfl rfl) hγ)) (isC.r ((hd.at 1 rfl rfl rfl rfl) hγ)) (hT.below (B710.trans (hb.mono B710.size)))).mono fun _ _ r => RetS.imp (fun _ _ h => fun _ _ _ => h) r⟩
   · exact opk_pure rfl rfl fun a w hb hf hd => ⟨_, run_pick rfl (ev (hd.at 0 rfl rfl rfl rfl)), fun _ _ => pick_or fun h => (hd.at 1 rfl rfl rfl rfl) (by rw [h]; rfl)⟩
   intro a755 w756 ms757
   have B758 := B710.trans (ms757.b.mono B710.size)
   have z759 := ms757.sz.trans z739
   have d760 := ms757.df.trans d740
   have s761 := (ms757.fr 4 (out_of (by kernel_rfl))).trans s741
   have s762 := (ms757.fr 5 (out_of (by kernel_rfl))).trans s742
   have s766 := (ms757.fr 36 (out_of (by kernel_rfl))).trans s746
   have s767 := (ms757.fr 37 (out_of (by kernel_rfl))).trans s747
   have s769 := (ms757.fr 38 (out_of (by kernel_rfl))).trans s749
   have s771 := (ms757.fr 10 (out_of (by kernel_rfl))).trans s751
   have s772 := (ms757.fr 11 (out_of (by kernel_rfl))).trans s752
   have s773 := (ms757.fr 12 (out_of (by kernel_rfl))).trans s753
   have s774 := (ms757.fr 13 (out_of (by kernel_rfl))).trans s738
   have x775 := bx.below ms757.b x726
   have x776 := bx.below ms757.b x727
   have x777 := bx.below ms757.b x728
   have x778 := bx.below ms757.b x729
   have x779 := bx.below ms757.b x730
   have x780 := bx.below ms757.b x731
   have s781 : sl a755 63 = .bool (((!(decide ((btw paa qaa j3) < (mnQ paa qaa)))) && (!(decide ((mxQ paa qaa) < (btw paa qaa j3))))) || ((!(decide ((btw paa qaa j3) < (mnQ pbb qbb)))) && (!(decide ((mxQ pbb qbb) < (btw paa qaa j3)))))) := ms757.g 7 _ 63 rfl (by decide) trivial rfl
   refine tl_set rfl rfl (run_assign rfl) (by rw [z759]; decide) ?_
   intro a782 z783 d784 s785 fr786
   have s787 := s785.trans s781
   have z788 := z783.trans z759
   have d789 := d784.trans d760
   have s790 := (fr786 4 (by decide)).trans s761
   have s791 := (fr786 5 (by decide)).trans s762
   have s795 := (fr786 36 (by decide)).trans s766
   have s796 := (fr786 37 (by decide)).trans s767
   have s798 := (fr786 38 (by decide)).trans s769
   have s800 := (fr786 10 (by decide)).trans s771
   have s801 := (fr786 11 (by decide)).trans s772
   have s802 := (fr786 12 (by decide)).trans s773
   have s803 := (fr786 13 (by decide)).trans s774
   refine wpList_nil (then_normal ?_)
   refine wp_seq ?_
   refine wp_region_mono 19 [] (mG [(mV (.bool (((!(decide ((btw paa qaa j3) < (mnQ paa qaa)))) && (!(decide ((mxQ paa qaa) < (btw paa qaa j3))))) && ((!(decide ((btw paa qaa j3) < (mnQ pbb qbb)))) && (!(decide ((mxQ pbb qbb) < (btw paa qaa j3)))))))).b, (mV (.bool (decide (meE (mxQ (mnQ paa qaa) (mnQ pbb qbb)) (mnQ (mxQ paa qaa) (mxQ pbb qbb)) = 0)))).b, (mV (.bool (decide (meE (mxQ (mnQ paa qaa) (mnQ pbb qbb)) (mnQ (mxQ paa qaa) (mxQ pbb qbb)) = 0)))).b, (mIf (decide (meE (mxQ (mnQ paa qaa) (mnQ pbb qbb)) (mnQ (mxQ paa qaa) (mxQ pbb qbb)) = 0)) (mP (mE (mxQ (mnQ paa qaa) (mnQ pbb qbb)) (meE (mxQ (mnQ paa qaa) (mnQ pbb qbb)) (mnQ (mxQ paa qaa) (mxQ pbb qbb))) 17) (mE (mnQ (mxQ paa qaa) (mxQ pbb qbb)) (meE (mxQ (mnQ paa qaa) (mnQ pbb qbb)) (mnQ (mxQ paa qaa) (mxQ pbb qbb))) 17))).b, (mIf (decide (meE (mxQ (mnQ paa qaa) (mnQ pbb qbb)) (mnQ (mxQ paa qaa) (mxQ pbb qbb)) = 0)) (mC (btw paa qaa j3) 88)).b, (mIf (decide (meE (mxQ (mnQ paa qaa) (mnQ pbb qbb)) (mnQ (mxQ paa qaa) (mxQ pbb qbb)) = 0)) (mV (.bool ((!(decide ((btw paa qaa j3) < (mnQ (if meE (mxQ (mnQ paa qaa) (mnQ pbb qbb)) (mnQ (mxQ paa qaa) (mxQ pbb qbb)) = 0 then mxQ (mnQ paa qaa) (mnQ pbb qbb) else 0) (if meE (mxQ (mnQ paa qaa) (mnQ pbb qbb)) (mnQ (mxQ paa qaa) (mxQ pbb qbb)) = 0 then mnQ (mxQ paa qaa) (mxQ pbb qbb) else 0))))) && (!(decide ((mxQ (if meE (mxQ (mnQ paa qaa) (mnQ pbb qbb)) (mnQ (mxQ paa qaa) (mxQ pbb qbb)) = 0 then mxQ (mnQ paa qaa) (mnQ pbb qbb) else 0) (if meE (mxQ (mnQ paa qaa) (mnQ pbb qbb)) (mnQ (mxQ paa qaa) (mxQ pbb qbb)) = 0 then mnQ (mxQ paa qaa) (mxQ pbb qbb) else 0)) < (btw paa qaa j3)))))))).b, (mV (.bool ((decide (meE (mxQ (mnQ paa qaa) (mnQ pbb qbb)) (mnQ (mxQ paa qaa) (mxQ pbb qbb)) = 0)) && ((!(decide ((btw paa qaa j3) < (mnQ (if meE (mxQ (mnQ paa qaa) (mnQ pbb qbb)) (mnQ (mxQ paa qaa) (mxQ pbb qbb)) = 0 then mxQ (mnQ paa qaa) (mnQ pbb qbb) else 0) (if meE (mxQ (mnQ paa qaa) (mnQ pbb qbb)) (mnQ (mxQ paa qaa) (mxQ pbb qbb)) = 0 then mnQ (mxQ paa qaa) (mxQ pbb qbb) else 0))))) && (!(decide ((mxQ (if meE (mxQ (mnQ paa qaa) (mnQ pbb qbb)) (mnQ (mxQ paa qaa) (mxQ pbb qbb)) = 0 then mxQ (mnQ paa qaa) (mnQ pbb qbb) else 0) (if meE (mxQ (mnQ paa qaa) (mnQ pbb qbb)) (mnQ (mxQ paa qaa) (mxQ pbb qbb)) = 0 then mnQ (mxQ paa qaa) (mxQ pbb qbb) else 0)) < (btw paa qaa j3)))))))).b, (mV (.bool false)).b, (mV (.bool false)).b, (mV (.bool (((!(decide ((btw paa qaa j3) < (mnQ paa qaa)))) && (!(decide ((mxQ paa qaa) < (btw paa qaa j3))))) || ((!(decide ((btw paa qaa j3) < (mnQ pbb qbb)))) && (!(decide ((mxQ pbb qbb) < (btw paa qaa j3)))))))).b, (mV (.bool (((!(decide ((btw paa qaa j3) < (mnQ paa qaa)))) && (!(decide ((mxQ paa qaa) < (btw paa qaa j3))))) || ((!(decide ((btw paa qaa j3) < (mnQ pbb qbb)))) && (!(decide ((mxQ pbb qbb) < (btw paa qaa j3)))))))).b, (mIf (((!(decide ((btw paa qaa j3) < (mnQ paa qaa)))) && (!(decide ((mxQ paa qaa) < (btw paa qaa j3))))) || ((!(decide ((btw paa qaa j3) < (mnQ pbb qbb)))) && (!(decide ((mxQ pbb qbb) < (btw paa qaa j3)))))) (mP (mK paa 4 caa) (mK qaa 4 daa))).b, (mIf (((!(decide ((btw paa qaa j3) < (mnQ paa qaa)))) && (!(decide ((mxQ paa qaa) < (btw paa qaa j3))))) || ((!(decide ((btw paa qaa j3) < (mnQ pbb qbb)))) && (!(decide ((mxQ pbb qbb) < (btw paa qaa j3)))))) (mP (mK pbb 4 cbb) (mK qbb 4 dbb))).b, (mIf (((!(decide ((btw paa qaa j3) < (mnQ paa qaa)))) && (!(decide ((mxQ paa qaa) < (btw paa qaa j3))))) || ((!(decide ((btw paa qaa j3) < (mnQ pbb qbb)))) && (!(decide ((mxQ pbb qbb) < (btw paa qaa j3)))))) (mP (mC (mnQ (mnQ paa qaa) (mnQ pbb qbb)) 17) (mC (mxQ (mxQ paa qaa) (mxQ pbb qbb)) 17))).b, (mIf (((!(decide ((btw paa qaa j3) < (mnQ paa qaa)))) && (!(decide ((mxQ paa qaa) < (btw paa qaa j3))))) || ((!(decide ((btw paa qaa j3) < (mnQ pbb qbb)))) && (!(decide ((mxQ pbb qbb) < (btw paa qaa j3)))))) (mC (btw paa qaa j3) 88)).b, (mIf (((!(decide ((btw paa qaa j3) < (mnQ paa qaa)))) && (!(decide ((mxQ paa qaa) < (btw paa qaa j3))))) || ((!(decide ((btw paa qaa j3) < (mnQ pbb qbb)))) && (!(decide ((mxQ pbb qbb) < (btw paa qaa j3)))))) (mV (.bool ((!(decide ((btw paa qaa j3) < (mnQ (mnQ (mnQ paa qaa) (mnQ pbb qbb)) (mxQ (mxQ paa qaa) (mxQ pbb qbb)))))) && (!(decide ((mxQ (mnQ (mnQ paa qaa) (mnQ pbb qbb)) (mxQ (mxQ paa qaa) (mxQ pbb qbb))) < (btw paa qaa j3)))))))).b, (mIf (((!(decide ((btw paa qaa j3) < (mnQ paa qaa)))) && (!(decide ((mxQ paa qaa) < (btw paa qaa j3))))) || ((!(decide ((btw paa qaa j3) < (mnQ pbb qbb)))) && (!(decide ((mxQ pbb qbb) < (btw paa qaa j3)))))) (mV (.bool (!((!(decide ((btw paa qaa j3) < (mnQ (mnQ (mnQ paa qaa) (mnQ pbb qbb)) (mxQ (mxQ paa qaa) (mxQ pbb qbb)))))) && (!(decide ((mxQ (mnQ (mnQ paa qaa) (mnQ pbb qbb)) (mxQ (mxQ paa qaa) (mxQ pbb qbb))) < (btw paa qaa j3))))))))).b, (mV (.bool ((((!(decide ((btw paa qaa j3) < (mnQ paa qaa)))) && (!(decide ((mxQ paa qaa) < (btw paa qaa j3))))) || ((!(decide ((btw paa qaa j3) < (mnQ pbb qbb)))) && (!(decide ((mxQ pbb qbb) < (btw paa qaa j3)))))) && (!((!(decide ((btw paa qaa j3) < (mnQ (mnQ (mnQ paa qaa) (mnQ pbb qbb)) (mxQ (mxQ paa qaa) (mxQ pbb qbb)))))) && (!(decide ((mxQ (mnQ (mnQ paa qaa) (mnQ pbb qbb)) (mxQ (mxQ paa qaa) (mxQ pbb qbb))) < (btw paa qaa j3))))))))).b, (mV (.bool false)).b]) (by kernel_rfl) (by rw [z788]; kernel_rfl) (fun h => absurd rfl h) (mG_mono _) (ops_ok ⟨?_, ?_, ?_, ?_, ?_, ?_, ?_, ?_, ?_, ?_, ?_, ?_, ?_, ?_, ?_, ?_, ?_, ?_, ?_, trivial⟩) ?_
   · exact opk_pure rfl rfl fun a w hb hf hd => ⟨_, run_move rfl, fun _ _ => ((hf 13 (out_of (by kernel_rfl))).trans s803)⟩
   · exact opk_pure rfl rfl fun a w hb hf hd => ⟨_, run_move rfl, fun _ _ => ((hf 12 (out_of (by kernel_rfl))).trans s802)⟩
   · exact opk_pure rfl rfl fun a w hb hf hd => ⟨_, run_move rfl, fun _ _ => (hd.at 0 rfl rfl rfl rfl)⟩
   · refine opk_guard (decide (meE (mxQ (mnQ paa qaa) (mnQ pbb qbb)) (mnQ (mxQ paa qaa) (mxQ pbb qbb)) = 0)) rfl rfl rfl rfl (by rw [z788]; decide) (fun a w hb hf hd => (hd.at 0 rfl rfl rfl rfl)) (fun hne _ hγ => absurd hγ hne) (fun hγ => ?_)
     refine opk_pure rfl rfl fun a w hb hf hd => ?_
     obtain ⟨cs, h1, h2, h3, h4, h5⟩ := bx.below hb x775
     exact ⟨_, run_load_row _ _ rfl (ev ((hf 11 (out_of (by kernel_rfl))).trans s801)) h1 Tryz.underlying44 rfl (by rw [h2]; exact info_Interval), fun _ _ _ => h5⟩
   · refine opk_guard (decide (meE (mxQ (mnQ paa qaa) (mnQ pbb qbb)) (mnQ (mxQ paa qaa) (mxQ pbb qbb)) = 0)) rfl rfl rfl rfl (by rw [z788]; decide) (fun a w hb hf hd => (hd.at 0 rfl rfl rfl rfl)) (fun hne _ hγ => absurd hγ hne) (fun hγ => ?_)
     refine opk_pure rfl rfl fun a w hb hf hd => ?_
     obtain ⟨cs, h1, h2, h3, h4, h5⟩ := bx.below hb x776
     exact ⟨_, run_load_row _ _ rfl (ev ((hf 10 (out_of (by kernel_rfl))).trans s800)) h1 Tryz.underlying26 rfl (by rw [h2]; exact info_Rat), fun _ _ _ => h5⟩
   · refine opk_guard (decide (meE (mxQ (mnQ paa qaa) (mnQ pbb qbb)) (mnQ (mxQ paa qaa) (mxQ pbb qbb)) = 0)) rfl rfl rfl rfl (by rw [z788]; decide) (fun a w hb hf hd => (hd.at 2 rfl rfl rfl rfl)) (fun hne _ hγ => absurd hγ hne) (fun hγ => ?_)
     refine opk_call rfl rfl fun a w hb hf hd => ?_
     have e0 : a.eval (.tmp 67) = sl a 67 := rfl
     have e1 : a.eval (.tmp 68) = sl a 68 := rfl
     exact ⟨33, #[sl a 67, sl a 68], run_call rfl rfl (fun _ _ => by kernel_rfl) (args_2 e0 e1), (iv_containsN  (by omega) (by omega) (mP_imp (m1' := (mR (if meE (mxQ (mnQ paa qaa) (mnQ pbb qbb)) (mnQ (mxQ paa qaa) (mxQ pbb qbb)) = 0 then mxQ (mnQ paa qaa) (mnQ pbb qbb) else 0) 17)) (m2' := (mR (if meE (mxQ (mnQ paa qaa) (mnQ pbb qbb)) (mnQ (mxQ paa qaa) (mxQ pbb qbb)) = 0 then mnQ (mxQ paa qaa) (mxQ pbb qbb) else 0) 17)) (fun _ h => (isE.r h)) (fun _ h => (isE.r h)) ((hd.at 0 rfl rfl rfl rfl) hγ)) (isC.r ((hd.at 1 rfl rfl rfl rfl) hγ)) (hT.below (B758.trans (hb.mono B758.size)))).mono fun _ _ r => RetS.imp (fun _ _ h => fun _ _ _ => h) r⟩
   · exact opk_pure rfl rfl fun a w hb hf hd => ⟨_, run_pick rfl (ev (hd.at 0 rfl rfl rfl rfl)), fun _ _ => pick_and (hd.at 1 rfl rfl rfl rfl)⟩
   · exact opk_pure rfl rfl fun a w hb hf hd => ⟨_, run_neqb rfl (ev (hd.at 0 rfl rfl rfl rfl)) (ev (hd.at 1 rfl rfl rfl rfl)), fun _ _ => (Eq.trans (b := Value.bool ((((!(decide ((btw paa qaa j3) < (mnQ paa qaa)))) && (!(decide ((mxQ paa qaa) < (btw paa qaa j3))))) && ((!(decide ((btw paa qaa j3) < (mnQ pbb qbb)))) && (!(decide ((mxQ pbb qbb) < (btw paa qaa j3)))))) != ((decide (meE (mxQ (mnQ paa qaa) (mnQ pbb qbb)) (mnQ (mxQ paa qaa) (mxQ pbb qbb)) = 0)) && ((!(decide ((btw paa qaa j3) < (mnQ (if meE (mxQ (mnQ paa qaa) (mnQ pbb qbb)) (mnQ (mxQ paa qaa) (mxQ pbb qbb)) = 0 then mxQ (mnQ paa qaa) (mnQ pbb qbb) else 0) (if meE (mxQ (mnQ paa qaa) (mnQ pbb qbb)) (mnQ (mxQ paa qaa) (mxQ pbb qbb)) = 0 then mnQ (mxQ paa qaa) (mxQ pbb qbb) else 0))))) && (!(decide ((mxQ (if meE (mxQ (mnQ paa qaa) (mnQ pbb qbb)) (mnQ (mxQ paa qaa) (mxQ pbb qbb)) = 0 then mxQ (mnQ paa qaa) (mnQ pbb qbb) else 0) (if meE (mxQ (mnQ paa qaa) (mnQ pbb qbb)) (mnQ (mxQ paa qaa) (mxQ pbb qbb)) = 0 then mnQ (mxQ paa qaa) (mxQ pbb qbb) else 0)) < (btw paa qaa j3)))))))) rfl (congrArg Value.bool meets_1))⟩
   · exact opk_pure rfl rfl fun a w hb hf hd => ⟨_, run_move rfl, fun _ _ => (hd.at 0 rfl rfl rfl rfl)⟩
   · refine opk_guard false rfl rfl rfl rfl (by rw [z788]; decide) (fun a w hb hf hd => (hd.at 0 rfl rfl rfl rfl)) (fun h => absurd rfl h) (fun _ => ?_)
     exact opk_pure rfl rfl fun a w hb hf hd => ⟨_, run_move rfl, fun _ _ => ((hf 14 (out_of (by kernel_rfl))).trans s787)⟩
   · refine opk_guard false rfl rfl rfl rfl (by rw [z788]; decide) (fun a w hb hf hd => (hd.at 1 rfl rfl rfl rfl)) (fun h => absurd rfl h) (fun _ => ?_)
     exact opk_pure rfl rfl fun a w hb hf hd => ⟨_, run_move rfl, fun _ _ => (hd.at 0 rfl rfl rfl rfl)⟩
   · refine opk_guard (((!(decide ((btw paa qaa j3) < (mnQ paa qaa)))) && (!(decide ((mxQ paa qaa) < (btw paa qaa j3))))) || ((!(decide ((btw paa qaa j3) < (mnQ pbb qbb)))) && (!(decide ((mxQ pbb qbb) < (btw paa qaa j3)))))) rfl rfl rfl rfl (by rw [z788]; decide) (fun a w hb hf hd => (hd.at 0 rfl rfl rfl rfl)) (fun hne _ hγ => absurd hγ hne) (fun hγ => ?_)
     refine opk_pure rfl rfl fun a w hb hf hd => ?_
     obtain ⟨cs, h1, h2, h3, h4, h5⟩ := bx.below hb x777
     exact ⟨_, run_load_row _ _ rfl (ev ((hf 4 (out_of (by kernel_rfl))).trans s790)) h1 Tryz.underlying44 rfl (by rw [h2]; exact info_Interval), fun _ _ _ => h5⟩
   · refine opk_guard (((!(decide ((btw paa qaa j3) < (mnQ paa qaa)))) && (!(decide ((mxQ paa qaa) < (btw paa qaa j3))))) || ((!(decide ((btw paa qaa j3) < (mnQ pbb qbb)))) && (!(decide ((mxQ pbb qbb) < (btw paa qaa j3)))))) rfl rfl rfl rfl (by rw [z788]; decide) (fun a w hb hf hd => (hd.at 0 rfl rfl rfl rfl)) (fun hne _ hγ => absurd hγ hne) (fun hγ => ?_)
     refine opk_pure rfl rfl fun a w hb hf hd => ?_
     obtain ⟨cs, h1, h2, h3, h4, h5⟩ := bx.below hb x778
     exact ⟨_, run_load_row _ _ rfl (ev ((hf 5 (out_of (by kernel_rfl))).trans s791)) h1 Tryz.underlying44 rfl (by rw [h2]; exact info_Interval), fun _ _ _ => h5⟩
   · refine opk_guard (((!(decide ((btw paa qaa j3) < (mnQ paa qaa)))) && (!(decide ((mxQ paa qaa) < (btw paa qaa j3))))) || ((!(decide ((btw paa qaa j3) < (mnQ pbb qbb)))) && (!(decide ((mxQ pbb qbb) < (btw paa qaa j3)))))) rfl rfl rfl rfl (by rw [z788]; decide) (fun a w hb hf hd => (hd.at 2 rfl rfl rfl rfl)) (fun hne _ hγ => absurd hγ hne) (fun hγ => ?_)
     refine opk_call rfl rfl fun a w hb hf hd => ?_
     have e0 : a.eval (.tmp 75) = sl a 75 := rfl
     have e1 : a.eval (.tmp 76) = sl a 76 := rfl
     exact ⟨57, #[sl a 75, sl a 76], run_call rfl rfl (fun _ _ => by kernel_rfl) (args_2 e0 e1), (iv_hull  (by omega) (by omega) (mP_imp (m1' := (mR paa 4)) (m2' := (mR qaa 4)) (fun _ h => (isK.r h)) (fun _ h => (isK.r h)) ((hd.at 0 rfl rfl rfl rfl) hγ)) (mP_imp (m1' := (mR pbb 4)) (m2' := (mR qbb 4)) (fun _ h => (isK.r h)) (fun _ h => (isK.r h)) ((hd.at 1 rfl rfl rfl rfl) hγ)) (hT.below (B758.trans (hb.mono B758.size)))).mono fun _ _ r => RetS.imp (fun _ _ h => fun _ _ _ => (mP_imp (fun _ h => (isC.mono h (by omega))) (fun _ h => (isC.mono h (by omega))) h)) r⟩
   · refine opk_guard (((!(decide ((btw paa qaa j3) < (mnQ paa qaa)))) && (!(decide ((mxQ paa qaa) < (btw paa qaa j3))))) || ((!(decide ((btw paa qaa j3) < (mnQ pbb qbb)))) && (!(decide ((mxQ pbb qbb) < (btw paa qaa j3)))))) rfl rfl rfl rfl (by rw [z788]; decide) (fun a w hb hf hd => (hd.at 0 rfl rfl rfl rfl)) (fun hne _ hγ => absurd hγ hne) (fun hγ => ?_)
     refine opk_pure rfl rfl fun a w hb hf hd => ?_
     obtain ⟨cs, h1, h2, h3, h4, h5⟩ := bx.below hb x776
     exact ⟨_, run_load_row _ _ rfl (ev ((hf 10 (out_of (by kernel_rfl))).trans s800)) h1 Tryz.underlying26 rfl (by rw [h2]; exact info_Rat), fun _ _ _ => h5⟩
   · refine opk_guard (((!(decide ((btw paa qaa j3) < (mnQ paa qaa)))) && (!(decide ((mxQ paa qaa) < (btw paa qaa j3))))) || ((!(decide ((btw paa qaa j3) < (mnQ pbb qbb)))) && (!(decide ((mxQ pbb qbb) < (btw paa qaa j3)))))) rfl rfl rfl rfl (by rw [z788]; decide) (fun a w hb hf hd => (hd.at 3 rfl rfl rfl rfl)) (fun hne _ hγ => absurd hγ hne) (fun hγ => ?_)
     refine opk_call rfl rfl fun a w hb hf hd => ?_
     have e0 : a.eval (.tmp 77) = sl a 77 := rfl
     have e1 : a.eval (.tmp 78) = sl a 78 := rfl
     exact ⟨33, #[sl a 77, sl a 78], run_call rfl rfl (fun _ _ => by kernel_rfl) (args_2 e0 e1), (iv_containsN  (by omega) (by omega) (mP_imp (m1' := (mR (mnQ (mnQ paa qaa) (mnQ pbb qbb)) 17)) (m2' := (mR (mxQ (mxQ paa qaa) (mxQ pbb qbb)) 17)) (fun _ h => (isC.r h)) (fun _ h => (isC.r h)) ((hd.at 0 rfl rfl rfl rfl) hγ)) (isC.r ((hd.at 1 rfl rfl rfl rfl) hγ)) (hT.below (B758.trans (hb.mono B758.size)))).mono fun _ _ r => RetS.imp (fun _ _ h => fun _ _ _ => h) r⟩
   · refine opk_guard (((!(decide ((btw paa qaa j3) < (mnQ paa qaa)))) && (!(decide ((mxQ paa qaa) < (btw paa qaa j3))))) || ((!(decide ((btw paa qaa j3) < (mnQ pbb qbb)))) && (!(decide ((mxQ pbb qbb) < (btw paa qaa j3)))))) rfl rfl rfl rfl (by rw [z788]; decide) (fun a w hb hf hd => (hd.at 1 rfl rfl rfl rfl)) (fun hne _ hγ => absurd hγ hne) (fun hγ => ?_)
     exact opk_pure rfl rfl fun a w hb hf hd => ⟨_, run_not rfl (ev ((hd.at 0 rfl rfl rfl rfl) hγ)), fun _ _ _ => rfl⟩
   · refine opk_guard false rfl rfl rfl rfl (by rw [z788]; decide) (fun a w hb hf hd => (hd.at 2 rfl rfl rfl rfl)) (fun h => absurd rfl h) (fun _ => ?_)
     exact opk_pure rfl rfl fun a w hb hf hd => ⟨_, run_pick rfl (ev (hd.at 0 rfl rfl rfl rfl)), fun _ _ => pick_and (hd.at 1 rfl rfl rfl rfl)⟩
   · exact opk_pure rfl rfl fun a w hb hf hd => ⟨_, run_pick rfl (ev (hd.at 0 rfl rfl rfl rfl)), fun _ _ => (Eq.trans (b := Value.bool (false || ((((!(decide ((btw paa qaa j3) < (mnQ paa qaa)))) && (!(decide ((mxQ paa qaa) < (btw paa qaa j3))))) || ((!(decide ((btw paa qaa j3) < (mnQ pbb qbb)))) && (!(decide ((mxQ pbb qbb) < (btw paa qaa j3)))))) && (!((!(decide ((btw paa qaa j3) < (mnQ (mnQ (mnQ paa qaa) (mnQ pbb qbb)) (mxQ (mxQ paa qaa) (mxQ pbb qbb)))))) && (!(decide ((mxQ (mnQ (mnQ paa qaa) (mnQ pbb qbb)) (mxQ (mxQ paa qaa) (mxQ pbb qbb))) < (btw paa qaa j3))))))))) (pick_or fun h => (hd.at 1 rfl rfl rfl rfl)) (congrArg Value.bool meets_2))⟩
   intro a805 w806 ms807
   have B808 := B758.trans (ms807.b.mono B758.size)
   have z809 := ms807.sz.trans z788
   have d810 := ms807.df.trans d789
   have s811 := (ms807.fr 4 (out_of (by kernel_rfl))).trans s790
   have s812 := (ms807.fr 5 (out_of (by kernel_rfl))).trans s791
   have s816 := (ms807.fr 36 (out_of (by kernel_rfl))).trans s795
   have s817 := (ms807.fr 37 (out_of (by kernel_rfl))).trans s796
   have s818 := (ms807.fr 38 (out_of (by kernel_rfl))).trans s798
   have x822 := bx.below ms807.b x775
   have x823 := bx.below ms807.b x776
   have x824 := bx.below ms807.b x777
   have x825 := bx.below ms807.b x778
   have x826 := bx.below ms807.b x779
   have x827 := bx.below ms807.b x780
   have s828 : sl a805 82 = .bool false := ms807.g 18 _ 82 rfl (by decide) trivial rfl
   refine wpList_nil (then_normal ?_)
   refine wp_cond_false (ev s828) ?_
   refine wp_skip (in_normal (then_normal ?_))
   refine wp_region_seq 1 (mG [(mV (.int .i64 2)).b]) (by rw [z809]; kernel_rfl) (mG_mono _) (ops_ok ⟨?_, trivial⟩) ?_
   · exact opk_pure rfl rfl fun a w hb hf hd => ⟨_, run_add rfl (ev ((hf 38 (out_of (by kernel_rfl))).trans s818)) rfl (by omega) (by omega), fun _ _ => rfl⟩
   intro a829 w830 ms831
   have B832 := B808.trans (ms831.b.mono B808.size)
   have z833 := ms831.sz.trans z809
   have d834 := ms831.df.trans d810
   have s835 := (ms831.fr 4 (out_of (by kernel_rfl))).trans s811
   have s836 := (ms831.fr 5 (out_of (by kernel_rfl))).trans s812
   have s840 := (ms831.fr 36 (out_of (by kernel_rfl))).trans s816
   have s841 := (ms831.fr 37 (out_of (by kernel_rfl))).trans s817
   have x847 := bx.below ms831.b x822
   have x848 := bx.below ms831.b x823
   have x849 := bx.below ms831.b x824
   have x850 := bx.below ms831.b x825
   have x851 := bx.below ms831.b x826
   have x852 := bx.below ms831.b x827
   have s853 : sl a829 83 = .int .i64 2 := ms831.g 0 _ 83 rfl (by decide) trivial rfl
   refine tl_set rfl rfl (run_move rfl) (by rw [z833]; decide) ?_
   intro a854 z855 d856 s857 fr858
   have s859 := s857.trans s853
   have z860 := z855.trans z833
   have d861 := d856.trans d834
   have s862 := (fr858 4 (by decide)).trans s835
   have s863 := (fr858 5 (by decide)).trans s836
   have s867 := (fr858 36 (by decide)).trans s840
   have s868 := (fr858 37 (by decide)).trans s841
   refine wpList_nil (then_normal ?_)
   refine rounds_go ?_
   refine wp_seq ?_
   refine wp_region_seq 1 (mG [(mV (.bool true)).b]) (by rw [z860]; kernel_rfl) (mG_mono _) (ops_ok ⟨?_, trivial⟩) ?_
   · exact opk_pure rfl rfl fun a w hb hf hd => ⟨_, run_lss rfl (ev ((hf 38 (out_of (by kernel_rfl))).trans s859)) (ev ((hf 37 (out_of (by kernel_rfl))).trans s868)), fun _ _ => rfl⟩
   intro a874 w875 ms876
   have B877 := B832.trans (ms876.b.mono B832.size)
   have z878 := ms876.sz.trans z860
   have d879 := ms876.df.trans d861
   have s880 := (ms876.fr 4 (out_of (by kernel_rfl))).trans s862
   have s881 := (ms876.fr 5 (out_of (by kernel_rfl))).trans s863
   have s885 := (ms876.fr 36 (out_of (by kernel_rfl))).trans s867
   have s886 := (ms876.fr 37 (out_of (by kernel_rfl))).trans s868
   have s890 := (ms876.fr 38 (out_of (by kernel_rfl))).trans s859
   have x891 := bx.below ms876.b x847
   have x892 := bx.below ms876.b x848
   have x893 := bx.below ms876.b x849
   have x894 := bx.below ms876.b x850
   have x895 := bx.below ms876.b x851
   have x896 := bx.below ms876.b x852
   have s897 : sl a874 39 = .bool true := ms876.g 0 _ 39 rfl (by decide) trivial rfl
   refine wpList_nil (then_normal ?_)
   refine wp_seq ?_
   refine wp_cond_true (ev s897) ?_
   refine wp_skip (then_normal ?_)
   refine wp_seq ?_
   refine wp_block ?_
   refine wp_seq ?_
   refine wp_region_seq 2 (mG [(mV (.pointer (some ⟨g155, 6, none⟩))).b, (mC (btw pbb qbb j3) 88).b]) (by rw [z878]; kernel_rfl) (mG_mono _) (ops_ok ⟨?_, ?_, trivial⟩) ?_
   · exact opk_pure rfl rfl fun a w hb hf hd => ⟨_, addr_sl3_2 rfl (ev ((hf 36 (out_of (by kernel_rfl))).trans s885)) (ev ((hf 38 (out_of (by kernel_rfl))).trans s890)), fun _ _ => rfl⟩
   · refine opk_pure rfl rfl fun a w hb hf hd => ?_
     obtain ⟨x0, x1, x2, h1, h2⟩ := (bx.below hb x896).row3_2
     exact ⟨_, run_load_mid _ _ rfl (ev (hd.at 0 rfl rfl rfl rfl)) h1 Tryz.underlying26 rfl info_Rat, fun _ _ => h2⟩
   intro a898 w899 ms900
   have B901 := B877.trans (ms900.b.mono B877.size)
   have z902 := ms900.sz.trans z878
   have d903 := ms900.df.trans d879
   have s904 := (ms900.fr 4 (out_of (by kernel_rfl))).trans s880
   have s905 := (ms900.fr 5 (out_of (by kernel_rfl))).trans s881
   have s910 := (ms900.fr 37 (out_of (by kernel_rfl))).trans s886
   have s913 := (ms900.fr 38 (out_of (by kernel_rfl))).trans s890
   have x915 := bx.below ms900.b x891
   have x916 := bx.below ms900.b x892
   have x917 := bx.below ms900.b x893
   have x918 := bx.below ms900.b x894
   have x919 := bx.below ms900.b x895
   have x920 := bx.below ms900.b x896
   have s921 : (mC (btw pbb qbb j3) 88).S w899 (sl a898 41) := ms900.g 1 _ 41 rfl (by decide) trivial rfl
   refine tl_new rfl rfl (run_alloc_op rfl zero_Rat) (by rw [z902]; decide) ?_
   intro a922 w923 g924 z925 d926 s927 fr928 hg929 hc930 hb931
   have z932 := z925.trans z902
   have d933 := d926.trans d903
   have s934 := (fr928 4 (by decide)).trans s904
   have s935 := (fr928 5 (by decide)).trans s905
   have s940 := (fr928 37 (by decide)).trans s910
   have s943 := (fr928 38 (by decide)).trans s913
   have s945 : (mC (btw pbb qbb j3) 88).S w899 (sl a922 41) := by rw [fr928 41 (by decide)]; exact s921
   have B946 := B901.trans (hb931.mono B901.size)
   have ne948 : g633 ≠ g924 := by have := x915.lt; omega
   have x947 := bx.below hb931 x915
   have ne950 : g555 ≠ g924 := by have := x916.lt; omega
   have x949 := bx.below hb931 x916
   have ne952 : g13 ≠ g924 := by have := x917.lt; omega
   have x951 := bx.below hb931 x917
   have ne954 : g32 ≠ g924 := by have := x918.lt; omega
   have x953 := bx.below hb931 x918
   have ne956 : g54 ≠ g924 := by have := x919.lt; omega
   have x955 := bx.below hb931 x919
   have ne958 : g155 ≠ g924 := by have := x920.lt; omega
   have x957 := bx.below hb931 x920
   have s959 := (mC (btw pbb qbb j3) 88).mono _ _ _ (Ext.of hb931) s945
   have lw961 : w.heap.size ≤ g924 := by have := B901.size; omega
   have x960 := bx_Rat hc930
   refine tl_put rfl rfl rfl (m' := (mC (btw pbb qbb j3) 88)) x960 (ev s927) s959 (isC.cv s959) info_Rat ?_
   intro w962 x963 ex964 ot965 bl966
   have B967 := bl966 w (by omega) B946
   have x968 := ot965 (by omega) x947
   have x969 := ot965 (by omega) x949
   have x970 := ot965 (by omega) x951
   have x971 := ot965 (by omega) x953
   have x972 := ot965 (by omega) x955
   have x973 := ot965 (by omega) x957
   have s974 := (mC (btw pbb qbb j3) 88).mono _ _ _ ex964 s959
   refine wpList_nil (then_normal ?_)
   refine wp_seq ?_
   refine wp_region_seq 6 (mG [(mP (mK paa 4 caa) (mK qaa 4 daa)).b, (mP (mK pbb 4 cbb) (mK qbb 4 dbb)).b, (mT (mP (mE (mxQ (mnQ paa qaa) (mnQ pbb qbb)) (meE (mxQ (mnQ paa qaa) (mnQ pbb qbb)) (mnQ (mxQ paa qaa) (mxQ pbb qbb))) 17) (mE (mnQ (mxQ paa qaa) (mxQ pbb qbb)) (meE (mxQ (mnQ paa qaa) (mnQ pbb qbb)) (mnQ (mxQ paa qaa) (mxQ pbb qbb))) 17)) (mV (.bool (decide (meE (mxQ (mnQ paa qaa) (mnQ pbb qbb)) (mnQ (mxQ paa qaa) (mxQ pbb qbb)) = 0))))).b, (mT (mP (mE (mxQ (mnQ paa qaa) (mnQ pbb qbb)) (meE (mxQ (mnQ paa qaa) (mnQ pbb qbb)) (mnQ (mxQ paa qaa) (mxQ pbb qbb))) 17) (mE (mnQ (mxQ paa qaa) (mxQ pbb qbb)) (meE (mxQ (mnQ paa qaa) (mnQ pbb qbb)) (mnQ (mxQ paa qaa) (mxQ pbb qbb))) 17)) (mV (.bool (decide (meE (mxQ (mnQ paa qaa) (mnQ pbb qbb)) (mnQ (mxQ paa qaa) (mxQ pbb qbb)) = 0))))).b, (mP (mE (mxQ (mnQ paa qaa) (mnQ pbb qbb)) (meE (mxQ (mnQ paa qaa) (mnQ pbb qbb)) (mnQ (mxQ paa qaa) (mxQ pbb qbb))) 17) (mE (mnQ (mxQ paa qaa) (mxQ pbb qbb)) (meE (mxQ (mnQ paa qaa) (mnQ pbb qbb)) (mnQ (mxQ paa qaa) (mxQ pbb qbb))) 17)).b, (mV (.bool (decide (meE (mxQ (mnQ paa qaa) (mnQ pbb qbb)) (mnQ (mxQ paa qaa) (mxQ pbb qbb)) = 0)))).b]) (by rw [z932]; kernel_rfl) (mG_mono _) (ops_ok ⟨?_, ?_, ?_, ?_, ?_, ?_, trivial⟩) ?_
   · refine opk_pure rfl rfl fun a w hb hf hd => ?_
     obtain ⟨cs, h1, h2, h3, h4, h5⟩ := bx.below hb x970
     exact ⟨_, run_load_row _ _ rfl (ev ((hf 4 (out_of (by kernel_rfl))).trans s934)) h1 Tryz.underlying44 rfl (by rw [h2]; exact info_Interval), fun _ _ => h5⟩
   · refine opk_pure rfl rfl fun a w hb hf hd => ?_
     obtain ⟨cs, h1, h2, h3, h4, h5⟩ := bx.below hb x971
     exact ⟨_, run_load_row _ _ rfl (ev ((hf 5 (out_of (by kernel_rfl))).trans s935)) h1 Tryz.underlying44 rfl (by rw [h2]; exact info_Interval), fun _ _ => h5⟩
   · refine opk_call rfl rfl fun a w hb hf hd => ?_
     have e0 : a.eval (.tmp 43) = sl a 43 := rfl
     have e1 : a.eval (.tmp 44) = sl a 44 := rfl
     exact ⟨28, #[sl a 43, sl a 44], run_call rfl rfl (fun _ _ => by kernel_rfl) (args_2 e0 e1), (iv_meet  (by omega) (by omega) (mP_imp (m1' := (mR paa 4)) (m2' := (mR qaa 4)) (fun _ h => (isK.r h)) (fun _ h => (isK.r h)) (hd.at 0 rfl rfl rfl rfl)) (mP_imp (m1' := (mR pbb 4)) (m2' := (mR qbb 4)) (fun _ h => (isK.r h)) (fun _ h => (isK.r h)) (hd.at 1 rfl rfl rfl rfl)) (hT.below (B967.trans (hb.mono B967.size)))).mono fun _ _ r => RetS.imp (fun _ _ h => fun _ _ => (mT_imp (fun _ h => (mP_imp (fun _ h => (isE.mono h (by omega))) (fun _ h => (isE.mono h (by omega))) h)) (fun _ h => h) h)) r⟩
   · exact opk_pure rfl rfl fun a w hb hf hd => ⟨_, run_move rfl, fun _ _ => (hd.at 0 rfl rfl rfl rfl)⟩
   · refine opk_pure rfl rfl fun a w hb hf hd => ?_
     obtain ⟨x, y, h1, h2, h3⟩ := (hd.at 0 rfl rfl rfl rfl)
     exact ⟨_, run_extract_op rfl (ev h1) rfl, fun _ _ => h2⟩
   · refine opk_pure rfl rfl fun a w hb hf hd => ?_
     obtain ⟨x, y, h1, h2, h3⟩ := (hd.at 0 rfl rfl rfl rfl)
     exact ⟨_, run_extract_op rfl (ev h1) rfl, fun _ _ => h3⟩
   intro a975 w976 ms977
   have B978 := B967.trans (ms977.b.mono B967.size)
   have z979 := ms977.sz.trans z932
   have d980 := ms977.df.trans d933
   have s981 := (ms977.fr 4 (out_of (by kernel_rfl))).trans s934
   have s982 := (ms977.fr 5 (out_of (by kernel_rfl))).trans s935
   have s987 := (ms977.fr 37 (out_of (by kernel_rfl))).trans s940
   have s989 := (ms977.fr 38 (out_of (by kernel_rfl))).trans s943
   have s991 := (ms977.fr 10 (out_of (by kernel_rfl))).trans s927
   have x992 := bx.below ms977.b x963
   have x993 := bx.below ms977.b x968
   have x994 := bx.below ms977.b x970
   have x995 := bx.below ms977.b x971
   have x996 := bx.below ms977.b x972
   have x997 := bx.below ms977.b x973
   have s998 : (mP (mE (mxQ (mnQ paa qaa) (mnQ pbb qbb)) (meE (mxQ (mnQ paa qaa) (mnQ pbb qbb)) (mnQ (mxQ paa qaa) (mxQ pbb qbb))) 17) (mE (mnQ (mxQ paa qaa) (mxQ pbb qbb)) (meE (mxQ (mnQ paa qaa) (mnQ pbb qbb)) (mnQ (mxQ paa qaa) (mxQ pbb qbb))) 17)).S w976 (sl a975 46) := ms977.g 4 _ 46 rfl (by decide) trivial rfl
   have s999 : sl a975 47 = .bool (decide (meE (mxQ (mnQ paa qaa) (mnQ pbb qbb)) (mnQ (mxQ paa qaa) (mxQ pbb qbb)) = 0)) := ms977.g 5 _ 47 rfl (by decide) trivial rfl
   refine tl_new rfl rfl (run_alloc_op rfl zero_Interval) (by rw [z979]; decide) ?_
   intro a1000 w1001 g1002 z1003 d1004 s1005 fr1006 hg1007 hc1008 hb1009
   have z1010 := z1003.trans z979
   have d1011 := d1004.trans d980
   have s1012 := (fr1006 4 (by decide)).trans s981
   have s1013 := (fr1006 5 (by decide)).trans s982
   have s1018 := (fr1006 37 (by decide)).trans s987
   have s1020 := (fr1006 38 (by decide)).trans s989
   have s1022 := (fr1006 10 (by decide)).trans s991
   have s1023 : (mP (mE (mxQ (mnQ paa qaa) (mnQ pbb qbb)) (meE (mxQ (mnQ paa qaa) (mnQ pbb qbb)) (mnQ (mxQ paa qaa) (mxQ pbb qbb))) 17) (mE (mnQ (mxQ paa qaa) (mxQ pbb qbb)) (meE (mxQ (mnQ paa qaa) (mnQ pbb qbb)) (mnQ (mxQ paa qaa) (mxQ pbb qbb))) 17)).S w976 (sl a1000 46) := by rw [fr1006 46 (by decide)]; exact s998
   have s1024 := (fr1006 47 (by decide)).trans s999
   have B1025 := B978.trans (hb1009.mono B978.size)
   have ne1027 : g924 ≠ g1002 := by have := x992.lt; omega
   have x1026 := bx.below hb1009 x992
   have ne1029 : g633 ≠ g1002 := by have := x993.lt; omega
   have x1028 := bx.below hb1009 x993
   have ne1031 : g13 ≠ g1002 := by have := x994.lt; omega
   have x1030 := bx.below hb1009 x994
   have ne1033 : g32 ≠ g1002 := by have := x995.lt; omega
   have x1032 := bx.below hb1009 x995
   have ne1035 : g54 ≠ g1002 := by have := x996.lt; omega
   have x1034 := bx.below hb1009 x996
   have ne1037 : g155 ≠ g1002 := by have := x997.lt; omega
   have x1036 := bx.below hb1009 x997
   have s1038 := (mP (mE (mxQ (mnQ paa qaa) (mnQ pbb qbb)) (meE (mxQ (mnQ paa qaa) (mnQ pbb qbb)) (mnQ (mxQ paa qaa) (mxQ pbb qbb))) 17) (mE (mnQ (mxQ paa qaa) (mxQ pbb qbb)) (meE (mxQ (mnQ paa qaa) (mnQ pbb qbb)) (mnQ (mxQ paa qaa) (mxQ pbb qbb))) 17)).mono _ _ _ (Ext.of hb1009) s1023
   have lw1040 : w.heap.size ≤ g1002 := by have := B978.size; omega
   have x1039 := bx_Interval hc1008
   refine tl_put rfl rfl rfl (m' := (mP (mE (mxQ (mnQ paa qaa) (mnQ pbb qbb)) (meE (mxQ (mnQ paa qaa) (mnQ pbb qbb)) (mnQ (mxQ paa qaa) (mxQ pbb qbb))) 17) (mE (mnQ (mxQ paa qaa) (mxQ pbb qbb)) (meE (mxQ (mnQ paa qaa) (mnQ pbb qbb)) (mnQ (mxQ paa qaa) (mxQ pbb qbb))) 17))) x1039 (ev s1005) s1038 (mP.cv (fun _ h => (isE.cv h)) (fun _ h => (isE.cv h)) s1038) info_Interval ?_
   intro w1041 x1042 ex1043 ot1044 bl1045
   have B1046 := bl1045 w (by omega) B1025
   have x1047 := ot1044 (by omega) x1026
   have x1048 := ot1044 (by omega) x1028
   have x1049 := ot1044 (by omega) x1030
   have x1050 := ot1044 (by omega) x1032
   have x1051 := ot1044 (by omega) x1034
   have x1052 := ot1044 (by omega) x1036
   have s1053 := (mP (mE (mxQ (mnQ paa qaa) (mnQ pbb qbb)) (meE (mxQ (mnQ paa qaa) (mnQ pbb qbb)) (mnQ (mxQ paa qaa) (mxQ pbb qbb))) 17) (mE (mnQ (mxQ paa qaa) (mxQ pbb qbb)) (meE (mxQ (mnQ paa qaa) (mnQ pbb qbb)) (mnQ (mxQ paa qaa) (mxQ pbb qbb))) 17)).mono _ _ _ ex1043 s1038
   refine tl_set rfl rfl (run_assign rfl) (by rw [z1010]; decide) ?_
   intro a1054 z1055 d1056 s1057 fr1058
   have s1059 := s1057.trans s1024
   have z1060 := z1055.trans z1010
   have d1061 := d1056.trans d1011
   have s1062 := (fr1058 4 (by decide)).trans s1012
   have s1063 := (fr1058 5 (by decide)).trans s1013
   have s1068 := (fr1058 37 (by decide)).trans s1018
   have s1070 := (fr1058 38 (by decide)).trans s1020
   have s1072 := (fr1058 10 (by decide)).trans s1022
   have s1075 := (fr1058 11 (by decide)).trans s1005
   refine wpList_nil (then_normal ?_)
   refine wp_seq ?_
   refine wp_region_seq 8 (mG [(mP (mK paa 4 caa) (mK qaa 4 daa)).b, (mC (btw pbb qbb j3) 88).b, (mV (.bool ((!(decide ((btw pbb qbb j3) < (mnQ paa qaa)))) && (!(decide ((mxQ paa qaa) < (btw pbb qbb j3))))))).b, (mV (.bool ((!(decide ((btw pbb qbb j3) < (mnQ paa qaa)))) && (!(decide ((mxQ paa qaa) < (btw pbb qbb j3))))))).b, (mIf ((!(decide ((btw pbb qbb j3) < (mnQ paa qaa)))) && (!(decide ((mxQ paa qaa) < (btw pbb qbb j3))))) (mP (mK pbb 4 cbb) (mK qbb 4 dbb))).b, (mIf ((!(decide ((btw pbb qbb j3) < (mnQ paa qaa)))) && (!(decide ((mxQ paa qaa) < (btw pbb qbb j3))))) (mC (btw pbb qbb j3) 88)).b, (mIf ((!(decide ((btw pbb qbb j3) < (mnQ paa qaa)))) && (!(decide ((mxQ paa qaa) < (btw pbb qbb j3))))) (mV (.bool ((!(decide ((btw pbb qbb j3) < (mnQ pbb qbb)))) && (!(decide ((mxQ pbb qbb) < (btw pbb qbb j3)))))))).b, (mV (.bool (((!(decide ((btw pbb qbb j3) < (mnQ paa qaa)))) && (!(decide ((mxQ paa qaa) < (btw pbb qbb j3))))) && ((!(decide ((btw pbb qbb j3) < (mnQ pbb qbb)))) && (!(decide ((mxQ pbb qbb) < (btw pbb qbb j3)))))))).b]) (by rw [z1060]; kernel_rfl) (mG_mono _) (ops_ok ⟨?_, ?_, ?_, ?_, ?_, ?_, ?_, ?_, trivial⟩) ?_
   · refine opk_pure rfl rfl fun a w hb hf hd => ?_
     obtain ⟨cs, h1, h2, h3, h4, h5⟩ := bx.below hb x1049
     exact ⟨_, run_load_row _ _ rfl (ev ((hf 4 (out_of (by kernel_rfl))).trans s1062)) h1 Tryz.underlying44 rfl (by rw [h2]; exact info_Interval), fun _ _ => h5⟩
   · refine opk_pure rfl rfl fun a w hb hf hd => ?_
     obtain ⟨cs, h1, h2, h3, h4, h5⟩ := bx.below hb x1047
     exact ⟨_, run_load_row _ _ rfl (ev ((hf 10 (out_of (by kernel_rfl))).trans s1072)) h1 Tryz.underlying26 rfl (by rw [h2]; exact info_Rat), fun _ _ => h5⟩
   · refine opk_call rfl rfl fun a w hb hf hd => ?_
     have e0 : a.eval (.tmp 48) = sl a 48 := rfl
     have e1 : a.eval (.tmp 49) = sl a 49 := rfl
     exact ⟨33, #[sl a 48, sl a 49], run_call rfl rfl (fun _ _ => by kernel_rfl) (args_2 e0 e1), (iv_containsN  (by omega) (by omega) (mP_imp (m1' := (mR paa 4)) (m2' := (mR qaa 4)) (fun _ h => (isK.r h)) (fun _ h => (isK.r h)) (hd.at 0 rfl rfl rfl rfl)) (isC.r (hd.at 1 rfl rfl rfl rfl)) (hT.below (B1046.trans (hb.mono B1046.size)))).mono fun _ _ r => RetS.imp (fun _ _ h => fun _ _ => h) r⟩
   · exact opk_pure rfl rfl fun a w hb hf hd => ⟨_, run_move rfl, fun _ _ => (hd.at 0 rfl rfl rfl rfl)⟩
   · refine opk_guard ((!(decide ((btw pbb qbb j3) < (mnQ paa qaa)))) && (!(decide ((mxQ paa qaa) < (btw pbb qbb j3))))) rfl rfl rfl rfl (by rw [z1060]; decide) (fun a w hb hf hd => (hd.at 0 rfl rfl rfl rfl)) (fun hne _ hγ => absurd hγ hne) (fun hγ => ?_)
     refine opk_pure rfl rfl fun a w hb hf hd => ?_
     obtain ⟨cs, h1, h2, h3, h4, h5⟩ := bx.below hb x1050
     exact ⟨_, run_load_row _ _ rfl (ev ((hf 5 (out_of (by kernel_rfl))).trans s1063)) h1 Tryz.underlying44 rfl (by rw [h2]; exact info_Interval), fun _ _ _ => h5⟩
   · refine opk_guard ((!(decide ((btw pbb qbb j3) < (mnQ paa qaa)))) && (!(decide ((mxQ paa qaa) < (btw pbb qbb j3))))) rfl rfl rfl rfl (by rw [z1060]; decide) (fun a w hb hf hd => (hd.at 0 rfl rfl rfl rfl)) (fun hne _ hγ => absurd hγ hne) (fun hγ => ?_)
     refine opk_pure rfl rfl fun a w hb hf hd => ?_
     obtain ⟨cs, h1, h2, h3, h4, h5⟩ := bx.below hb x1047
     exact ⟨_, run_load_row _ _ rfl (ev ((hf 10 (out_of (by kernel_rfl))).trans s1072)) h1 Tryz.underlying26 rfl (by rw [h2]; exact info_Rat), fun _ _ _ => h5⟩
   · refine opk_guard ((!(decide ((btw pbb qbb j3) < (mnQ paa qaa)))) && (!(decide ((mxQ paa qaa) < (btw pbb qbb j3))))) rfl rfl rfl rfl (by rw [z1060]; decide) (fun a w hb hf hd => (hd.at 2 rfl rfl rfl rfl)) (fun hne _ hγ => absurd hγ hne) (fun hγ => ?_)
     refine opk_call rfl rfl fun a w hb hf hd => ?_
     have e0 : a.eval (.tmp 52) = sl a 52 := rfl
     have e1 : a.eval (.tmp 53) = sl a 53 := rfl
     exact ⟨33, #[sl a 52, sl a 53], run_call rfl rfl (fun _ _ => by kernel_rfl) (args_2 e0 e1), (iv_containsN  (by omega) (by omega) (mP_imp (m1' := (mR pbb 4)) (m2' := (mR qbb 4)) (fun _ h => (isK.r h)) (fun _ h => (isK.r h)) ((hd.at 0 rfl rfl rfl rfl) hγ)) (isC.r ((hd.at 1 rfl rfl rfl rfl) hγ)) (hT.below (B1046.trans (hb.mono B1046.size)))).mono fun _ _ r => RetS.imp (fun _ _ h => fun _ _ _ => h) r⟩
   · exact opk_pure rfl rfl fun a w hb hf hd => ⟨_, run_pick rfl (ev (hd.at 0 rfl rfl rfl rfl)), fun _ _ => pick_and (hd.at 1 rfl rfl rfl rfl)⟩
   intro a1076 w1077 ms1078
   have B1079 := B1046.trans (ms1078.b.mono B1046.size)
   have z1080 := ms1078.sz.trans z1060
   have d1081 := ms1078.df.trans d1061
   have s1082 := (ms1078.fr 4 (out_of (by kernel_rfl))).trans s1062
   have s1083 := (ms1078.fr 5 (out_of (by kernel_rfl))).trans s1063
   have s1088 := (ms1078.fr 37 (out_of (by kernel_rfl))).trans s1068
   have s1090 := (ms1078.fr 38 (out_of (by kernel_rfl))).trans s1070
   have s1092 := (ms1078.fr 10 (out_of (by kernel_rfl))).trans s1072
   have s1093 := (ms1078.fr 11 (out_of (by kernel_rfl))).trans s1075
   have s1094 := (ms1078.fr 12 (out_of (by kernel_rfl))).trans s1059
   have x1095 := bx.below ms1078.b x1042
   have x1096 := bx.below ms1078.b x1047
   have x1097 := bx.below ms1078.b x1049
   have x1098 := bx.below ms1078.b x1050
   have x1099 := bx.below ms1078.b x1051
   have x1100 := bx.below ms1078.b x1052
   have s1101 : sl a1076 55 = .bool (((!(decide ((btw pbb qbb j3) < (mnQ paa qaa)))) && (!(decide ((mxQ paa qaa) < (btw pbb qbb j3))))) && ((!(decide ((btw pbb qbb j3) < (mnQ pbb qbb)))) && (!(decide ((mxQ pbb qbb) < (btw pbb qbb j3)))))) := ms1078.g 7 _ 55 rfl (by decide) trivial rfl
   refine tl_set rfl rfl (run_assign rfl) (by rw [z1080]; decide) ?_
   intro a1102 z1103 d1104 s1105 fr1106
   have s1107 := s1105.trans s1101
   have z1108 := z1103.trans z1080
   have d1109 := d1104.trans d1081
   have s1110 := (fr1106 4 (by decide)).trans s1082
   have s1111 := (fr1106 5 (by decide)).trans s1083
   have s1116 := (fr1106 37 (by decide)).trans s1088
   have s1118 := (fr1106 38 (by decide)).trans s1090
   have s1120 := (fr1106 10 (by decide)).trans s1092
   have s1121 := (fr1106 11 (by decide)).trans s1093
   have s1122 := (fr1106 12 (by decide)).trans s1094
   refine wpList_nil (then_normal ?_)
   refine wp_seq ?_
   refine wp_region_seq 8 (mG [(mP (mK paa 4 caa) (mK qaa 4 daa)).b, (mC (btw pbb qbb j3) 88).b, (mV (.bool ((!(decide ((btw pbb qbb j3) < (mnQ paa qaa)))) && (!(decide ((mxQ paa qaa) < (btw pbb qbb j3))))))).b, (mV (.bool ((!(decide ((btw pbb qbb j3) < (mnQ paa qaa)))) && (!(decide ((mxQ paa qaa) < (btw pbb qbb j3))))))).b, (mIf (!((!(decide ((btw pbb qbb j3) < (mnQ paa qaa)))) && (!(decide ((mxQ paa qaa) < (btw pbb qbb j3)))))) (mP (mK pbb 4 cbb) (mK qbb 4 dbb))).b, (mIf (!((!(decide ((btw pbb qbb j3) < (mnQ paa qaa)))) && (!(decide ((mxQ paa qaa) < (btw pbb qbb j3)))))) (mC (btw pbb qbb j3) 88)).b, (mIf (!((!(decide ((btw pbb qbb j3) < (mnQ paa qaa)))) && (!(decide ((mxQ paa qaa) < (btw pbb qbb j3)))))) (mV (.bool ((!(decide ((btw pbb qbb j3) < (mnQ pbb qbb)))) && (!(decide ((mxQ pbb qbb) < (btw pbb qbb j3)))))))).b, (mV (.bool (((!(decide ((btw pbb qbb j3) < (mnQ paa qaa)))) && (!(decide ((mxQ paa qaa) < (btw pbb qbb j3))))) || ((!(decide ((btw pbb qbb j3) < (mnQ pbb qbb)))) && (!(decide ((mxQ pbb qbb) < (btw pbb qbb j3)))))))).b]) (by rw [z1108]; kernel_rfl) (mG_mono _) (ops_ok ⟨?_, ?_, ?_, ?_, ?_, ?_, ?_, ?_, trivial⟩) ?_
   · refine opk_pure rfl rfl fun a w hb hf hd => ?_
     obtain ⟨cs, h1, h2, h3, h4, h5⟩ := bx.below hb x1097
     exact ⟨_, run_load_row _ _ rfl (ev ((hf 4 (out_of (by kernel_rfl))).trans s1110)) h1 Tryz.underlying44 rfl (by rw [h2]; exact info_Interval), fun _ _ => h5⟩
   · refine opk_pure rfl rfl fun a w hb hf hd => ?_
     obtain ⟨cs, h1, h2, h3, h4, h5⟩ := bx.below hb x1096
     exact ⟨_, run_load_row _ _ rfl (ev ((hf 10 (out_of (by kernel_rfl))).trans s1120)) h1 Tryz.underlying26 rfl (by rw [h2]; exact info_Rat), fun _ _ => h5⟩
   · refine opk_call rfl rfl fun a w hb hf hd => ?_
     have e0 : a.eval (.tmp 56) = sl a 56 := rfl
     have e1 : a.eval (.tmp 57) = sl a 57 := rfl
     exact ⟨33, #[sl a 56, sl a 57], run_call rfl rfl (fun _ _ => by kernel_rfl) (args_2 e0 e1), (iv_containsN  (by omega) (by omega) (mP_imp (m1' := (mR paa 4)) (m2' := (mR qaa 4)) (fun _ h => (isK.r h)) (fun _ h => (isK.r h)) (hd.at 0 rfl rfl rfl rfl)) (isC.r (hd.at 1 rfl rfl rfl rfl)) (hT.below (B1079.trans (hb.mono B1079.size)))).mono fun _ _ r => RetS.imp (fun _ _ h => fun _ _ => h) r⟩
   · exact opk_pure rfl rfl fun a w hb hf hd => ⟨_, run_move rfl, fun _ _ => (hd.at 0 rfl rfl rfl rfl)⟩
   · refine opk_guard ((!(decide ((btw pbb qbb j3) < (mnQ paa qaa)))) && (!(decide ((mxQ paa qaa) < (btw pbb qbb j3))))) rfl rfl rfl rfl (by rw [z1108]; decide) (fun a w hb hf hd => (hd.at 0 rfl rfl rfl rfl)) (fun hne _ hγ => absurd (Eq.mp (Bool.not_eq_true' _) hγ) hne) (fun hγ0 => ?_)
     have hγ : (!((!(decide ((btw pbb qbb j3) < (mnQ paa qaa)))) && (!(decide ((mxQ paa qaa) < (btw pbb qbb j3)))))) = true := by rw [hγ0]; rfl
     refine opk_pure rfl rfl fun a w hb hf hd => ?_
     obtain ⟨cs, h1, h2, h3, h4, h5⟩ := bx.below hb x1098
     exact ⟨_, run_load_row _ _ rfl (ev ((hf 5 (out_of (by kernel_rfl))).trans s1111)) h1 Tryz.underlying44 rfl (by rw [h2]; exact info_Interval), fun _ _ _ => h5⟩
   · refine opk_guard ((!(decide ((btw pbb qbb j3) < (mnQ paa qaa)))) && (!(decide ((mxQ paa qaa) < (btw pbb qbb j3))))) rfl rfl rfl rfl (by rw [z1108]; decide) (fun a w hb hf hd => (hd.at 0 rfl rfl rfl rfl)) (fun hne _ hγ => absurd (Eq.mp (Bool.not_eq_true' _) hγ) hne) (fun hγ0 => ?_)
     have hγ : (!((!(decide ((btw pbb qbb j3) < (mnQ paa qaa)))) && (!(decide ((mxQ paa qaa) < (btw pbb qbb j3)))))) = true := by rw [hγ0]; rfl
     refine opk_pure rfl rfl fun a w hb hf hd => ?_
     obtain ⟨cs, h1, h2, h3, h4, h5⟩ := bx.below hb x1096
     exact ⟨_, run_load_row _ _ rfl (ev ((hf 10 (out_of (by kernel_rfl))).trans s1120)) h1 Tryz.underlying26 rfl (by rw [h2]; exact info_Rat), fun _ _ _ => h5⟩
   · refine opk_guard ((!(decide ((btw pbb qbb j3) < (mnQ paa qaa)))) && (!(decide ((mxQ paa qaa) < (btw pbb qbb j3))))) rfl rfl rfl rfl (by rw [z1108]; decide) (fun a w hb hf hd => (hd.at 2 rfl rfl rfl rfl)) (fun hne _ hγ => absurd (Eq.mp (Bool.not_eq_true' _) hγ) hne) (fun hγ0 => ?_)
     have hγ : (!((!(decide ((btw pbb qbb j3) < (mnQ paa qaa)))) && (!(decide ((mxQ paa qaa) < (btw pbb qbb j3)))))) = true := by rw [hγ0]; rfl
     refine opk_call rfl rfl fun a w hb hf hd => ?_
     have e0 : a.eval (.tmp 60) = sl a 60 := rfl
     have e1 : a.eval (.tmp 61) = sl a 61 := rfl
     exact ⟨33, #[sl a 60, sl a 61], run_call rfl rfl (fun _ _ => by kernel_rfl) (args_2 e0 e1), (iv_containsN  (by omega) (by omega) (mP_imp (m1' := (mR pbb 4)) (m2' := (mR qbb 4)) (fun _ h => (isK.r h)) (fun _ h => (isK.r h)) ((hd.at 0 rfl rfl rfl rfl) hγ)) (isC.r ((hd.at 1 rfl rfl rfl rfl) hγ)) (hT.below (B1079.trans (hb.mono B1079.size)))).mono fun _ _ r => RetS.imp (fun _ _ h => fun _ _ _ => h) r⟩
   · exact opk_pure rfl rfl fun a w hb hf hd => ⟨_, run_pick rfl (ev (hd.at 0 rfl rfl rfl rfl)), fun _ _ => pick_or fun h => (hd.at 1 rfl rfl rfl rfl) (by rw [h]; rfl)⟩
   intro a1124 w1125 ms1126
   have B1127 := B1079.trans (ms1126.b.mono B1079.size)
   have z1128 := ms1126.sz.trans z1108
   have d1129 := ms1126.df.trans d1109
   have s1130 := (ms1126.fr 4 (out_of (by kernel_rfl))).trans s1110
   have s1131 := (ms1126.fr 5 (out_of (by kernel_rfl))).trans s1111
   have s1136 := (ms1126.fr 37 (out_of (by kernel_rfl))).trans s1116
   have s1138 := (ms1126.fr 38 (out_of (by kernel_rfl))).trans s1118
   have s1140 := (ms1126.fr 10 (out_of (by kernel_rfl))).trans s1120
   have s1141 := (ms1126.fr 11 (out_of (by kernel_rfl))).trans s1121
   have s1142 := (ms1126.fr 12 (out_of (by kernel_rfl))).trans s1122
   have s1143 := (ms1126.fr 13 (out_of (by kernel_rfl))).trans s1107
   have x1144 := bx.below ms1126.b x1095
   have x1145 := bx.below ms1126.b x1096
   have x1146 := bx.below ms1126.b x1097
   have x1147 := bx.below ms1126.b x1098
   have x1148 := bx.below ms1126.b x1099
   have x1149 := bx.below ms1126.b x1100
   have s1150 : sl a1124 63 = .bool (((!(decide ((btw pbb qbb j3) < (mnQ paa qaa)))) && (!(decide ((mxQ paa qaa) < (btw pbb qbb j3))))) || ((!(decide ((btw pbb qbb j3) < (mnQ pbb qbb)))) && (!(decide ((mxQ pbb qbb) < (btw pbb qbb j3)))))) := ms1126.g 7 _ 63 rfl (by decide) trivial rfl
   refine tl_set rfl rfl (run_assign rfl) (by rw [z1128]; decide) ?_
   intro a1151 z1152 d1153 s1154 fr1155
   have s1156 := s1154.trans s1150
   have z1157 := z1152.trans z1128
   have d1158 := d1153.trans d1129
   have s1159 := (fr1155 4 (by decide)).trans s1130
   have s1160 := (fr1155 5 (by decide)).trans s1131
   have s1165 := (fr1155 37 (by decide)).trans s1136
   have s1167 := (fr1155 38 (by decide)).trans s1138
   have s1169 := (fr1155 10 (by decide)).trans s1140
   have s1170 := (fr1155 11 (by decide)).trans s1141
   have s1171 := (fr1155 12 (by decide)).trans s1142
   have s1172 := (fr1155 13 (by decide)).trans s1143
   refine wpList_nil (then_normal ?_)
   refine wp_seq ?_
   refine wp_region_mono 19 [] (mG [(mV (.bool (((!(decide ((btw pbb qbb j3) < (mnQ paa qaa)))) && (!(decide ((mxQ paa qaa) < (btw pbb qbb j3))))) && ((!(decide ((btw pbb qbb j3) < (mnQ pbb qbb)))) && (!(decide ((mxQ pbb qbb) < (btw pbb qbb j3)))))))).b, (mV (.bool (decide (meE (mxQ (mnQ paa qaa) (mnQ pbb qbb)) (mnQ (mxQ paa qaa) (mxQ pbb qbb)) = 0)))).b, (mV (.bool (decide (meE (mxQ (mnQ paa qaa) (mnQ pbb qbb)) (mnQ (mxQ paa qaa) (mxQ pbb qbb)) = 0)))).b, (mIf (decide (meE (mxQ (mnQ paa qaa) (mnQ pbb qbb)) (mnQ (mxQ paa qaa) (mxQ pbb qbb)) = 0)) (mP (mE (mxQ (mnQ paa qaa) (mnQ pbb qbb)) (meE (mxQ (mnQ paa qaa) (mnQ pbb qbb)) (mnQ (mxQ paa qaa) (mxQ pbb qbb))) 17) (mE (mnQ (mxQ paa qaa) (mxQ pbb qbb)) (meE (mxQ (mnQ paa qaa) (mnQ pbb qbb)) (mnQ (mxQ paa qaa) (mxQ pbb qbb))) 17))).b, (mIf (decide (meE (mxQ (mnQ paa qaa) (mnQ pbb qbb)) (mnQ (mxQ paa qaa) (mxQ pbb qbb)) = 0)) (mC (btw pbb qbb j3) 88)).b, (mIf (decide (meE (mxQ (mnQ paa qaa) (mnQ pbb qbb)) (mnQ (mxQ paa qaa) (mxQ pbb qbb)) = 0)) (mV (.bool ((!(decide ((btw pbb qbb j3) < (mnQ (if meE (mxQ (mnQ paa qaa) (mnQ pbb qbb)) (mnQ (mxQ paa qaa) (mxQ pbb qbb)) = 0 then mxQ (mnQ paa qaa) (mnQ pbb qbb) else 0) (if meE (mxQ (mnQ paa qaa) (mnQ pbb qbb)) (mnQ (mxQ paa qaa) (mxQ pbb qbb)) = 0 then mnQ (mxQ paa qaa) (mxQ pbb qbb) else 0))))) && (!(decide ((mxQ (if meE (mxQ (mnQ paa qaa) (mnQ pbb qbb)) (mnQ (mxQ paa qaa) (mxQ pbb qbb)) = 0 then mxQ (mnQ paa qaa) (mnQ pbb qbb) else 0) (if meE (mxQ (mnQ paa qaa) (mnQ pbb qbb)) (mnQ (mxQ paa qaa) (mxQ pbb qbb)) = 0 then mnQ (mxQ paa qaa) (mxQ pbb qbb) else 0)) < (btw pbb qbb j3)))))))).b, (mV (.bool ((decide (meE (mxQ (mnQ paa qaa) (mnQ pbb qbb)) (mnQ (mxQ paa qaa) (mxQ pbb qbb)) = 0)) && ((!(decide ((btw pbb qbb j3) < (mnQ (if meE (mxQ (mnQ paa qaa) (mnQ pbb qbb)) (mnQ (mxQ paa qaa) (mxQ pbb qbb)) = 0 then mxQ (mnQ paa qaa) (mnQ pbb qbb) else 0) (if meE (mxQ (mnQ paa qaa) (mnQ pbb qbb)) (mnQ (mxQ paa qaa) (mxQ pbb qbb)) = 0 then mnQ (mxQ paa qaa) (mxQ pbb qbb) else 0))))) && (!(decide ((mxQ (if meE (mxQ (mnQ paa qaa) (mnQ pbb qbb)) (mnQ (mxQ paa qaa) (mxQ pbb qbb)) = 0 then mxQ (mnQ paa qaa) (mnQ pbb qbb) else 0) (if meE (mxQ (mnQ paa qaa) (mnQ pbb qbb)) (mnQ (mxQ paa qaa) (mxQ pbb qbb)) = 0 then mnQ (mxQ paa qaa) (mxQ pbb qbb) else 0)) < (btw pbb qbb j3)))))))).b, (mV (.bool false)).b, (mV (.bool false)).b, (mV (.bool (((!(decide ((btw pbb qbb j3) < (mnQ paa qaa)))) && (!(decide ((mxQ paa qaa) < (btw pbb qbb j3))))) || ((!(decide ((btw pbb qbb j3) < (mnQ pbb qbb)))) && (!(decide ((mxQ pbb qbb) < (btw pbb qbb j3)))))))).b, (mV (.bool (((!(decide ((btw pbb qbb j3) < (mnQ paa qaa)))) && (!(decide ((mxQ paa qaa) < (btw pbb qbb j3))))) || ((!(decide ((btw pbb qbb j3) < (mnQ pbb qbb)))) && (!(decide ((mxQ pbb qbb) < (btw pbb qbb j3)))))))).b, (mIf (((!(decide ((btw pbb qbb j3) < (mnQ paa qaa)))) && (!(decide ((mxQ paa qaa) < (btw pbb qbb j3))))) || ((!(decide ((btw pbb qbb j3) < (mnQ pbb qbb)))) && (!(decide ((mxQ pbb qbb) < (btw pbb qbb j3)))))) (mP (mK paa 4 caa) (mK qaa 4 daa))).b, (mIf (((!(decide ((btw pbb qbb j3) < (mnQ paa qaa)))) && (!(decide ((mxQ paa qaa) < (btw pbb qbb j3))))) || ((!(decide ((btw pbb qbb j3) < (mnQ pbb qbb)))) && (!(decide ((mxQ pbb qbb) < (btw pbb qbb j3)))))) (mP (mK pbb 4 cbb) (mK qbb 4 dbb))).b, (mIf (((!(decide ((btw pbb qbb j3) < (mnQ paa qaa)))) && (!(decide ((mxQ paa qaa) < (btw pbb qbb j3))))) || ((!(decide ((btw pbb qbb j3) < (mnQ pbb qbb)))) && (!(decide ((mxQ pbb qbb) < (btw pbb qbb j3)))))) (mP (mC (mnQ (mnQ paa qaa) (mnQ pbb qbb)) 17) (mC (mxQ (mxQ paa qaa) (mxQ pbb qbb)) 17))).b, (mIf (((!(decide ((btw pbb qbb j3) < (mnQ paa qaa)))) && (!(decide ((mxQ paa qaa) < (btw pbb qbb j3))))) || ((!(decide ((btw pbb qbb j3) < (mnQ pbb qbb)))) && (!(decide ((mxQ pbb qbb) < (btw pbb qbb j3)))))) (mC (btw pbb qbb j3) 88)).b, (mIf (((!(decide ((btw pbb qbb j3) < (mnQ paa qaa)))) && (!(decide ((mxQ paa qaa) < (btw pbb qbb j3))))) || ((!(decide ((btw pbb qbb j3) < (mnQ pbb qbb)))) && (!(decide ((mxQ pbb qbb) < (btw pbb qbb j3)))))) (mV (.bool ((!(decide ((btw pbb qbb j3) < (mnQ (mnQ (mnQ paa qaa) (mnQ pbb qbb)) (mxQ (mxQ paa qaa) (mxQ pbb qbb)))))) && (!(decide ((mxQ (mnQ (mnQ paa qaa) (mnQ pbb qbb)) (mxQ (mxQ paa qaa) (mxQ pbb qbb))) < (btw pbb qbb j3)))))))).b, (mIf (((!(decide ((btw pbb qbb j3) < (mnQ paa qaa)))) && (!(decide ((mxQ paa qaa) < (btw pbb qbb j3))))) || ((!(decide ((btw pbb qbb j3) < (mnQ pbb qbb)))) && (!(decide ((mxQ pbb qbb) < (btw pbb qbb j3)))))) (mV (.bool (!((!(decide ((btw pbb qbb j3) < (mnQ (mnQ (mnQ paa qaa) (mnQ pbb qbb)) (mxQ (mxQ paa qaa) (mxQ pbb qbb)))))) && (!(decide ((mxQ (mnQ (mnQ paa qaa) (mnQ pbb qbb)) (mxQ (mxQ paa qaa) (mxQ pbb qbb))) < (btw pbb qbb j3))))))))).b, (mV (.bool ((((!(decide ((btw pbb qbb j3) < (mnQ paa qaa)))) && (!(decide ((mxQ paa qaa) < (btw pbb qbb j3))))) || ((!(decide ((btw pbb qbb j3) < (mnQ pbb qbb)))) && (!(decide ((mxQ pbb qbb) < (btw pbb qbb j3)))))) && (!((!(decide ((btw pbb qbb j3) < (mnQ (mnQ (mnQ paa qaa) (mnQ pbb qbb)) (mxQ (mxQ paa qaa) (mxQ pbb qbb)))))) && (!(decide ((mxQ (mnQ (mnQ paa qaa) (mnQ pbb qbb)) (mxQ (mxQ paa qaa) (mxQ pbb qbb))) < (btw pbb qbb j3))))))))).b, (mV (.bool false)).b]) (by kernel_rfl) (by rw [z1157]; kernel_rfl) (fun h => absurd rfl h) (mG_mono _) (ops_ok ⟨?_, ?_, ?_, ?_, ?_, ?_, ?_, ?_, ?_, ?_, ?_, ?_, ?_, ?_, ?_, ?_, ?_, ?_, ?_, trivial⟩) ?_
   · exact opk_pure rfl rfl fun a w hb hf hd => ⟨_, run_move rfl, fun _ _ => ((hf 13 (out_of (by kernel_rfl))).trans s1172)⟩
   · exact opk_pure rfl rfl fun a w hb hf hd => ⟨_, run_move rfl, fun _ _ => ((hf 12 (out_of (by kernel_rfl))).trans s1171)⟩
   · exact opk_pure rfl rfl fun a w hb hf hd => ⟨_, run_move rfl, fun _ _ => (hd.at 0 rfl rfl rfl rfl)⟩
   · refine opk_guard (decide (meE (mxQ (mnQ paa qaa) (mnQ pbb qbb)) (mnQ (mxQ paa qaa) (mxQ pbb qbb)) = 0)) rfl rfl rfl rfl (by rw [z1157]; decide) (fun a w hb hf hd => (hd.at 0 rfl rfl rfl rfl)) (fun hne _ hγ => absurd hγ hne) (fun hγ => ?_)
     refine opk_pure rfl rfl fun a w hb hf hd => ?_
     obtain ⟨cs, h1, h2, h3, h4, h5⟩ := bx.below hb x1144
     exact ⟨_, run_load_row _ _ rfl (ev ((hf 11 (out_of (by kernel_rfl))).trans s1170)) h1 Tryz.underlying44 rfl (by rw [h2]; exact info_Interval), fun _ _ _ => h5⟩
   · refine opk_guard (decide (meE (mxQ (mnQ paa qaa) (mnQ pbb qbb)) (mnQ (mxQ paa qaa) (mxQ pbb qbb)) = 0)) rfl rfl rfl rfl (by rw [z1157]; decide) (fun a w hb hf hd => (hd.at 0 rfl rfl rfl rfl)) (fun hne _ hγ => absurd hγ hne) (fun hγ => ?_)
     refine opk_pure rfl rfl fun a w hb hf hd => ?_
     obtain ⟨cs, h1, h2, h3, h4, h5⟩ := bx.below hb x1145
     exact ⟨_, run_load_row _ _ rfl (ev ((hf 10 (out_of (by kernel_rfl))).trans s1169)) h1 Tryz.underlying26 rfl (by rw [h2]; exact info_Rat), fun _ _ _ => h5⟩
   · refine opk_guard (decide (meE (mxQ (mnQ paa qaa) (mnQ pbb qbb)) (mnQ (mxQ paa qaa) (mxQ pbb qbb)) = 0)) rfl rfl rfl rfl (by rw [z1157]; decide) (fun a w hb hf hd => (hd.at 2 rfl rfl rfl rfl)) (fun hne _ hγ => absurd hγ hne) (fun hγ => ?_)
     refine opk_call rfl rfl fun a w hb hf hd => ?_
     have e0 : a.eval (.tmp 67) = sl a 67 := rfl
     have e1 : a.eval (.tmp 68) = sl a 68 := rfl
     exact ⟨33, #[sl a 67, sl a 68], run_call rfl rfl (fun _ _ => by kernel_rfl) (args_2 e0 e1), (iv_containsN  (by omega) (by omega) (mP_imp (m1' := (mR (if meE (mxQ (mnQ paa qaa) (mnQ pbb qbb)) (mnQ (mxQ paa qaa) (mxQ pbb qbb)) = 0 then mxQ (mnQ paa qaa) (mnQ pbb qbb) else 0) 17)) (m2' := (mR (if meE (mxQ (mnQ paa qaa) (mnQ pbb qbb)) (mnQ (mxQ paa qaa) (mxQ pbb qbb)) = 0 then mnQ (mxQ paa qaa) (mxQ pbb qbb) else 0) 17)) (fun _ h => (isE.r h)) (fun _ h => (isE.r h)) ((hd.at 0 rfl rfl rfl rfl) hγ)) (isC.r ((hd.at 1 rfl rfl rfl rfl) hγ)) (hT.below (B1127.trans (hb.mono B1127.size)))).mono fun _ _ r => RetS.imp (fun _ _ h => fun _ _ _ => h) r⟩
   · exact opk_pure rfl rfl fun a w hb hf hd => ⟨_, run_pick rfl (ev (hd.at 0 rfl rfl rfl rfl)), fun _ _ => pick_and (hd.at 1 rfl rfl rfl rfl)⟩
   · exact opk_pure rfl rfl fun a w hb hf hd => ⟨_, run_neqb rfl (ev (hd.at 0 rfl rfl rfl rfl)) (ev (hd.at 1 rfl rfl rfl rfl)), fun _ _ => (Eq.trans (b := Value.bool ((((!(decide ((btw pbb qbb j3) < (mnQ paa qaa)))) && (!(decide ((mxQ paa qaa) < (btw pbb qbb j3))))) && ((!(decide ((btw pbb qbb j3) < (mnQ pbb qbb)))) && (!(decide ((mxQ pbb qbb) < (btw pbb qbb j3)))))) != ((decide (meE (mxQ (mnQ paa qaa) (mnQ pbb qbb)) (mnQ (mxQ paa qaa) (mxQ pbb qbb)) = 0)) && ((!(decide ((btw pbb qbb j3) < (mnQ (if meE (mxQ (mnQ paa qaa) (mnQ pbb qbb)) (mnQ (mxQ paa qaa) (mxQ pbb qbb)) = 0 then mxQ (mnQ paa qaa) (mnQ pbb qbb) else 0) (if meE (mxQ (mnQ paa qaa) (mnQ pbb qbb)) (mnQ (mxQ paa qaa) (mxQ pbb qbb)) = 0 then mnQ (mxQ paa qaa) (mxQ pbb qbb) else 0))))) && (!(decide ((mxQ (if meE (mxQ (mnQ paa qaa) (mnQ pbb qbb)) (mnQ (mxQ paa qaa) (mxQ pbb qbb)) = 0 then mxQ (mnQ paa qaa) (mnQ pbb qbb) else 0) (if meE (mxQ (mnQ paa qaa) (mnQ pbb qbb)) (mnQ (mxQ paa qaa) (mxQ pbb qbb)) = 0 then mnQ (mxQ paa qaa) (mxQ pbb qbb) else 0)) < (btw pbb qbb j3)))))))) rfl (congrArg Value.bool meets_1))⟩
   · exact opk_pure rfl rfl fun a w hb hf hd => ⟨_, run_move rfl, fun _ _ => (hd.at 0 rfl rfl rfl rfl)⟩
   · refine opk_guard false rfl rfl rfl rfl (by rw [z1157]; decide) (fun a w hb hf hd => (hd.at 0 rfl rfl rfl rfl)) (fun h => absurd rfl h) (fun _ => ?_)
     exact opk_pure rfl rfl fun a w hb hf hd => ⟨_, run_move rfl, fun _ _ => ((hf 14 (out_of (by kernel_rfl))).trans s1156)⟩
   · refine opk_guard false rfl rfl rfl rfl (by rw [z1157]; decide) (fun a w hb hf hd => (hd.at 1 rfl rfl rfl rfl)) (fun h => absurd rfl h) (fun _ => ?_)
     exact opk_pure rfl rfl fun a w hb hf hd => ⟨_, run_move rfl, fun _ _ => (hd.at 0 rfl rfl rfl rfl)⟩
   · refine opk_guard (((!(decide ((btw pbb qbb j3) < (mnQ paa qaa)))) && (!(decide ((mxQ paa qaa) < (btw pbb qbb j3))))) || ((!(decide ((btw pbb qbb j3) < (mnQ pbb qbb)))) && (!(decide ((mxQ pbb qbb) < (btw pbb qbb j3)))))) rfl rfl rfl rfl (by rw [z1157]; decide) (fun a w hb hf hd => (hd.at 0 rfl rfl rfl rfl)) (fun hne _ hγ => absurd hγ hne) (fun hγ => ?_)
     refine opk_pure rfl rfl fun a w hb hf hd => ?_
     obtain ⟨cs, h1, h2, h3, h4, h5⟩ := bx.below hb x1146
     exact ⟨_, run_load_row _ _ rfl (ev ((hf 4 (out_of (by kernel_rfl))).trans s1159)) h1 Tryz.underlying44 rfl (by rw [h2]; exact info_Interval), fun _ _ _ => h5⟩
   · refine opk_guard (((!(decide ((btw pbb qbb j3) < (mnQ paa qaa)))) && (!(decide ((mxQ paa qaa) < (btw pbb qbb j3))))) || ((!(decide ((btw pbb qbb j3) < (mnQ pbb qbb)))) && (!(decide ((mxQ pbb qbb) < (btw pbb qbb j3)))))) rfl rfl rfl rfl (by rw [z1157]; decide) (fun a w hb hf hd => (hd.at 0 rfl rfl rfl rfl)) (fun hne _ hγ => absurd hγ hne) (fun hγ => ?_)
     refine opk_pure rfl rfl fun a w hb hf hd => ?_
     obtain ⟨cs, h1, h2, h3, h4, h5⟩ := bx.below hb x1147
     exact ⟨_, run_load_row _ _ rfl (ev ((hf 5 (out_of (by kernel_rfl))).trans s1160)) h1 Tryz.underlying44 rfl (by rw [h2]; exact info_Interval), fun _ _ _ => h5⟩
   · refine opk_guard (((!(decide ((btw pbb qbb j3) < (mnQ paa qaa)))) && (!(decide ((mxQ paa qaa) < (btw pbb qbb j3))))) || ((!(decide ((btw pbb qbb j3) < (mnQ pbb qbb)))) && (!(decide ((mxQ pbb qbb) < (btw pbb qbb j3)))))) rfl rfl rfl rfl (by rw [z1157]; decide) (fun a w hb hf hd => (hd.at 2 rfl rfl rfl rfl)) (fun hne _ hγ => absurd hγ hne) (fun hγ => ?_)
     refine opk_call rfl rfl fun a w hb hf hd => ?_
     have e0 : a.eval (.tmp 75) = sl a 75 := rfl
     have e1 : a.eval (.tmp 76) = sl a 76 := rfl
     exact ⟨57, #[sl a 75, sl a 76], run_call rfl rfl (fun _ _ => by kernel_rfl) (args_2 e0 e1), (iv_hull  (by omega) (by omega) (mP_imp (m1' := (mR paa 4)) (m2' := (mR qaa 4)) (fun _ h => (isK.r h)) (fun _ h => (isK.r h)) ((hd.at 0 rfl rfl rfl rfl) hγ)) (mP_imp (m1' := (mR pbb 4)) (m2' := (mR qbb 4)) (fun _ h => (isK.r h)) (fun _ h => (isK.r h)) ((hd.at 1 rfl rfl rfl rfl) hγ)) (hT.below (B1127.trans (hb.mono B1127.size)))).mono fun _ _ r => RetS.imp (fun _ _ h => fun _ _ _ => (mP_imp (fun _ h => (isC.mono h (by omega))) (fun _ h => (isC.mono h (by omega))) h)) r⟩
   · refine opk_guard (((!(decide ((btw pbb qbb j3) < (mnQ paa qaa)))) && (!(decide ((mxQ paa qaa) < (btw pbb qbb j3))))) || ((!(decide ((btw pbb qbb j3) < (mnQ pbb qbb)))) && (!(decide ((mxQ pbb qbb) < (btw pbb qbb j3)))))) rfl rfl rfl rfl (by rw [z1157]; decide) (fun a w hb hf hd => (hd.at 0 rfl rfl rfl rfl)) (fun hne _ hγ => absurd hγ hne) (fun hγ => ?_)
     refine opk_pure rfl rfl fun a w hb hf hd => ?_
     obtain ⟨cs, h1, h2, h3, h4, h5⟩ := bx.below hb x1145
     exact ⟨_, run_load_row _ _ rfl (ev ((hf 10 (out_of (by kernel_rfl))).trans s1169)) h1 Tryz.underlying26 rfl (by rw [h2]; exact info_Rat), fun _ _ _ => h5⟩
   · refine opk_guard (((!(decide ((btw pbb qbb j3) < (mnQ paa qaa)))) && (!(decide ((mxQ paa qaa) < (btw pbb qbb j3))))) || ((!(decide ((btw pbb qbb j3) < (mnQ pbb qbb)))) && (!(decide ((mxQ pbb qbb) < (btw pbb qbb j3)))))) rfl rfl rfl rfl (by rw [z1157]; decide) (fun a w hb hf hd => (hd.at 3 rfl rfl rfl rfl)) (fun hne _ hγ => absurd hγ hne) (fun hγ => ?_)
     refine opk_call rfl rfl fun a w hb hf hd => ?_
     have e0 : a.eval (.tmp 77) = sl a 77 := rfl
     have e1 : a.eval (.tmp 78) = sl a 78 := rfl
     exact ⟨33, #[sl a 77, sl a 78], run_call rfl rfl (fun _ _ => by kernel_rfl) (args_2 e0 e1), (iv_containsN  (by omega) (by omega) (mP_imp (m1' := (mR (mnQ (mnQ paa qaa) (mnQ pbb qbb)) 17)) (m2' := (mR (mxQ (mxQ paa qaa) (mxQ pbb qbb)) 17)) (fun _ h => (isC.r h)) (fun _ h => (isC.r h)) ((hd.at 0 rfl rfl rfl rfl) hγ)) (isC.r ((hd.at 1 rfl rfl rfl rfl) hγ)) (hT.below (B1127.trans (hb.mono B1127.size)))).mono fun _ _ r => RetS.imp (fun _ _ h => fun _ _ _ => h) r⟩
   · refine opk_guard (((!(decide ((btw pbb qbb j3) < (mnQ paa qaa)))) && (!(decide ((mxQ paa qaa) < (btw pbb qbb j3))))) || ((!(decide ((btw pbb qbb j3) < (mnQ pbb qbb)))) && (!(decide ((mxQ pbb qbb) < (btw pbb qbb j3)))))) rfl rfl rfl rfl (by rw [z1157]; decide) (fun a w hb hf hd => (hd.at 1 rfl rfl rfl rfl)) (fun hne _ hγ => absurd hγ hne) (fun hγ => ?_)
     exact opk_pure rfl rfl fun a w hb hf hd => ⟨_, run_not rfl (ev ((hd.at 0 rfl rfl rfl rfl) hγ)), fun _ _ _ => rfl⟩
   · refine opk_guard false rfl rfl rfl rfl (by rw [z1157]; decide) (fun a w hb hf hd => (hd.at 2 rfl rfl rfl rfl)) (fun h => absurd rfl h) (fun _ => ?_)
     exact opk_pure rfl rfl fun a w hb hf hd => ⟨_, run_pick rfl (ev (hd.at 0 rfl rfl rfl rfl)), fun _ _ => pick_and (hd.at 1 rfl rfl rfl rfl)⟩
   · exact opk_pure rfl rfl fun a w hb hf hd => ⟨_, run_pick rfl (ev (hd.at 0 rfl rfl rfl rfl)), fun _ _ => (Eq.trans (b := Value.bool (false || ((((!(decide ((btw pbb qbb j3) < (mnQ paa qaa)))) && (!(decide ((mxQ paa qaa) < (btw pbb qbb j3))))) || ((!(decide ((btw pbb qbb j3) < (mnQ pbb qbb)))) && (!(decide ((mxQ pbb qbb) < (btw pbb qbb j3)))))) && (!((!(decide ((btw pbb qbb j3) < (mnQ (mnQ (mnQ paa qaa) (mnQ pbb qbb)) (mxQ (mxQ paa qaa) (mxQ pbb qbb)))))) && (!(decide ((mxQ (mnQ (mnQ paa qaa) (mnQ pbb qbb)) (mxQ (mxQ paa qaa) (mxQ pbb qbb))) < (btw pbb qbb j3))))))))) (pick_or fun h => (hd.at 1 rfl rfl rfl rfl)) (congrArg Value.bool meets_2))⟩
   intro a1174 w1175 ms1176
   have B1177 := B1127.trans (ms1176.b.mono B1127.size)
   have z1178 := ms1176.sz.trans z1157
   have d1179 := ms1176.df.trans d1158
   have s1186 := (ms1176.fr 37 (out_of (by kernel_rfl))).trans s1165
   have s1187 := (ms1176.fr 38 (out_of (by kernel_rfl))).trans s1167
   have x1191 := bx.below ms1176.b x1144
   have x1192 := bx.below ms1176.b x1145
   have x1193 := bx.below ms1176.b x1146
   have x1194 := bx.below ms1176.b x1147
   have x1195 := bx.below ms1176.b x1148
   have x1196 := bx.below ms1176.b x1149
   have s1197 : sl a1174 82 = .bool false := ms1176.g 18 _ 82 rfl (by decide) trivial rfl
   refine wpList_nil (then_normal ?_)
   refine wp_cond_false (ev s1197) ?_
   refine wp_skip (in_normal (then_normal ?_))
   refine wp_region_seq 1 (mG [(mV (.int .i64 3)).b]) (by rw [z1178]; kernel_rfl) (mG_mono _) (ops_ok ⟨?_, trivial⟩) ?_
   · exact opk_pure rfl rfl fun a w hb hf hd => ⟨_, run_add rfl (ev ((hf 38 (out_of (by kernel_rfl))).trans s1187)) rfl (by omega) (by omega), fun _ _ => rfl⟩
   intro a1198 w1199 ms1200
   have B1201 := B1177.trans (ms1200.b.mono B1177.size)
   have z1202 := ms1200.sz.trans z1178
   have d1203 := ms1200.df.trans d1179
   have s1210 := (ms1200.fr 37 (out_of (by kernel_rfl))).trans s1186
   have x1216 := bx.below ms1200.b x1191
   have x1217 := bx.below ms1200.b x1192
   have x1218 := bx.below ms1200.b x1193
   have x1219 := bx.below ms1200.b x1194
   have x1220 := bx.below ms1200.b x1195
   have x1221 := bx.below ms1200.b x1196
   have s1222 : sl a1198 83 = .int .i64 3 := ms1200.g 0 _ 83 rfl (by decide) trivial rfl
   refine tl_set rfl rfl (run_move rfl) (by rw [z1202]; decide) ?_
   intro a1223 z1224 d1225 s1226 fr1227
   have s1228 := s1226.trans s1222
   have z1229 := z1224.trans z1202
   have d1230 := d1225.trans d1203
   have s1237 := (fr1227 37 (by decide)).trans s1210
   refine wpList_nil (then_normal ?_)
   refine rounds_go ?_
   refine wp_seq ?_
   refine wp_region_seq 1 (mG [(mV (.bool false)).b]) (by rw [z1229]; kernel_rfl) (mG_mono _) (ops_ok ⟨?_, trivial⟩) ?_
   · exact opk_pure rfl rfl fun a w hb hf hd => ⟨_, run_lss rfl (ev ((hf 38 (out_of (by kernel_rfl))).trans s1228)) (ev ((hf 37 (out_of (by kernel_rfl))).trans s1237)), fun _ _ => rfl⟩
   intro a1243 w1244 ms1245
   have B1246 := B1201.trans (ms1245.b.mono B1201.size)
   have z1247 := ms1245.sz.trans z1229
   have d1248 := ms1245.df.trans d1230
   have x1260 := bx.below ms1245.b x1216
   have x1261 := bx.below ms1245.b x1217
   have x1262 := bx.below ms1245.b x1218
   have x1263 := bx.below ms1245.b x1219
   have x1264 := bx.below ms1245.b x1220
   have x1265 := bx.below ms1245.b x1221
   have s1266 : sl a1243 39 = .bool false := ms1245.g 0 _ 39 rfl (by decide) trivial rfl
   refine wpList_nil (then_normal ?_)
   refine wp_seq ?_
   refine wp_cond_false (ev s1266) ?_
   refine wp_exit ?_
   repeat (first | refine exit_in ?_ | refine exit_then ?_ | refine exit_out (by decide) ?_)
   refine (then_normal ?_)
   refine wp_seq ?_
   refine wp_region_seq 1 (mG [(mV (.bool true)).b]) (by rw [z1247]; kernel_rfl) (mG_mono _) (ops_ok ⟨?_, trivial⟩) ?_
   · refine opk_call rfl rfl fun a w hb hf hd => ?_
     exact ⟨25, #[], run_call rfl rfl (fun _ _ => by kernel_rfl) args_0, (awake4_any (hT.below (B1246.trans (hb.mono B1246.size)))).mono fun _ _ r => RetS.imp (fun _ _ h => fun _ _ => h) r⟩
   intro a1267 w1268 ms1269
   have B1270 := B1246.trans (ms1269.b.mono B1246.size)
   have z1271 := ms1269.sz.trans z1247
   have d1272 := ms1269.df.trans d1248
   have x1284 := bx.below ms1269.b x1260
   have x1285 := bx.below ms1269.b x1261
   have x1286 := bx.below ms1269.b x1262
   have x1287 := bx.below ms1269.b x1263
   have x1288 := bx.below ms1269.b x1264
   have x1289 := bx.below ms1269.b x1265
   have s1290 : sl a1267 84 = .bool true := ms1269.g 0 _ 84 rfl (by decide) trivial rfl
   refine tl_set rfl rfl (run_assign rfl) (by rw [z1271]; decide) ?_
   intro a1291 z1292 d1293 s1294 fr1295
   have s1296 := s1294.trans s1290
   have d1298 := d1293.trans d1272
   refine wpList_nil (then_normal ?_)
   refine wp_ret ?_
   exact end_tmp rfl d1298 B1270 s1296
end Go.Proofs.YtbjijmjhlpkomaaGreatDoor

namespace Go.Proofs.YtbjijmjhlpkomaaGreatDoor.intervalMeets
open Go.ChangeShapes Go.WideShapes Go.ChangeAt Go.RowKit
open Go.ChangeMaps (open_string shut_string)

set_option linter.unusedVariables false
theorem lifted (os : Os) (started : os.Started) (H : Type) (enc : TypeId × Value → H) :
   ReturnsInHanded {} Tryz.checked os 8 .any (fun w args => (Rows.intervalMeetsSpec.pre enc Tryz.prog Tryz.f8 Rows.intervalMeetsRow.domain false w args ∧ laidMetH Tryz.prog Rows.intervalMeetsRow.laid w) ∧ sizedMet enc Tryz.prog Tryz.f8 (OpenSpec.ofChange Rows.intervalMeetsSpec) false w args)
     (Rows.intervalMeetsSpec.post enc Tryz.prog Tryz.f8 false true false false) := by
 refine returnsInHanded_of_change_and (C := Tryz.checked) (X := fun w _ => laidMetH Tryz.prog Rows.intervalMeetsRow.laid w) (fun _ _ _ hh h => h.of_heap hh) own started (by kernel_rfl) Tryz.func8
   (ChangeSpec.witness_shaped (enc := enc) (C := Tryz.checked) (os := os) (X := fun w _ => laidMetH Tryz.prog Rows.intervalMeetsRow.laid w) false (World.laidAll Tryz.prog os Rows.intervalMeetsRow.laid) #[.agg #[.bool false, .slice none 0 0, .slice none 0 0, .bool false, .slice none 0 0, .slice none 0 0], .agg #[.bool false, .slice none 0 0, .slice none 0 0, .bool false, .slice none 0 0, .slice none 0 0], .agg #[.bool false, .slice none 0 0, .slice none 0 0], .int .i64 0] 8 (World.laidAll_os _ _ _)
     (World.shaped_of_ZipB (by kernel_rfl) (by kernel_rfl)) (by kernel_rfl) (by kernel_rfl) (by kernel_rfl)
     (by rw [MakeChecks.laidMetH_plain _ _ _ (by kernel_rfl)]; exact laidMet_laidAll _ (by kernel_rfl) (by kernel_rfl))) ?_
 intro W base args ds gs before hval0 hW hcnd _ hL _
 have hval : ∀ (j : Nat) t v, Tryz.f8.params[j]? = some t → args[j]? = some v → Value.okWide Tryz.prog W .any base t v := hval0
 have hW' := hW
 obtain ⟨p, q, hA0, hV, rfl, hfz, hnd⟩ := hW
 have hA : DataW.TrodAll enc Tryz.prog W 0 (fun _ => true) true Tryz.f8.params.toList args.toList ds p := hA0
 rw [Tryz.params8] at hA hval
 obtain ⟨v0, vs0, d0, ds0, p0, q0, hargs, rfl, rfl, h0, r0⟩ := trodAll_cons hA
 obtain ⟨v1, vs1, d1, ds1, p1, q1, rfl, rfl, rfl, h1, r1⟩ := trodAll_cons r0
 obtain ⟨v2, vs2, d2, ds2, p2, q2, rfl, rfl, rfl, h2, r2⟩ := trodAll_cons r1
 obtain ⟨v3, vs3, d3, ds3, p3, q3, rfl, rfl, rfl, h3, r3⟩ := trodAll_cons r2
 obtain ⟨rfl, rfl, rfl⟩ := trodAll_nil r3
 obtain rfl : args = #[v0, v1, v2, v3] := by cases args; simp_all
 obtain ⟨rfl, rfl⟩ := trodVars_none hV
 have k0 := h0
 have lt0 : ∀ x ∈ p0, x.block < W.heap.size := by obtain ⟨m, hm⟩ := k0; exact DataW.trod_lt m _ _ _ hm
 obtain ⟨x0, y0, hf0⟩ := open_interval (hval 0 44 v0 rfl rfl) h0
 have k1 := h1
 have lt1 : ∀ x ∈ p1, x.block < W.heap.size := by obtain ⟨m, hm⟩ := k1; exact DataW.trod_lt m _ _ _ hm
 obtain ⟨x1, y1, hf1⟩ := open_interval (hval 1 44 v1 rfl rfl) h1
 have k2 := h2
 have lt2 : ∀ x ∈ p2, x.block < W.heap.size := by obtain ⟨m, hm⟩ := k2; exact DataW.trod_lt m _ _ _ hm
 obtain ⟨x2, hf2⟩ := open_ratS (hval 2 26 v2 rfl rfl) h2
 obtain ⟨a3, rfl, rfl, rfl, w3⟩ := open_int Tryz.underlying3 (hval 3 3 v3 rfl rfl) h3
 have ⟨w3a, w3b⟩ := Go.Joins.in64_of_wf w3
 clear hA0 hval0
 refine (walkIntervalMeets a3 w3a w3b hf0 hf1 hf2 (tb_of_met (by rw [MakeChecks.laidMetH_plain _ _ _ (by kernel_rfl)] at hL; exact hL))).mono fun e W' hr => ?_
 obtain ⟨vr, he, hvr, bel⟩ := hr
 obtain rfl : vr = .bool true := hvr
 subst he
 exact ⟨_, rfl, _, _, _, [], _, [], hW', trodAll_mk1 (shut_bool Tryz.underlying4 _), (trodAll_cons_mk (Below.trod laidOut (by kernel_rfl) (of_decide_eq_true (by kernel_rfl)) k0 bel lt0) (trodAll_cons_mk (Below.trod laidOut (by kernel_rfl) (of_decide_eq_true (by kernel_rfl)) k1 bel lt1) (trodAll_cons_mk (Below.trod laidOut (by kernel_rfl) (of_decide_eq_true (by kernel_rfl)) k2 bel lt2) (trodAll_cons_mk (shut_int Tryz.underlying3 w3) trodAll_mk0)))), rfl, bel.frame _, fun h => by cases h⟩

theorem both {a b : Bool} (h1 : a = true) (h2 : b = true) : (a && b) = true := by rw [h1, h2]; rfl

theorem closed : joinedFacts Tryz.prog 8 Tryz.f8 Rows.intervalMeetsSpec Rows.intervalMeetsRow = true := by
 unfold joinedFacts
 repeat' with_reducible refine both ?_ ?_
 all_goals (as_aux_lemma => kernel_rfl)

theorem over : Rows.IntervalMeetsSaid :=
 OpenClaim.holds_of_wide 8 Tryz.f8 rfl rfl rfl rfl rfl rfl rfl ⟨rfl, rfl, rfl, rfl, rfl⟩ rfl rfl rfl rfl rfl (by as_aux_lemma => kernel_rfl) Tryz.func8 closed
   (of_decide_eq_true (by kernel_rfl)) (by unfold Func.isWrapper; first | (rw [if_pos (by decide +kernel)]; kernel_rfl) | (rw [if_neg (by decide +kernel)]; exact ⟨rfl, rfl⟩))
   (fun os started H enc _ => lifted os started H enc)

theorem card : Rows.IntervalMeetsCardSaid :=
 Claim7.holds_tied_plain_at .later [] [.data] true Rows.intervalMeetsCard.stood.harness false over (fun _ h => by cases h) (by as_aux_lemma => kernel_rfl) (fun _ h => by cases h) intervalMeets_row_tie rfl ⟨rfl, rfl⟩ (by as_aux_lemma => kernel_rfl) rfl
   (fun f fn hf hfn => by
     obtain rfl : f = 8 := Option.some.inj ((show Tryz.prog.funcNamed "dspcompiler/dspcompilerlaw04.IntervalMeets" = some 8 by as_aux_lemma => kernel_rfl).symm.trans hf) |>.symm
     obtain rfl : fn = Tryz.f8 := (Option.some.inj (Tryz.func8.symm.trans hfn)).symm
     exact ⟨by as_aux_lemma => kernel_rfl, fun j t ht => by
       rw [Tryz.params8] at ht
       have hm : t ∈ [44, 44, 26, 3] := by simpa using Array.mem_of_getElem? ht
       have hall : ([44, 44, 26, 3].all fun u => !Tryz.prog.wantsStandIn u) = true := by as_aux_lemma => kernel_rfl
       exact (show Tryz.prog.wantsStandIn t = false by simpa using List.all_eq_true.1 hall t hm)⟩)
   (by as_aux_lemma => kernel_rfl)
end Go.Proofs.YtbjijmjhlpkomaaGreatDoor.intervalMeets
