/-  -/
import Derived.Test.YtbjijmjhlpkomaaGreatDoorQIv4

set_option linter.unusedVariables false
set_option linter.unusedSimpArgs false
set_option linter.unusedSectionVars false
set_option maxRecDepth 100000
set_option maxHeartbeats 3200000

namespace Go.Proofs.YtbjijmjhlpkomaaGreatDoor
open Go.RowKit Num

theorem btw_of {p q : Rat} {n : Int} : mnQ p q + (mxQ (mnQ p q) (mxQ p q) - mnQ (mnQ p q) (mxQ p q)) * Rat.divInt (n % 9) 8 = btw p q n := by
 rw [mn_eq (mn_le_mx p q), mx_eq (mn_le_mx p q)]; rfl
theorem mnQ_le {x a b : Rat} : mnQ a b ≤ x ↔ a ≤ x ∨ b ≤ x := by
 constructor
 · intro h
   rcases (by unfold mnQ; split <;> simp : mnQ a b = b ∨ mnQ a b = a) with e | e <;> rw [e] at h
   · exact Or.inr h
   · exact Or.inl h
 · rintro (h | h)
   · exact Rat.le_trans (mn_le_l _ _) h
   · exact Rat.le_trans (mn_le_r _ _) h
theorem le_mxQ {x a b : Rat} : x ≤ mxQ a b ↔ x ≤ a ∨ x ≤ b := by
 constructor
 · intro h
   rcases (by unfold mxQ; split <;> simp : mxQ a b = b ∨ mxQ a b = a) with e | e <;> rw [e] at h
   · exact Or.inr h
   · exact Or.inl h
 · rintro (h | h)
   · exact Rat.le_trans h (le_mx_l _ _)
   · exact Rat.le_trans h (le_mx_r _ _)
theorem le_mnQ {x a b : Rat} : x ≤ mnQ a b ↔ x ≤ a ∧ x ≤ b := by
 constructor
 · intro h; exact ⟨Rat.le_trans h (mn_le_l _ _), Rat.le_trans h (mn_le_r _ _)⟩
 · rintro ⟨h1, h2⟩
   rcases (by unfold mnQ; split <;> simp : mnQ a b = b ∨ mnQ a b = a) with e | e <;> rw [e] <;> assumption
theorem mxQ_le {x a b : Rat} : mxQ a b ≤ x ↔ a ≤ x ∧ b ≤ x := by
 constructor
 · intro h; exact ⟨Rat.le_trans (le_mx_l _ _) h, Rat.le_trans (le_mx_r _ _) h⟩
 · rintro ⟨h1, h2⟩
   rcases (by unfold mxQ; split <;> simp : mxQ a b = b ∨ mxQ a b = a) with e | e <;> rw [e] <;> assumption
def inQ (x lo hi : Rat) : Prop := lo ≤ x ∧ x ≤ hi
end Go.Proofs.YtbjijmjhlpkomaaGreatDoor

namespace Go.Proofs.YtbjijmjhlpkomaaGreatDoor
open Go.RowKit Num

theorem l4_between {p0 q0 : Rat} {k0 : Nat} (j1 : Int) {v0 : Value} {w : World} (hk0 : k0 ≤ 99) (hj1a : -9223372036854775808 ≤ j1) (hj1b : j1 ≤ 9223372036854775807) (pf0 : (mP (mR p0 k0) (mR q0 k0)).S w v0) :
   Calls Tryz.prog 59 #[v0, .int .i64 j1] w (RetS (mC (btw p0 q0 j1) (k0 + k0 + k0 + k0 + k0 + k0 + k0 + k0 + k0 + k0 + k0 + k0 + 40)).S w) := by
 obtain ⟨c0, rfl, n0, u0, o0⟩ := (mP.cv (fun _ h => (isR.cv h)) (fun _ h => (isR.cv h)) pf0)
 refine calls_abs 16 Tryz.func59 rfl rfl (by simp) ?_
 intro a0 z0 d0 ha
 have s0_0 : sl a0 0 = .agg c0 := ha 0 (by simp)
 have s0_1 : sl a0 1 = .int .i64 j1 := ha 1 (by simp)
 have B0 : Below w.heap.size w w := Below.refl _ _
 refine wp_seq ?_
 refine wp_region_seq 0 (mG []) (by rw [z0]; kernel_rfl) (mG_mono _) (ops_ok trivial) ?_
 intro a1 w2 ms3
 have B4 := B0.trans (ms3.b.mono B0.size)
 have z5 := ms3.sz.trans z0
 have d6 := ms3.df.trans d0
 have s7 := (ms3.fr 0 (out_of (by kernel_rfl))).trans s0_0
 have s8 := (ms3.fr 1 (out_of (by kernel_rfl))).trans s0_1
 refine tl_new rfl rfl (run_box_op rfl (ev s7)) (by rw [z5]; decide) ?_
 intro a9 w10 g11 z12 d13 s14 fr15 hg16 hc17 hb18
 have z19 := z12.trans z5
 have d20 := d13.trans d6
 have s22 := (fr15 1 (by decide)).trans s8
 have B23 := B4.trans (hb18.mono B4.size)
 have lw25 : w.heap.size ≤ g11 := by have := B4.size; omega
 have x24 : bx 44 6 (mP (mR p0 k0) (mR q0 k0)) w10 g11 := ⟨c0, hc17, n0, u0, o0, (mP (mR p0 k0) (mR q0 k0)).mono _ _ _ (Ext.of B23) pf0⟩
 refine tl_new rfl rfl (run_alloc_op rfl zero_Rat) (by rw [z19]; decide) ?_
 intro a26 w27 g28 z29 d30 s31 fr32 hg33 hc34 hb35
 have z36 := z29.trans z19
 have d37 := d30.trans d20
 have s39 := (fr32 1 (by decide)).trans s22
 have s40 := (fr32 2 (by decide)).trans s14
 have B41 := B23.trans (hb35.mono B23.size)
 have ne43 : g11 ≠ g28 := by have := x24.lt; omega
 have x42 := bx.below hb35 x24
 have lw45 : w.heap.size ≤ g28 := by have := B23.size; omega
 have x44 := bx_Rat hc34
 refine wpList_nil (then_normal ?_)
 refine wp_seq ?_
 refine wp_region_seq 2 (mG [(mP (mR p0 k0) (mR q0 k0)).b, (mP (mC (mnQ p0 q0) (k0 + k0 + 1)) (mC (mxQ p0 q0) (k0 + k0 + 1))).b]) (by rw [z36]; kernel_rfl) (mG_mono _) (ops_ok ⟨?_, ?_, trivial⟩) ?_
 · refine opk_pure rfl rfl fun a w hb hf hd => ?_
   obtain ⟨cs, h1, h2, h3, h4, h5⟩ := bx.below hb x42
   exact ⟨_, run_load_row _ _ rfl (ev ((hf 2 (out_of (by kernel_rfl))).trans s40)) h1 Tryz.underlying44 rfl (by rw [h2]; exact info_Interval), fun _ _ => h5⟩
 · refine opk_call rfl rfl fun a w hb hf hd => ?_
   have e0 : a.eval (.tmp 5) = sl a 5 := rfl
   exact ⟨42, #[sl a 5], run_call rfl rfl (fun _ _ => by kernel_rfl) (args_1 e0), (r4_trim  (by omega) (mP_imp (m1' := (mR p0 k0)) (m2' := (mR q0 k0)) (fun _ h => h) (fun _ h => h) (hd.at 0 rfl rfl rfl rfl))).mono fun _ _ r => RetS.imp (fun _ _ h => fun _ _ => (mP_imp (fun _ h => (isC.mono h (by omega))) (fun _ h => (isC.mono h (by omega))) h)) r⟩
 intro a46 w47 ms48
 have B49 := B41.trans (ms48.b.mono B41.size)
 have z50 := ms48.sz.trans z36
 have d51 := ms48.df.trans d37
 have s52 := (ms48.fr 1 (out_of (by kernel_rfl))).trans s39
 have s53 := (ms48.fr 2 (out_of (by kernel_rfl))).trans s40
 have s54 := (ms48.fr 4 (out_of (by kernel_rfl))).trans s31
 have x55 := bx.below ms48.b x42
 have x56 := bx.below ms48.b x44
 have s57 : (mP (mC (mnQ p0 q0) (k0 + k0 + 1)) (mC (mxQ p0 q0) (k0 + k0 + 1))).S w47 (sl a46 6) := ms48.g 1 _ 6 rfl (by decide) trivial rfl
 refine tl_put rfl rfl rfl (m' := (mP (mC (mnQ p0 q0) (k0 + k0 + 1)) (mC (mxQ p0 q0) (k0 + k0 + 1)))) x55 (ev s53) s57 (mP.cv (fun _ h => (isC.cv h)) (fun _ h => (isC.cv h)) s57) info_Interval ?_
 intro w58 x59 ex60 ot61 bl62
 have B63 := bl62 w (by omega) B49
 have x64 := ot61 (by omega) x56
 have s65 := (mP (mC (mnQ p0 q0) (k0 + k0 + 1)) (mC (mxQ p0 q0) (k0 + k0 + 1))).mono _ _ _ ex60 s57
 refine wpList_nil (then_normal ?_)
 refine wp_seq ?_
 refine wp_region_mono 9 [] (mG [(mV (.pointer (some ⟨g11, 0, none⟩))).b, (mC (mnQ p0 q0) (k0 + k0 + 1)).b, (mP (mC (mnQ p0 q0) (k0 + k0 + 1)) (mC (mxQ p0 q0) (k0 + k0 + 1))).b, (mC ((mxQ (mnQ p0 q0) (mxQ p0 q0)) - (mnQ (mnQ p0 q0) (mxQ p0 q0))) (k0 + k0 + 1 + k0 + k0 + 1 + k0 + k0 + 1 + k0 + k0 + 1 + 5)).b, (mV (.int .i64 j1)).b, (mV (.int .i64 (j1 % 9))).b, (mC (Rat.divInt (j1 % 9) 8) 2).b, (mC (((mxQ (mnQ p0 q0) (mxQ p0 q0)) - (mnQ (mnQ p0 q0) (mxQ p0 q0))) * (Rat.divInt (j1 % 9) 8)) (k0 + k0 + 1 + k0 + k0 + 1 + k0 + k0 + 1 + k0 + k0 + 1 + 5 + 5)).b, (mC ((mnQ p0 q0) + (((mxQ (mnQ p0 q0) (mxQ p0 q0)) - (mnQ (mnQ p0 q0) (mxQ p0 q0))) * (Rat.divInt (j1 % 9) 8))) (k0 + k0 + 1 + k0 + k0 + 1 + k0 + k0 + 1 + k0 + k0 + 1 + k0 + k0 + 1 + 5 + 5 + 3)).b]) (by kernel_rfl) (by rw [z50]; kernel_rfl) (fun h => absurd rfl h) (mG_mono _) (ops_ok ⟨?_, ?_, ?_, ?_, ?_, ?_, ?_, ?_, ?_, trivial⟩) ?_
 · exact opk_pure rfl rfl fun a w hb hf hd => ⟨_, fa_Interval_0 rfl (ev ((hf 2 (out_of (by kernel_rfl))).trans s53)), fun _ _ => rfl⟩
 · refine opk_pure rfl rfl fun a w hb hf hd => ?_
   obtain ⟨x0, x1, x2, h1, h2⟩ := (bx.below hb x59).lo
   exact ⟨_, run_load_mid _ _ rfl (ev (hd.at 0 rfl rfl rfl rfl)) h1 Tryz.underlying26 rfl info_Rat, fun _ _ => h2⟩
 · refine opk_pure rfl rfl fun a w hb hf hd => ?_
   obtain ⟨cs, h1, h2, h3, h4, h5⟩ := bx.below hb x59
   exact ⟨_, run_load_row _ _ rfl (ev ((hf 2 (out_of (by kernel_rfl))).trans s53)) h1 Tryz.underlying44 rfl (by rw [h2]; exact info_Interval), fun _ _ => h5⟩
 · refine opk_call rfl rfl fun a w hb hf hd => ?_
   have e0 : a.eval (.tmp 9) = sl a 9 := rfl
   exact ⟨46, #[sl a 9], run_call rfl rfl (fun _ _ => by kernel_rfl) (args_1 e0), (r4_width  (by omega) (mP_imp (m1' := (mR (mnQ p0 q0) (k0 + k0 + 1))) (m2' := (mR (mxQ p0 q0) (k0 + k0 + 1))) (fun _ h => (isC.r h)) (fun _ h => (isC.r h)) (hd.at 0 rfl rfl rfl rfl))).mono fun _ _ r => RetS.imp (fun _ _ h => fun _ _ => (isC.mono h (by omega))) r⟩
 · exact opk_pure rfl rfl fun a w hb hf hd => ⟨_, run_move rfl, fun _ _ => ((hf 1 (out_of (by kernel_rfl))).trans s52)⟩
 · refine opk_call rfl rfl fun a w hb hf hd => ?_
   have e0 : a.eval (.tmp 11) = .int .i64 j1 := (hd.at 0 rfl rfl rfl rfl)
   exact ⟨17, #[.int .i64 j1, .int .i64 9], run_call rfl rfl (fun _ _ => by kernel_rfl) (args_2 e0 rfl), (k_mod j1 9 (by omega) (by omega) (by omega) (by omega)).mono fun _ _ r => RetS.imp (fun _ _ h => fun _ _ => h) r⟩
 · refine opk_call rfl rfl fun a w hb hf hd => ?_
   have e0 : a.eval (.tmp 12) = .int .i64 (j1 % 9) := (hd.at 0 rfl rfl rfl rfl)
   exact ⟨66, #[.int .i64 (j1 % 9), .int .i64 8], run_call rfl rfl (fun _ _ => by kernel_rfl) (args_2 e0 rfl), (r_frac (j1 % 9) 8 (by omega) (by omega) (by omega) (by omega)).mono fun _ _ r => RetS.imp (fun _ _ h => fun _ _ => (isC.mono h (by omega))) r⟩
 · refine opk_call rfl rfl fun a w hb hf hd => ?_
   have e0 : a.eval (.tmp 10) = sl a 10 := rfl
   have e1 : a.eval (.tmp 13) = sl a 13 := rfl
   exact ⟨63, #[sl a 10, sl a 13], run_call rfl rfl (fun _ _ => by kernel_rfl) (args_2 e0 e1), (r_mul (by omega) (by omega) (isC.r (hd.at 0 rfl rfl rfl rfl)) (isC.r (hd.at 1 rfl rfl rfl rfl))).mono fun _ _ r => RetS.imp (fun _ _ h => fun _ _ => (isC.mono h (by omega))) r⟩
 · refine opk_call rfl rfl fun a w hb hf hd => ?_
   have e0 : a.eval (.tmp 8) = sl a 8 := rfl
   have e1 : a.eval (.tmp 14) = sl a 14 := rfl
   exact ⟨61, #[sl a 8, sl a 14], run_call rfl rfl (fun _ _ => by kernel_rfl) (args_2 e0 e1), (r_add (by omega) (by omega) (isC.r (hd.at 0 rfl rfl rfl rfl)) (isC.r (hd.at 1 rfl rfl rfl rfl))).mono fun _ _ r => RetS.imp (fun _ _ h => fun _ _ => (isC.mono h (by omega))) r⟩
 intro a66 w67 ms68
 have B69 := B63.trans (ms68.b.mono B63.size)
 have d71 := ms68.df.trans d51
 have s73 := (ms68.fr 4 (out_of (by kernel_rfl))).trans s54
 have x74 := bx.below ms68.b x59
 have x75 := bx.below ms68.b x64
 have s76 : (mC ((mnQ p0 q0) + (((mxQ (mnQ p0 q0) (mxQ p0 q0)) - (mnQ (mnQ p0 q0) (mxQ p0 q0))) * (Rat.divInt (j1 % 9) 8))) (k0 + k0 + 1 + k0 + k0 + 1 + k0 + k0 + 1 + k0 + k0 + 1 + k0 + k0 + 1 + 5 + 5 + 3)).S w67 (sl a66 15) := ms68.g 8 _ 15 rfl (by decide) trivial rfl
 refine tl_put rfl rfl rfl (m' := (mC ((mnQ p0 q0) + (((mxQ (mnQ p0 q0) (mxQ p0 q0)) - (mnQ (mnQ p0 q0) (mxQ p0 q0))) * (Rat.divInt (j1 % 9) 8))) (k0 + k0 + 1 + k0 + k0 + 1 + k0 + k0 + 1 + k0 + k0 + 1 + k0 + k0 + 1 + 5 + 5 + 3))) x75 (ev s73) s76 (isC.cv s76) info_Rat ?_
 intro w77 x78 ex79 ot80 bl81
 have B82 := bl81 w (by omega) B69
 have x83 := ot80 (by omega) x74
 have s84 := (mC ((mnQ p0 q0) + (((mxQ (mnQ p0 q0) (mxQ p0 q0)) - (mnQ (mnQ p0 q0) (mxQ p0 q0))) * (Rat.divInt (j1 % 9) 8))) (k0 + k0 + 1 + k0 + k0 + 1 + k0 + k0 + 1 + k0 + k0 + 1 + k0 + k0 + 1 + 5 + 5 + 3)).mono _ _ _ ex79 s76
 refine wpList_nil (then_normal ?_)
 refine wp_ret ?_
 exact end_cell rfl d71 s73 x78 Tryz.underlying26 rfl info_Rat B82 (fun v h => (isC.mono (isC.of h btw_of) (by omega)))
end Go.Proofs.YtbjijmjhlpkomaaGreatDoor
