/-  -/
import Derived.Test.YtiljjhhkklnlgaaGreatDoorQed
import Derived.Test.YtiljjhhkklnlgaaGreatDoorQee

set_option linter.unusedVariables false
set_option linter.unusedSimpArgs false
set_option linter.unusedSectionVars false
set_option maxRecDepth 100000
set_option maxHeartbeats 3200000

namespace Go.Proofs.YtiljjhhkklnlgaaGreatDoor
open Go.RowKit Num

set_option maxRecDepth 100000
set_option maxHeartbeats 2000000
theorem r4_sameD {p q r s : Rat} {k m : Nat} {v0 : Value} {v1 : Value} {w : World} {O : Bs}  (pf0 : (mP (mC (p) (k)) (mC (q) (k))).S O w v0) (pf1 : (mP (mC (r) (m)) (mC (s) (m))).S O w v1) (ho : OB O w) :
    Calls Tryz.prog 27 #[v0, v1] w (RetM (mV (.bool ((true && decide (p = r)) && (true && decide (q = s))))) O w) := by
 refine st_start 17 Tryz.func27 [(mP (mC (p) (k)) (mC (q) (k))), (mP (mC (r) (m)) (mC (s) (m)))] ⟨pf0, pf1, trivial⟩ ho fun a S => ?_
 refine wp_seq ?_
 refine st_seq S 0 [] [(false, 0), (false, 1)] trivial (L' := [(0, ?_), (1, ?_)]) ?_ fun a1 w2 S3 => ?_
 rotate_left 2
 · rfl
 refine t_box S3 0 rfl (fun h => (mP.cv (fun _ h => (isC.cv h)) (fun _ h => (isC.cv h)) h)) fun O a5 w6 g7 S8 => ?_
 refine t_box S8 2 rfl (fun h => (mP.cv (fun _ h => (isC.cv h)) (fun _ h => (isC.cv h)) h)) fun O a9 w10 g11 S12 => ?_
 refine t_asgC S12 fun a13 S14 => ?_
 refine wpList_nil (then_normal ?_)
 refine wp_seq ?_
 refine st_seq S14 12 [?_, ?_, ?_, ?_, ?_, ?_, ?_, ?_, ?_, ?_, ?_, ?_] [(true, 11), (false, 0)] ⟨?_, ?_, ?_, ?_, ?_, ?_, ?_, ?_, ?_, ?_, ?_, ?_, trivial⟩ (L' := [(16, ?_), (4, ?_)]) ?_ fun a15 w16 S17 => ?_
 rotate_left 14
 · exact opV S14 fun c => fa_Interval_0 rfl (c.q 2 rfl)
 · exact opP S14 fun c => ld_part rfl (c.e 0 rfl) (c.bx 1 rfl).lo Tryz.underlying26 info_Rat
 · exact opV S14 fun c => fa_Interval_0 rfl (c.q 1 rfl)
 · exact opP S14 fun c => ld_part rfl (c.e 0 rfl) (c.bx 0 rfl).lo Tryz.underlying26 info_Rat
 · exact opC S14 rfl fun c B => ⟨_, args_2 rfl rfl, (r_same (isC.k (c.h 0 rfl)) (c.h 1 rfl))⟩
 · exact opV S14 fun c => run_v (run_move rfl) (c.e 0 rfl)
 · exact opG S14 0 (fun hγ => opV S14 fun c => fa_Interval_1 rfl (c.q 2 rfl)) gT
 · exact opG S14 1 (fun hγ => opP S14 fun c => ld_part rfl (ev (c.h 0 rfl hγ)) (c.bx 1 rfl).hi Tryz.underlying26 info_Rat) gT
 · exact opG S14 0 (fun hγ => opV S14 fun c => fa_Interval_1 rfl (c.q 1 rfl)) gT
 · exact opG S14 1 (fun hγ => opP S14 fun c => ld_part rfl (ev (c.h 0 rfl hγ)) (c.bx 0 rfl).hi Tryz.underlying26 info_Rat) gT
 · exact opG S14 2 (fun hγ => opC S14 rfl fun c B => ⟨_, args_2 rfl rfl, (r_same (isC.k (c.h 0 rfl hγ)) (c.h 1 rfl hγ))⟩) gT
 · exact opE S14 fun c => ⟨_, run_pick rfl (c.e 0 rfl), pick_and (c.h 1 rfl)⟩
 · rfl
 refine t_asg S17 0 fun a19 S20 => ?_
 refine wpList_nil (then_normal ?_)
 refine wp_ret ?_
 exact st_endT S20 0 rfl fun v h => h

theorem awake4_any   {w : World} {O : Bs}   (hT : Tb w) (ho : OB O w) :
    Calls Tryz.prog 22 #[] w (RetM (mV (.bool (true))) O w) := by
 refine st_start 40 Tryz.func22 [] trivial ho fun a S => ?_
 refine wp_seq ?_
 refine st_seq S 0 [] [] trivial (L' := []) ?_ fun a1 w2 S3 => ?_
 · rfl
 refine t_asgC S3 fun a5 S6 => ?_
 refine wpList_nil (then_normal ?_)
 refine wp_seq ?_
 refine st_seq S6 7 [?_, ?_, ?_, ?_, ?_, ?_, ?_] [(true, 6), (false, 0)] ⟨?_, ?_, ?_, ?_, ?_, ?_, ?_, trivial⟩ (L' := [(11, ?_), (0, ?_)]) ?_ fun a7 w8 S9 => ?_
 rotate_left 9
 · exact opC S6 rfl fun c B => ⟨_, args_1 rfl, (r_of (-1) (by omega) (by omega))⟩
 · exact opC S6 rfl fun c B => ⟨_, args_1 rfl, (r_of (2) (by omega) (by omega))⟩
 · exact opC S6 rfl fun c B => ⟨_, args_2 rfl rfl, (r4_make  (by omega) (by omega) (isC.r (c.h 0 rfl)) (isC.r (c.h 1 rfl)) c.ob)⟩
 · exact opC S6 rfl fun c B => ⟨_, args_1 rfl, (r_of (3) (by omega) (by omega))⟩
 · exact opC S6 rfl fun c B => ⟨_, args_1 rfl, (r_of (4) (by omega) (by omega))⟩
 · exact opC S6 rfl fun c B => ⟨_, args_2 rfl rfl, (r4_make  (by omega) (by omega) (isC.r (c.h 0 rfl)) (isC.r (c.h 1 rfl)) c.ob)⟩
 · exact opC S6 rfl fun c B => ⟨_, args_2 rfl rfl, (iv_mul  (by omega) (by omega) (prC (c.h 0 rfl)) (prC (c.h 1 rfl)) (hT.below B) c.ob)⟩
 · rfl
 refine t_alloc S9 zero_Interval (fun _ _ _ => bx_Interval) fun O a11 w12 g13 S14 => ?_
 refine t_sto S14 0 1 0 rfl (fun h => (mP.cv (fun _ h => (isC.cv h)) (fun _ h => (isC.cv h)) h)) (fun w15 S16 => ?_) info_Interval
 refine wpList_nil (then_normal ?_)
 refine wp_seq ?_
 refine st_seq S16 4 [?_, ?_, ?_, ?_] [(true, 3), (false, 0), (false, 2)] ⟨?_, ?_, ?_, ?_, trivial⟩ (L' := [(15, ?_), (1, ?_), (0, ?_)]) ?_ fun a17 w18 S19 => ?_
 rotate_left 7
 · exact opC S16 rfl fun c B => ⟨_, args_1 rfl, (r_of (-1) (by omega) (by omega))⟩
 · exact opC S16 rfl fun c B => ⟨_, args_1 rfl, (r_of (2) (by omega) (by omega))⟩
 · exact opC S16 rfl fun c B => ⟨_, args_2 rfl rfl, (r4_make  (by omega) (by omega) (isC.r (c.h 0 rfl)) (isC.r (c.h 1 rfl)) c.ob)⟩
 · exact opC S16 rfl fun c B => ⟨_, args_1 rfl, (iv_square  (by omega) (prC (c.h 0 rfl)) (hT.below B) c.ob)⟩
 · rfl
 refine t_alloc S19 zero_Interval (fun _ _ _ => bx_Interval) fun O a21 w22 g23 S24 => ?_
 refine t_sto S24 0 1 0 rfl (fun h => (mP.cv (fun _ h => (isC.cv h)) (fun _ h => (isC.cv h)) h)) (fun w25 S26 => ?_) info_Interval
 refine wpList_nil (then_normal ?_)
 refine wp_seq ?_
 refine st_monoAF S26 9 [7] [?_, ?_, ?_, ?_, ?_, ?_, ?_, ?_, ?_] [(true, 6), (true, 7), (false, 0), (false, 2), (false, 3)] ⟨?_, ?_, ?_, ?_, ?_, ?_, ?_, ?_, ?_, trivial⟩ ?_ (L' := [(22, ?_), (23, ?_), (2, ?_), (1, ?_), (0, ?_)]) ?_ fun O a27 w28 hw hO hX S29 A30 => ?_
 rotate_left 14
 · exact opL S26 1 Tryz.underlying37 info_Interval fun c => (c.q 2 rfl)
 · exact opC S26 rfl fun c B => ⟨_, args_1 rfl, (r_of (-1) (by omega) (by omega))⟩
 · exact opC S26 rfl fun c B => ⟨_, args_1 rfl, (r_of (1) (by omega) (by omega))⟩
 · exact opC S26 rfl fun c B => ⟨_, args_2 rfl rfl, (r4_make  (by omega) (by omega) (isC.r (c.h 0 rfl)) (isC.r (c.h 1 rfl)) c.ob)⟩
 · exact opC S26 rfl fun c B => ⟨_, args_2 rfl rfl, (iv_div  (by omega) (by omega) (prC (c.h 0 rfl)) (prC (c.h 1 rfl)) (hT.below B) c.ob)⟩
 · exact opP S26 fun c => ⟨_, run_move rfl, (c.h 0 rfl)⟩
 · exact opP S26 fun c => ext_0 rfl (c.h 0 rfl)
 · exact opP S26 fun c => ext_1 rfl (c.h 0 rfl)
 · exact opA S26 zero_Interval fun _ _ _ => bx_Interval
 ·refine ⟨by kernel_rfl, fun c a d v w h => by cases d <;> exact h, ?_⟩
  intro i o hi ho a w hb _ hf hd
  obtain rfl : i = 7 := by simpa using hi
  obtain rfl := Option.some.inj (show some _ = some o from ho)
  exact flP S26 hb hf hd fun c => xt_1 rfl (c.h 0 rfl)
 · exact ⟨by rfl, by rfl⟩
 obtain ⟨g31, e33, e33a, e33b, e33x⟩ := A30.g 8 rfl rfl
 have S32 := (S29.add (q := .box g31 37 6 mTop) (fun _ h => by cases h; exact ⟨hO _ ⟨e33a, e33b⟩, Nat.le_trans hw e33a⟩) e33x (fun p hp x h => by cases h; exact hX p hp _ e33a)).new e33
 refine t_sto S32 0 1 0 rfl (fun h => (mP.cv (fun _ h => (isE.cv h)) (fun _ h => (isE.cv h)) h)) (fun w34 S35 => ?_) info_Interval
 refine t_asg S35 2 fun a36 S37 => ?_
 refine wpList_nil (then_normal ?_)
 refine wp_seq ?_
 refine st_mono S37 16 [?_, ?_, ?_, ?_, ?_, ?_, ?_, ?_, ?_, ?_, ?_, ?_, ?_, ?_, ?_, ?_] [(true, 15), (false, 6)] ⟨?_, ?_, ?_, ?_, ?_, ?_, ?_, ?_, ?_, ?_, ?_, ?_, ?_, ?_, ?_, ?_, trivial⟩ (L' := [(39, ?_), (0, ?_)]) ?_ fun a38 w39 S40 => ?_
 rotate_left 18
 · exact opV S37 fun c => run_v (run_move rfl) (c.q 0 rfl)
 · exact opV S37 fun c => run_b (y := true) (run_eql rfl (c.e 0 rfl) rfl) (by decide +kernel)
 · exact opV S37 fun c => run_v (run_move rfl) (c.e 0 rfl)
 · exact opT S37 0 (opL S37 2 Tryz.underlying37 info_Interval fun c => (c.q 5 rfl))
 · exact opT S37 0 (opC S37 rfl fun c B => ⟨_, args_1 rfl, (r_of (-4) (by omega) (by omega))⟩)
 · exact opT S37 1 (opC S37 rfl fun c B => ⟨_, args_1 rfl, (r_of (8) (by omega) (by omega))⟩)
 · exact opT S37 3 (opC S37 rfl fun c B => ⟨_, args_2 rfl rfl, (r4_make  (by omega) (by omega) (isC.r (c.h 0 rfl)) (isC.r (c.h 1 rfl)) c.ob)⟩)
 · exact opT S37 3 (opC S37 rfl fun c B => ⟨_, args_2 rfl rfl, ret_b (y := true) (r4_sameD (c.h 0 rfl) (c.h 1 rfl) c.ob) (by decide +kernel)⟩)
 · exact opE S37 fun c => ⟨_, run_pick rfl (c.e 0 rfl), pick_and (fun _ => (c.e 1 rfl))⟩
 · exact opV S37 fun c => run_v (run_move rfl) (c.e 0 rfl)
 · exact opT S37 0 (opL S37 1 Tryz.underlying37 info_Interval fun c => (c.q 4 rfl))
 · exact opT S37 0 (opC S37 rfl fun c B => ⟨_, args_1 rfl, (r_of (0) (by omega) (by omega))⟩)
 · exact opT S37 1 (opC S37 rfl fun c B => ⟨_, args_1 rfl, (r_of (4) (by omega) (by omega))⟩)
 · exact opT S37 3 (opC S37 rfl fun c B => ⟨_, args_2 rfl rfl, (r4_make  (by omega) (by omega) (isC.r (c.h 0 rfl)) (isC.r (c.h 1 rfl)) c.ob)⟩)
 · exact opT S37 3 (opC S37 rfl fun c B => ⟨_, args_2 rfl rfl, ret_b (y := true) (r4_sameD (c.h 0 rfl) (c.h 1 rfl) c.ob) (by decide +kernel)⟩)
 · exact opE S37 fun c => ⟨_, run_pick rfl (c.e 0 rfl), pick_and (fun _ => (c.e 1 rfl))⟩
 · rfl
 refine t_asg S40 0 fun a42 S43 => ?_
 refine wpList_nil (then_normal ?_)
 refine wp_ret ?_
 exact st_endT S43 0 rfl fun v h => h
end Go.Proofs.YtiljjhhkklnlgaaGreatDoor

namespace Go.Proofs.YtiljjhhkklnlgaaGreatDoor
open Go.RowKit Num

theorem rabs_pos {q : Rat} (h : 0 ≤ q) : rabs q = q := by
 unfold rabs
 rw [show (q.num.natAbs : Int) = q.num from Int.natAbs_of_nonneg (Rat.num_nonneg.2 h)]
 exact Rat.mkRat_self q
theorem rabs_neg' {q : Rat} (h : q < 0) : rabs q = -q := by
 have h1 : q.num < 0 := by
  apply Int.not_le.1; intro h2; exact absurd (Rat.num_nonneg.1 h2) (Rat.not_le.2 h)
 unfold rabs
 rw [show (q.num.natAbs : Int) = (-q).num by rw [Rat.neg_num]; omega, show q.den = (-q).den from (Rat.neg_den q).symm]
 exact Rat.mkRat_self (-q)
theorem wid_eq {p q : Rat} : rabs (q - p) = mxQ p q - mnQ p q := by
 unfold mxQ mnQ
 by_cases h : q < p
 ·rw [if_pos h, if_neg (by grind), rabs_neg' (by grind)]; grind
 ·rw [if_neg h, rabs_pos (by grind)]
  split
  ·rfl
  ·grind
theorem sub_lo {a r s : Rat} : a + mnQ (mnQ (-r) (-s)) (mxQ (-r) (-s)) = a - mxQ r s := by
 unfold mxQ mnQ
 split <;> split <;> split <;> grind
theorem sub_hi {a r s : Rat} : a + mxQ (mnQ (-r) (-s)) (mxQ (-r) (-s)) = a - mnQ r s := by
 unfold mxQ mnQ
 split <;> split <;> split <;> grind
def con (p q y : Rat) : Bool := (!(decide (y < mnQ p q))) && (!(decide (mxQ p q < y)))
theorem iv_widthM {p0 q0 : Rat} {k0 : Nat} {v0 : Value} {w : World} {O : Bs} (hk0 : k0 ≤ 9999) (pf0 : (mP (mR (p0) (k0)) (mR (q0) (k0))).S O w v0) (hT : Tb w) (ho : OB O w) :
  Calls Tryz.prog 43 #[v0] w (RetM (mC ((mxQ (p0) (q0)) - (mnQ (p0) (q0))) (k0 + k0 + 4)) O w) := by
 have h := iv_width hk0 pf0 hT ho
 rw [wid_eq] at h
 exact h
theorem iv_containsN {p0 q0 : Rat} {k0 : Nat} {p1 : Rat} {k1 : Nat} {v0 : Value} {v1 : Value} {w : World} {O : Bs} (hk0 : k0 ≤ 9999) (hk1 : k1 ≤ 9999) (pf0 : (mP (mR (p0) (k0)) (mR (q0) (k0))).S O w v0) (pf1 : (mR (p1) (k1)).S O w v1) (hT : Tb w) (ho : OB O w) :
  Calls Tryz.prog 30 #[v0, v1] w (RetM (mV (.bool ((!(decide ((p1) < (mnQ (p0) (q0))))) && (!(decide ((mxQ (p0) (q0)) < (p1))))))) O w) := by
 have h := iv_contains hk0 hk1 pf0 pf1 hT ho
 rw [dle, dle] at h
 exact h
theorem iv_insideN {p0 q0 : Rat} {k0 : Nat} {p1 q1 : Rat} {k1 : Nat} {v0 : Value} {v1 : Value} {w : World} {O : Bs} (hk0 : k0 ≤ 9999) (hk1 : k1 ≤ 9999) (pf0 : (mP (mR (p0) (k0)) (mR (q0) (k0))).S O w v0) (pf1 : (mP (mR (p1) (k1)) (mR (q1) (k1))).S O w v1) (hT : Tb w) (ho : OB O w) :
  Calls Tryz.prog 32 #[v0, v1] w (RetM (mV (.bool ((!(decide ((mnQ (p0) (q0)) < (mnQ (p1) (q1))))) && (!(decide ((mxQ (p1) (q1)) < (mxQ (p0) (q0)))))))) O w) := by
 have h := iv_inside hk0 hk1 pf0 pf1 hT ho
 rw [dle, dle] at h
 exact h
end Go.Proofs.YtiljjhhkklnlgaaGreatDoor

namespace Go.Proofs.YtiljjhhkklnlgaaGreatDoor
open Go.RowKit Num

set_option maxRecDepth 100000
set_option maxHeartbeats 2000000
theorem r4_sub {p0 q0 : Rat} {k0 : Nat} {p1 q1 : Rat} {k1 : Nat} {v0 : Value} {v1 : Value} {w : World} {O : Bs} (hk0 : k0 ≤ 999) (hk1 : k1 ≤ 999) (pf0 : (mP (mR (p0) (k0)) (mR (q0) (k0))).S O w v0) (pf1 : (mP (mR (p1) (k1)) (mR (q1) (k1))).S O w v1) (ho : OB O w) :
    Calls Tryz.prog 50 #[v0, v1] w (RetM (mP (mC ((mnQ (p0) (q0)) - (mxQ (p1) (q1))) (k0 + k0 + k1 + k1 + k1 + k1 + k1 + k1 + k1 + k1 + 25)) (mC ((mxQ (p0) (q0)) - (mnQ (p1) (q1))) (k0 + k0 + k1 + k1 + k1 + k1 + k1 + k1 + k1 + k1 + 25))) O w) := by
 refine st_start 9 Tryz.func50 [(mP (mR (p0) (k0)) (mR (q0) (k0))), (mP (mR (p1) (k1)) (mR (q1) (k1)))] ⟨pf0, pf1, trivial⟩ ho fun a S => ?_
 refine wp_seq ?_
 refine st_seq S 0 [] [(false, 0), (false, 1)] trivial (L' := [(0, ?_), (1, ?_)]) ?_ fun a1 w2 S3 => ?_
 rotate_left 2
 · rfl
 refine t_box S3 0 rfl (fun h => (mP.cv (fun _ h => (isR.cv h)) (fun _ h => (isR.cv h)) h)) fun O a5 w6 g7 S8 => ?_
 refine t_box S8 2 rfl (fun h => (mP.cv (fun _ h => (isR.cv h)) (fun _ h => (isR.cv h)) h)) fun O a9 w10 g11 S12 => ?_
 refine t_alloc S12 zero_Interval (fun _ _ _ => bx_Interval) fun O a13 w14 g15 S16 => ?_
 refine wpList_nil (then_normal ?_)
 refine wp_seq ?_
 refine st_mono S16 4 [?_, ?_, ?_, ?_] [(true, 3), (false, 0)] ⟨?_, ?_, ?_, ?_, trivial⟩ (L' := [(8, ?_), (4, ?_)]) ?_ fun a17 w18 S19 => ?_
 rotate_left 6
 · exact opL S16 2 Tryz.underlying37 info_Interval fun c => (c.q 2 rfl)
 · exact opL S16 1 Tryz.underlying37 info_Interval fun c => (c.q 1 rfl)
 · exact opC S16 rfl fun c B => ⟨_, args_1 rfl, (r4_neg  (by omega) (c.h 0 rfl) c.ob)⟩
 · exact opC S16 rfl fun c B => ⟨_, args_2 rfl rfl, (r4_add  (by omega) (by omega) (c.h 0 rfl) (prC (c.h 1 rfl)) c.ob)⟩
 · rfl
 refine t_sto S19 1 0 0 rfl (fun h => (mP.cv (fun _ h => (isC.cv h)) (fun _ h => (isC.cv h)) h)) (fun w21 S22 => ?_) info_Interval
 refine wpList_nil (then_normal ?_)
 refine wp_ret ?_
 exact st_end S22 1 0 rfl Tryz.underlying37 info_Interval fun v h => (by rw [sub_lo, sub_hi] at h; exact mP_imp (fun _ h => isC.mono h (by omega)) (fun _ h => isC.mono h (by omega)) h)
end Go.Proofs.YtiljjhhkklnlgaaGreatDoor
