/-  -/
import Derived.Test.YtiljjhhkklnlgaaGreatDoorQec

set_option linter.unusedVariables false
set_option linter.unusedSimpArgs false
set_option linter.unusedSectionVars false
set_option maxRecDepth 100000
set_option maxHeartbeats 3200000

namespace Go.Proofs.YtiljjhhkklnlgaaGreatDoor
open Go.RowKit Num

set_option maxRecDepth 100000
set_option maxHeartbeats 2000000
theorem r3_min {p0 : Rat} {k0 : Nat} {p1 : Rat} {k1 : Nat} {v0 : Value} {v1 : Value} {w : World} {O : Bs} (hk0 : k0 ≤ 199999) (hk1 : k1 ≤ 199999) (pf0 : (mR (p0) (k0)).S O w v0) (pf1 : (mR (p1) (k1)).S O w v1) (ho : OB O w) :
    Calls Tryz.prog 134 #[v0, v1] w (RetM (mC (mnQ (p0) (p1)) (k0 + k1 + 1)) O w) := by
 refine st_start 12 Tryz.func134 [(mR (p0) (k0)), (mR (p1) (k1))] ⟨pf0, pf1, trivial⟩ ho fun a S => ?_
 refine wp_seq ?_
 refine st_seq S 0 [] [(false, 0), (false, 1)] trivial (L' := [(0, ?_), (1, ?_)]) ?_ fun a1 w2 S3 => ?_
 rotate_left 2
 · rfl
 refine t_box S3 0 rfl isR.cv fun O a5 w6 g7 S8 => ?_
 refine t_box S8 2 rfl isR.cv fun O a9 w10 g11 S12 => ?_
 refine t_alloc S12 zero_Rat (fun _ _ _ => bx_Rat) fun O a13 w14 g15 S16 => ?_
 refine wpList_nil (then_normal ?_)
 refine wp_seq ?_
 refine wp_seq ?_
 refine st_seq S16 3 [?_, ?_, ?_] [(true, 2), (false, 0), (false, 1), (false, 2)] ⟨?_, ?_, ?_, trivial⟩ (L' := [(7, ?_), (4, ?_), (3, ?_), (2, ?_)]) ?_ fun a17 w18 S19 => ?_
 rotate_left 7
 · exact opL S16 1 Tryz.underlying26 info_Rat fun c => (c.q 1 rfl)
 · exact opL S16 2 Tryz.underlying26 info_Rat fun c => (c.q 2 rfl)
 · exact opC S16 rfl fun c B => ⟨_, args_2 rfl rfl, (r_less (by omega) (by omega) (c.h 0 rfl) (c.h 1 rfl))⟩
 · rfl
 refine wpList_nil (then_normal ?_)
 refine cond_b _ (ev (S19.sl 0 rfl)) (fun hb21 => ?_) (fun hb21 => ?_)
 ·have hb21p := of_decide_eq_true hb21
  refine wp_seq ?_
  refine st_seq S19 2 [?_, ?_] [(true, 1), (false, 1), (false, 3)] ⟨?_, ?_, trivial⟩ (L' := [(9, ?_), (4, ?_), (2, ?_)]) ?_ fun a22 w23 S24 => ?_
  rotate_left 5
  · exact opL S19 1 Tryz.underlying26 info_Rat fun c => (c.q 2 rfl)
  · exact opC S19 rfl fun c B => ⟨_, args_1 rfl, (r_trim (by omega) (c.h 0 rfl))⟩
  · rfl
  refine t_sto S24 1 0 0 rfl isC.cv (fun w26 S27 => ?_) info_Rat
  refine wpList_nil (then_normal ?_)
  refine wp_ret ?_
  exact st_end S27 1 0 rfl Tryz.underlying26 info_Rat fun v h => (by first | (rw [min_t (by assumption)]; exact isC.mono h (by omega)) | (rw [min_f (by assumption)]; exact isC.mono h (by omega)))
 ·have hb21p := of_decide_eq_false hb21
  refine wp_skip (then_normal ?_)
  refine wp_seq ?_
  refine st_seq S19 2 [?_, ?_] [(true, 1), (false, 1)] ⟨?_, ?_, trivial⟩ (L' := [(11, ?_), (4, ?_)]) ?_ fun a28 w29 S30 => ?_
  rotate_left 4
  · exact opL S19 2 Tryz.underlying26 info_Rat fun c => (c.q 3 rfl)
  · exact opC S19 rfl fun c B => ⟨_, args_1 rfl, (r_trim (by omega) (c.h 0 rfl))⟩
  · rfl
  refine t_sto S30 1 0 0 rfl isC.cv (fun w32 S33 => ?_) info_Rat
  refine wpList_nil (then_normal ?_)
  refine wp_ret ?_
  exact st_end S33 1 0 rfl Tryz.underlying26 info_Rat fun v h => (by first | (rw [min_t (by assumption)]; exact isC.mono h (by omega)) | (rw [min_f (by assumption)]; exact isC.mono h (by omega)))

theorem r3_max {p0 : Rat} {k0 : Nat} {p1 : Rat} {k1 : Nat} {v0 : Value} {v1 : Value} {w : World} {O : Bs} (hk0 : k0 ≤ 199999) (hk1 : k1 ≤ 199999) (pf0 : (mR (p0) (k0)).S O w v0) (pf1 : (mR (p1) (k1)).S O w v1) (ho : OB O w) :
    Calls Tryz.prog 133 #[v0, v1] w (RetM (mC (mxQ (p0) (p1)) (k0 + k1 + 1)) O w) := by
 refine st_start 12 Tryz.func133 [(mR (p0) (k0)), (mR (p1) (k1))] ⟨pf0, pf1, trivial⟩ ho fun a S => ?_
 refine wp_seq ?_
 refine st_seq S 0 [] [(false, 0), (false, 1)] trivial (L' := [(0, ?_), (1, ?_)]) ?_ fun a1 w2 S3 => ?_
 rotate_left 2
 · rfl
 refine t_box S3 0 rfl isR.cv fun O a5 w6 g7 S8 => ?_
 refine t_box S8 2 rfl isR.cv fun O a9 w10 g11 S12 => ?_
 refine t_alloc S12 zero_Rat (fun _ _ _ => bx_Rat) fun O a13 w14 g15 S16 => ?_
 refine wpList_nil (then_normal ?_)
 refine wp_seq ?_
 refine wp_seq ?_
 refine st_seq S16 3 [?_, ?_, ?_] [(true, 2), (false, 0), (false, 1), (false, 2)] ⟨?_, ?_, ?_, trivial⟩ (L' := [(7, ?_), (4, ?_), (3, ?_), (2, ?_)]) ?_ fun a17 w18 S19 => ?_
 rotate_left 7
 · exact opL S16 2 Tryz.underlying26 info_Rat fun c => (c.q 2 rfl)
 · exact opL S16 1 Tryz.underlying26 info_Rat fun c => (c.q 1 rfl)
 · exact opC S16 rfl fun c B => ⟨_, args_2 rfl rfl, (r_less (by omega) (by omega) (c.h 0 rfl) (c.h 1 rfl))⟩
 · rfl
 refine wpList_nil (then_normal ?_)
 refine cond_b _ (ev (S19.sl 0 rfl)) (fun hb21 => ?_) (fun hb21 => ?_)
 ·have hb21p := of_decide_eq_true hb21
  refine wp_seq ?_
  refine st_seq S19 2 [?_, ?_] [(true, 1), (false, 1), (false, 3)] ⟨?_, ?_, trivial⟩ (L' := [(9, ?_), (4, ?_), (2, ?_)]) ?_ fun a22 w23 S24 => ?_
  rotate_left 5
  · exact opL S19 1 Tryz.underlying26 info_Rat fun c => (c.q 2 rfl)
  · exact opC S19 rfl fun c B => ⟨_, args_1 rfl, (r_trim (by omega) (c.h 0 rfl))⟩
  · rfl
  refine t_sto S24 1 0 0 rfl isC.cv (fun w26 S27 => ?_) info_Rat
  refine wpList_nil (then_normal ?_)
  refine wp_ret ?_
  exact st_end S27 1 0 rfl Tryz.underlying26 info_Rat fun v h => (by first | (rw [max_t (by assumption)]; exact isC.mono h (by omega)) | (rw [max_f (by assumption)]; exact isC.mono h (by omega)))
 ·have hb21p := of_decide_eq_false hb21
  refine wp_skip (then_normal ?_)
  refine wp_seq ?_
  refine st_seq S19 2 [?_, ?_] [(true, 1), (false, 1)] ⟨?_, ?_, trivial⟩ (L' := [(11, ?_), (4, ?_)]) ?_ fun a28 w29 S30 => ?_
  rotate_left 4
  · exact opL S19 2 Tryz.underlying26 info_Rat fun c => (c.q 3 rfl)
  · exact opC S19 rfl fun c B => ⟨_, args_1 rfl, (r_trim (by omega) (c.h 0 rfl))⟩
  · rfl
  refine t_sto S30 1 0 0 rfl isC.cv (fun w32 S33 => ?_) info_Rat
  refine wpList_nil (then_normal ?_)
  refine wp_ret ?_
  exact st_end S33 1 0 rfl Tryz.underlying26 info_Rat fun v h => (by first | (rw [max_t (by assumption)]; exact isC.mono h (by omega)) | (rw [max_f (by assumption)]; exact isC.mono h (by omega)))

theorem r4_trim {p0 q0 : Rat} {k0 : Nat} {v0 : Value} {w : World} {O : Bs} (hk0 : k0 ≤ 99999) (pf0 : (mP (mR (p0) (k0)) (mR (q0) (k0))).S O w v0) (ho : OB O w) :
    Calls Tryz.prog 40 #[v0] w (RetM (mP (mC (mnQ (p0) (q0)) (k0 + k0 + 1)) (mC (mxQ (p0) (q0)) (k0 + k0 + 1))) O w) := by
 refine st_start 14 Tryz.func40 [(mP (mR (p0) (k0)) (mR (q0) (k0)))] ⟨pf0, trivial⟩ ho fun a S => ?_
 refine wp_seq ?_
 refine st_seq S 0 [] [(false, 0)] trivial (L' := [(0, ?_)]) ?_ fun a1 w2 S3 => ?_
 rotate_left 1
 · rfl
 refine t_box S3 0 rfl (fun h => (mP.cv (fun _ h => (isR.cv h)) (fun _ h => (isR.cv h)) h)) fun O a5 w6 g7 S8 => ?_
 refine t_alloc S8 zero_Interval (fun _ _ _ => bx_Interval) fun O a9 w10 g11 S12 => ?_
 refine wpList_nil (then_normal ?_)
 refine wp_seq ?_
 refine st_mono S12 11 [?_, ?_, ?_, ?_, ?_, ?_, ?_, ?_, ?_, ?_, ?_] [(true, 10), (false, 0)] ⟨?_, ?_, ?_, ?_, ?_, ?_, ?_, ?_, ?_, ?_, ?_, trivial⟩ (L' := [(13, ?_), (2, ?_)]) ?_ fun a13 w14 S15 => ?_
 rotate_left 13
 · exact opV S12 fun c => fa_Interval_0 rfl (c.q 1 rfl)
 · exact opP S12 fun c => ld_part rfl (c.e 0 rfl) (c.bx 1 rfl).lo Tryz.underlying26 info_Rat
 · exact opV S12 fun c => fa_Interval_1 rfl (c.q 1 rfl)
 · exact opP S12 fun c => ld_part rfl (c.e 0 rfl) (c.bx 1 rfl).hi Tryz.underlying26 info_Rat
 · exact opC S12 rfl fun c B => ⟨_, args_2 rfl rfl, (r3_min  (by omega) (by omega) (c.h 0 rfl) (c.h 1 rfl) c.ob)⟩
 · exact opV S12 fun c => fa_Interval_0 rfl (c.q 1 rfl)
 · exact opP S12 fun c => ld_part rfl (c.e 0 rfl) (c.bx 1 rfl).lo Tryz.underlying26 info_Rat
 · exact opV S12 fun c => fa_Interval_1 rfl (c.q 1 rfl)
 · exact opP S12 fun c => ld_part rfl (c.e 0 rfl) (c.bx 1 rfl).hi Tryz.underlying26 info_Rat
 · exact opC S12 rfl fun c B => ⟨_, args_2 rfl rfl, (r3_max  (by omega) (by omega) (c.h 0 rfl) (c.h 1 rfl) c.ob)⟩
 · exact opP S12 fun c => bld_pair rfl (c.h 0 rfl) (c.h 1 rfl) (isC.cv (c.h 0 rfl)) (isC.cv (c.h 1 rfl))
 · rfl
 refine t_sto S15 1 0 0 rfl (fun h => (mP.cv (fun _ h => (isC.cv h)) (fun _ h => (isC.cv h)) h)) (fun w17 S18 => ?_) info_Interval
 refine wpList_nil (then_normal ?_)
 refine wp_ret ?_
 exact st_end S18 1 0 rfl Tryz.underlying37 info_Interval fun v h => (mP_imp (fun _ h => (isC.mono h (by omega))) (fun _ h => (isC.mono h (by omega))) h)

theorem r4_make {p0 : Rat} {k0 : Nat} {p1 : Rat} {k1 : Nat} {v0 : Value} {v1 : Value} {w : World} {O : Bs} (hk0 : k0 ≤ 29999) (hk1 : k1 ≤ 29999) (pf0 : (mR (p0) (k0)).S O w v0) (pf1 : (mR (p1) (k1)).S O w v1) (ho : OB O w) :
    Calls Tryz.prog 42 #[v0, v1] w (RetM (mP (mC (mnQ (p0) (p1)) (k0 + k1 + k0 + k1 + 1)) (mC (mxQ (p0) (p1)) (k0 + k1 + k0 + k1 + 1))) O w) := by
 refine st_start 9 Tryz.func42 [(mR (p0) (k0)), (mR (p1) (k1))] ⟨pf0, pf1, trivial⟩ ho fun a S => ?_
 refine wp_seq ?_
 refine st_seq S 0 [] [(false, 0), (false, 1)] trivial (L' := [(0, ?_), (1, ?_)]) ?_ fun a1 w2 S3 => ?_
 rotate_left 2
 · rfl
 refine t_box S3 0 rfl isR.cv fun O a5 w6 g7 S8 => ?_
 refine t_box S8 2 rfl isR.cv fun O a9 w10 g11 S12 => ?_
 refine t_alloc S12 zero_Interval (fun _ _ _ => bx_Interval) fun O a13 w14 g15 S16 => ?_
 refine wpList_nil (then_normal ?_)
 refine wp_seq ?_
 refine st_seq S16 4 [?_, ?_, ?_, ?_] [(true, 3), (false, 0)] ⟨?_, ?_, ?_, ?_, trivial⟩ (L' := [(8, ?_), (4, ?_)]) ?_ fun a17 w18 S19 => ?_
 rotate_left 6
 · exact opL S16 2 Tryz.underlying26 info_Rat fun c => (c.q 2 rfl)
 · exact opL S16 1 Tryz.underlying26 info_Rat fun c => (c.q 1 rfl)
 · exact opP S16 fun c => bld_pair rfl (c.h 0 rfl) (c.h 1 rfl) (isR.cv (c.h 0 rfl)) (isR.cv (c.h 1 rfl))
 · exact opC S16 rfl fun c B => ⟨_, args_1 rfl, (r4_trim  (by omega) (mP_imp (m1' := (mR (p0) (k0 + k1))) (m2' := (mR (p1) (k0 + k1))) (fun _ h => (isR.mono h (by omega))) (fun _ h => (isR.mono h (by omega))) (c.h 0 rfl)) c.ob)⟩
 · rfl
 refine t_sto S19 1 0 0 rfl (fun h => (mP.cv (fun _ h => (isC.cv h)) (fun _ h => (isC.cv h)) h)) (fun w21 S22 => ?_) info_Interval
 refine wpList_nil (then_normal ?_)
 refine wp_ret ?_
 exact st_end S22 1 0 rfl Tryz.underlying37 info_Interval fun v h => (mP_imp (fun _ h => (isC.mono h (by omega))) (fun _ h => (isC.mono h (by omega))) h)

theorem r4_contains {p0 q0 : Rat} {k0 : Nat} {p1 : Rat} {k1 : Nat} {v0 : Value} {v1 : Value} {w : World} {O : Bs} (hk0 : k0 ≤ 9999) (hk1 : k1 ≤ 9999) (pf0 : (mP (mR (p0) (k0)) (mR (q0) (k0))).S O w v0) (pf1 : (mR (p1) (k1)).S O w v1) (ho : OB O w) :
    Calls Tryz.prog 31 #[v0, v1] w (RetM (mV (.bool ((!(decide ((p1) < (mnQ (p0) (q0))))) && (!(decide ((mxQ (p0) (q0)) < (p1))))))) O w) := by
 refine st_start 19 Tryz.func31 [(mP (mR (p0) (k0)) (mR (q0) (k0))), (mR (p1) (k1))] ⟨pf0, pf1, trivial⟩ ho fun a S => ?_
 refine wp_seq ?_
 refine st_seq S 0 [] [(false, 0), (false, 1)] trivial (L' := [(0, ?_), (1, ?_)]) ?_ fun a1 w2 S3 => ?_
 rotate_left 2
 · rfl
 refine t_box S3 0 rfl (fun h => (mP.cv (fun _ h => (isR.cv h)) (fun _ h => (isR.cv h)) h)) fun O a5 w6 g7 S8 => ?_
 refine t_box S8 2 rfl isR.cv fun O a9 w10 g11 S12 => ?_
 refine t_asgC S12 fun a13 S14 => ?_
 refine wpList_nil (then_normal ?_)
 refine wp_seq ?_
 refine st_seq S14 2 [?_, ?_] [(true, 1), (false, 0), (false, 1), (false, 2)] ⟨?_, ?_, trivial⟩ (L' := [(6, ?_), (4, ?_), (3, ?_), (2, ?_)]) ?_ fun a15 w16 S17 => ?_
 rotate_left 6
 · exact opL S14 1 Tryz.underlying37 info_Interval fun c => (c.q 2 rfl)
 · exact opC S14 rfl fun c B => ⟨_, args_1 rfl, (r4_trim  (by omega) (c.h 0 rfl) c.ob)⟩
 · rfl
 refine t_sto S17 3 0 1 rfl (fun h => (mP.cv (fun _ h => (isC.cv h)) (fun _ h => (isC.cv h)) h)) (fun w19 S20 => ?_) info_Interval
 refine wpList_nil (then_normal ?_)
 refine wp_seq ?_
 refine st_seq S20 12 [?_, ?_, ?_, ?_, ?_, ?_, ?_, ?_, ?_, ?_, ?_, ?_] [(true, 11), (false, 1)] ⟨?_, ?_, ?_, ?_, ?_, ?_, ?_, ?_, ?_, ?_, ?_, ?_, trivial⟩ (L' := [(18, ?_), (4, ?_)]) ?_ fun a21 w22 S23 => ?_
 rotate_left 14
 · exact opL S20 0 Tryz.underlying26 info_Rat fun c => (c.q 2 rfl)
 · exact opV S20 fun c => fa_Interval_0 rfl (c.q 3 rfl)
 · exact opP S20 fun c => ld_part rfl (c.e 0 rfl) (c.bx 1 rfl).lo Tryz.underlying26 info_Rat
 · exact opC S20 rfl fun c B => ⟨_, args_2 rfl rfl, (r_less (by omega) (by omega) (c.h 0 rfl) (isC.r (c.h 1 rfl)))⟩
 · exact opV S20 fun c => run_not rfl (c.e 0 rfl)
 · exact opV S20 fun c => run_v (run_move rfl) (c.e 0 rfl)
 · exact opG S20 0 (fun hγ => opV S20 fun c => fa_Interval_1 rfl (c.q 3 rfl)) gT
 · exact opG S20 1 (fun hγ => opP S20 fun c => ld_part rfl (ev (c.h 0 rfl hγ)) (c.bx 1 rfl).hi Tryz.underlying26 info_Rat) gT
 · exact opG S20 0 (fun hγ => opL S20 0 Tryz.underlying26 info_Rat fun c => (c.q 2 rfl)) gT
 · exact opG S20 2 (fun hγ => opC S20 rfl fun c B => ⟨_, args_2 rfl rfl, (r_less (by omega) (by omega) (isC.r (c.h 0 rfl hγ)) (c.h 1 rfl hγ))⟩) gT
 · exact opG S20 1 (fun hγ => opV S20 fun c => run_not rfl (ev (c.h 0 rfl hγ))) gT
 · exact opE S20 fun c => ⟨_, run_pick rfl (c.e 0 rfl), pick_and (c.h 1 rfl)⟩
 · rfl
 refine t_asg S23 0 fun a25 S26 => ?_
 refine wpList_nil (then_normal ?_)
 refine wp_ret ?_
 exact st_endT S26 0 rfl fun v h => h

theorem r4_inside {p0 q0 : Rat} {k0 : Nat} {p1 q1 : Rat} {k1 : Nat} {v0 : Value} {v1 : Value} {w : World} {O : Bs} (hk0 : k0 ≤ 9999) (hk1 : k1 ≤ 9999) (pf0 : (mP (mR (p0) (k0)) (mR (q0) (k0))).S O w v0) (pf1 : (mP (mR (p1) (k1)) (mR (q1) (k1))).S O w v1) (ho : OB O w) :
    Calls Tryz.prog 33 #[v0, v1] w (RetM (mV (.bool ((!(decide ((mnQ (p0) (q0)) < (mnQ (p1) (q1))))) && (!(decide ((mxQ (p1) (q1)) < (mxQ (p0) (q0)))))))) O w) := by
 refine st_start 15 Tryz.func33 [(mP (mR (p0) (k0)) (mR (q0) (k0))), (mP (mR (p1) (k1)) (mR (q1) (k1)))] ⟨pf0, pf1, trivial⟩ ho fun a S => ?_
 refine wp_seq ?_
 refine st_seq S 0 [] [(false, 0), (false, 1)] trivial (L' := [(0, ?_), (1, ?_)]) ?_ fun a1 w2 S3 => ?_
 rotate_left 2
 · rfl
 refine t_box S3 0 rfl (fun h => (mP.cv (fun _ h => (isR.cv h)) (fun _ h => (isR.cv h)) h)) fun O a5 w6 g7 S8 => ?_
 refine t_box S8 2 rfl (fun h => (mP.cv (fun _ h => (isR.cv h)) (fun _ h => (isR.cv h)) h)) fun O a9 w10 g11 S12 => ?_
 refine t_asgC S12 fun a13 S14 => ?_
 refine wpList_nil (then_normal ?_)
 refine wp_seq ?_
 refine st_seq S14 10 [?_, ?_, ?_, ?_, ?_, ?_, ?_, ?_, ?_, ?_] [(true, 9), (false, 0)] ⟨?_, ?_, ?_, ?_, ?_, ?_, ?_, ?_, ?_, ?_, trivial⟩ (L' := [(14, ?_), (4, ?_)]) ?_ fun a15 w16 S17 => ?_
 rotate_left 12
 · exact opL S14 0 Tryz.underlying37 info_Interval fun c => (c.q 1 rfl)
 · exact opV S14 fun c => fa_Interval_0 rfl (c.q 2 rfl)
 · exact opP S14 fun c => ld_part rfl (c.e 0 rfl) (c.bx 1 rfl).lo Tryz.underlying26 info_Rat
 · exact opC S14 rfl fun c B => ⟨_, args_2 rfl rfl, (r4_contains  (by omega) (by omega) (c.h 0 rfl) (c.h 1 rfl) c.ob)⟩
 · exact opV S14 fun c => run_v (run_move rfl) (c.e 0 rfl)
 · exact opG S14 0 (fun hγ => opL S14 0 Tryz.underlying37 info_Interval fun c => (c.q 1 rfl)) gT
 · exact opG S14 0 (fun hγ => opV S14 fun c => fa_Interval_1 rfl (c.q 2 rfl)) gT
 · exact opG S14 1 (fun hγ => opP S14 fun c => ld_part rfl (ev (c.h 0 rfl hγ)) (c.bx 1 rfl).hi Tryz.underlying26 info_Rat) gT
 · exact opG S14 2 (fun hγ => opC S14 rfl fun c B => ⟨_, args_2 rfl rfl, (r4_contains  (by omega) (by omega) (c.h 0 rfl hγ) (c.h 1 rfl hγ) c.ob)⟩) gT
 · exact opE S14 fun c => ⟨_, run_pick rfl (c.e 0 rfl), pick_and (c.h 1 rfl)⟩
 · rfl
 refine t_asg S17 0 fun a19 S20 => ?_
 refine wpList_nil (then_normal ?_)
 refine wp_ret ?_
 exact st_endT S20 0 rfl fun v h => (h).trans (by rw [in_eq])

theorem r4_width {p0 q0 : Rat} {k0 : Nat} {v0 : Value} {w : World} {O : Bs} (hk0 : k0 ≤ 9999) (pf0 : (mP (mR (p0) (k0)) (mR (q0) (k0))).S O w v0) (ho : OB O w) :
    Calls Tryz.prog 44 #[v0] w (RetM (mC ((mxQ (p0) (q0)) - (mnQ (p0) (q0))) (k0 + k0 + k0 + k0 + 5)) O w) := by
 refine st_start 10 Tryz.func44 [(mP (mR (p0) (k0)) (mR (q0) (k0)))] ⟨pf0, trivial⟩ ho fun a S => ?_
 refine wp_seq ?_
 refine st_seq S 0 [] [(false, 0)] trivial (L' := [(0, ?_)]) ?_ fun a1 w2 S3 => ?_
 rotate_left 1
 · rfl
 refine t_box S3 0 rfl (fun h => (mP.cv (fun _ h => (isR.cv h)) (fun _ h => (isR.cv h)) h)) fun O a5 w6 g7 S8 => ?_
 refine t_alloc S8 zero_Rat (fun _ _ _ => bx_Rat) fun O a9 w10 g11 S12 => ?_
 refine wpList_nil (then_normal ?_)
 refine wp_seq ?_
 refine st_seq S12 2 [?_, ?_] [(true, 1), (false, 0), (false, 1)] ⟨?_, ?_, trivial⟩ (L' := [(4, ?_), (2, ?_), (1, ?_)]) ?_ fun a13 w14 S15 => ?_
 rotate_left 5
 · exact opL S12 1 Tryz.underlying37 info_Interval fun c => (c.q 1 rfl)
 · exact opC S12 rfl fun c B => ⟨_, args_1 rfl, (r4_trim  (by omega) (c.h 0 rfl) c.ob)⟩
 · rfl
 refine t_sto S15 2 0 1 rfl (fun h => (mP.cv (fun _ h => (isC.cv h)) (fun _ h => (isC.cv h)) h)) (fun w17 S18 => ?_) info_Interval
 refine wpList_nil (then_normal ?_)
 refine wp_seq ?_
 refine st_seq S18 5 [?_, ?_, ?_, ?_, ?_] [(true, 4), (false, 1)] ⟨?_, ?_, ?_, ?_, ?_, trivial⟩ (L' := [(9, ?_), (2, ?_)]) ?_ fun a19 w20 S21 => ?_
 rotate_left 7
 · exact opV S18 fun c => fa_Interval_1 rfl (c.q 2 rfl)
 · exact opP S18 fun c => ld_part rfl (c.e 0 rfl) (c.bx 1 rfl).hi Tryz.underlying26 info_Rat
 · exact opV S18 fun c => fa_Interval_0 rfl (c.q 2 rfl)
 · exact opP S18 fun c => ld_part rfl (c.e 0 rfl) (c.bx 1 rfl).lo Tryz.underlying26 info_Rat
 · exact opC S18 rfl fun c B => ⟨_, args_2 rfl rfl, (r_sub (by omega) (by omega) (isC.r (c.h 0 rfl)) (isC.r (c.h 1 rfl)))⟩
 · rfl
 refine t_sto S21 1 0 0 rfl isC.cv (fun w23 S24 => ?_) info_Rat
 refine wpList_nil (then_normal ?_)
 refine wp_ret ?_
 exact st_end S24 1 0 rfl Tryz.underlying26 info_Rat fun v h => (isC.mono h (by omega))

theorem r4_mid {p0 q0 : Rat} {k0 : Nat} {v0 : Value} {w : World} {O : Bs} (hk0 : k0 ≤ 9999) (pf0 : (mP (mR (p0) (k0)) (mR (q0) (k0))).S O w v0) (ho : OB O w) :
    Calls Tryz.prog 46 #[v0] w (RetM (mC (((p0) + (q0)) * (Rat.divInt (1) (2))) (k0 + k0 + 8)) O w) := by
 refine st_start 10 Tryz.func46 [(mP (mR (p0) (k0)) (mR (q0) (k0)))] ⟨pf0, trivial⟩ ho fun a S => ?_
 refine wp_seq ?_
 refine st_seq S 0 [] [(false, 0)] trivial (L' := [(0, ?_)]) ?_ fun a1 w2 S3 => ?_
 rotate_left 1
 · rfl
 refine t_box S3 0 rfl (fun h => (mP.cv (fun _ h => (isR.cv h)) (fun _ h => (isR.cv h)) h)) fun O a5 w6 g7 S8 => ?_
 refine t_alloc S8 zero_Rat (fun _ _ _ => bx_Rat) fun O a9 w10 g11 S12 => ?_
 refine wpList_nil (then_normal ?_)
 refine wp_seq ?_
 refine st_seq S12 7 [?_, ?_, ?_, ?_, ?_, ?_, ?_] [(true, 6), (false, 0)] ⟨?_, ?_, ?_, ?_, ?_, ?_, ?_, trivial⟩ (L' := [(9, ?_), (2, ?_)]) ?_ fun a13 w14 S15 => ?_
 rotate_left 9
 · exact opV S12 fun c => fa_Interval_0 rfl (c.q 1 rfl)
 · exact opP S12 fun c => ld_part rfl (c.e 0 rfl) (c.bx 1 rfl).lo Tryz.underlying26 info_Rat
 · exact opV S12 fun c => fa_Interval_1 rfl (c.q 1 rfl)
 · exact opP S12 fun c => ld_part rfl (c.e 0 rfl) (c.bx 1 rfl).hi Tryz.underlying26 info_Rat
 · exact opC S12 rfl fun c B => ⟨_, args_2 rfl rfl, (r_add (by omega) (by omega) (c.h 0 rfl) (c.h 1 rfl))⟩
 · exact opC S12 rfl fun c B => ⟨_, args_2 rfl rfl, (r_frac (1) (2) (by omega) (by omega) (by omega) (by omega))⟩
 · exact opC S12 rfl fun c B => ⟨_, args_2 rfl rfl, (r_mul (by omega) (by omega) (isC.r (c.h 0 rfl)) (isC.r (c.h 1 rfl)))⟩
 · rfl
 refine t_sto S15 1 0 0 rfl isC.cv (fun w17 S18 => ?_) info_Rat
 refine wpList_nil (then_normal ?_)
 refine wp_ret ?_
 exact st_end S18 1 0 rfl Tryz.underlying26 info_Rat fun v h => (isC.mono h (by omega))

theorem r4_add {p0 q0 : Rat} {k0 : Nat} {p1 q1 : Rat} {k1 : Nat} {v0 : Value} {v1 : Value} {w : World} {O : Bs} (hk0 : k0 ≤ 29999) (hk1 : k1 ≤ 29999) (pf0 : (mP (mR (p0) (k0)) (mR (q0) (k0))).S O w v0) (pf1 : (mP (mR (p1) (k1)) (mR (q1) (k1))).S O w v1) (ho : OB O w) :
    Calls Tryz.prog 48 #[v0, v1] w (RetM (mP (mC ((mnQ (p0) (q0)) + (mnQ (p1) (q1))) (k0 + k0 + k1 + k1 + 5)) (mC ((mxQ (p0) (q0)) + (mxQ (p1) (q1))) (k0 + k0 + k1 + k1 + 5))) O w) := by
 refine st_start 20 Tryz.func48 [(mP (mR (p0) (k0)) (mR (q0) (k0))), (mP (mR (p1) (k1)) (mR (q1) (k1)))] ⟨pf0, pf1, trivial⟩ ho fun a S => ?_
 refine wp_seq ?_
 refine st_seq S 0 [] [(false, 0), (false, 1)] trivial (L' := [(0, ?_), (1, ?_)]) ?_ fun a1 w2 S3 => ?_
 rotate_left 2
 · rfl
 refine t_box S3 0 rfl (fun h => (mP.cv (fun _ h => (isR.cv h)) (fun _ h => (isR.cv h)) h)) fun O a5 w6 g7 S8 => ?_
 refine t_box S8 2 rfl (fun h => (mP.cv (fun _ h => (isR.cv h)) (fun _ h => (isR.cv h)) h)) fun O a9 w10 g11 S12 => ?_
 refine t_alloc S12 zero_Interval (fun _ _ _ => bx_Interval) fun O a13 w14 g15 S16 => ?_
 refine wpList_nil (then_normal ?_)
 refine wp_seq ?_
 refine st_mono S16 4 [?_, ?_, ?_, ?_] [(true, 1), (true, 3), (false, 0), (false, 1), (false, 2)] ⟨?_, ?_, ?_, ?_, trivial⟩ (L' := [(6, ?_), (8, ?_), (4, ?_), (3, ?_), (2, ?_)]) ?_ fun a17 w18 S19 => ?_
 rotate_left 9
 · exact opL S16 2 Tryz.underlying37 info_Interval fun c => (c.q 2 rfl)
 · exact opC S16 rfl fun c B => ⟨_, args_1 rfl, (r4_trim  (by omega) (c.h 0 rfl) c.ob)⟩
 · exact opL S16 1 Tryz.underlying37 info_Interval fun c => (c.q 1 rfl)
 · exact opC S16 rfl fun c B => ⟨_, args_1 rfl, (r4_trim  (by omega) (c.h 0 rfl) c.ob)⟩
 · rfl
 refine t_sto S19 4 0 2 rfl (fun h => (mP.cv (fun _ h => (isC.cv h)) (fun _ h => (isC.cv h)) h)) (fun w21 S22 => ?_) info_Interval
 refine t_sto S22 3 1 1 rfl (fun h => (mP.cv (fun _ h => (isC.cv h)) (fun _ h => (isC.cv h)) h)) (fun w23 S24 => ?_) info_Interval
 refine wpList_nil (then_normal ?_)
 refine wp_seq ?_
 refine st_mono S24 11 [?_, ?_, ?_, ?_, ?_, ?_, ?_, ?_, ?_, ?_, ?_] [(true, 10), (false, 2)] ⟨?_, ?_, ?_, ?_, ?_, ?_, ?_, ?_, ?_, ?_, ?_, trivial⟩ (L' := [(19, ?_), (4, ?_)]) ?_ fun a25 w26 S27 => ?_
 rotate_left 13
 · exact opV S24 fun c => fa_Interval_0 rfl (c.q 4 rfl)
 · exact opP S24 fun c => ld_part rfl (c.e 0 rfl) (c.bx 2 rfl).lo Tryz.underlying26 info_Rat
 · exact opV S24 fun c => fa_Interval_0 rfl (c.q 3 rfl)
 · exact opP S24 fun c => ld_part rfl (c.e 0 rfl) (c.bx 1 rfl).lo Tryz.underlying26 info_Rat
 · exact opC S24 rfl fun c B => ⟨_, args_2 rfl rfl, (r_add (by omega) (by omega) (isC.r (c.h 0 rfl)) (isC.r (c.h 1 rfl)))⟩
 · exact opV S24 fun c => fa_Interval_1 rfl (c.q 4 rfl)
 · exact opP S24 fun c => ld_part rfl (c.e 0 rfl) (c.bx 2 rfl).hi Tryz.underlying26 info_Rat
 · exact opV S24 fun c => fa_Interval_1 rfl (c.q 3 rfl)
 · exact opP S24 fun c => ld_part rfl (c.e 0 rfl) (c.bx 1 rfl).hi Tryz.underlying26 info_Rat
 · exact opC S24 rfl fun c B => ⟨_, args_2 rfl rfl, (r_add (by omega) (by omega) (isC.r (c.h 0 rfl)) (isC.r (c.h 1 rfl)))⟩
 · exact opP S24 fun c => bld_pair rfl (c.h 0 rfl) (c.h 1 rfl) (isC.cv (c.h 0 rfl)) (isC.cv (c.h 1 rfl))
 · rfl
 refine t_sto S27 1 0 0 rfl (fun h => (mP.cv (fun _ h => (isC.cv h)) (fun _ h => (isC.cv h)) h)) (fun w29 S30 => ?_) info_Interval
 refine wpList_nil (then_normal ?_)
 refine wp_ret ?_
 exact st_end S30 1 0 rfl Tryz.underlying37 info_Interval fun v h => (mP_imp (fun _ h => (isC.mono h (by omega))) (fun _ h => (isC.mono h (by omega))) h)

theorem r4_neg {p0 q0 : Rat} {k0 : Nat} {v0 : Value} {w : World} {O : Bs} (hk0 : k0 ≤ 9999) (pf0 : (mP (mR (p0) (k0)) (mR (q0) (k0))).S O w v0) (ho : OB O w) :
    Calls Tryz.prog 144 #[v0] w (RetM (mP (mC (mnQ (-(p0)) (-(q0))) (k0 + k0 + k0 + k0 + 5)) (mC (mxQ (-(p0)) (-(q0))) (k0 + k0 + k0 + k0 + 5))) O w) := by
 refine st_start 10 Tryz.func144 [(mP (mR (p0) (k0)) (mR (q0) (k0)))] ⟨pf0, trivial⟩ ho fun a S => ?_
 refine wp_seq ?_
 refine st_seq S 0 [] [(false, 0)] trivial (L' := [(0, ?_)]) ?_ fun a1 w2 S3 => ?_
 rotate_left 1
 · rfl
 refine t_box S3 0 rfl (fun h => (mP.cv (fun _ h => (isR.cv h)) (fun _ h => (isR.cv h)) h)) fun O a5 w6 g7 S8 => ?_
 refine t_alloc S8 zero_Interval (fun _ _ _ => bx_Interval) fun O a9 w10 g11 S12 => ?_
 refine wpList_nil (then_normal ?_)
 refine wp_seq ?_
 refine st_mono S12 7 [?_, ?_, ?_, ?_, ?_, ?_, ?_] [(true, 6), (false, 0)] ⟨?_, ?_, ?_, ?_, ?_, ?_, ?_, trivial⟩ (L' := [(9, ?_), (2, ?_)]) ?_ fun a13 w14 S15 => ?_
 rotate_left 9
 · exact opV S12 fun c => fa_Interval_0 rfl (c.q 1 rfl)
 · exact opP S12 fun c => ld_part rfl (c.e 0 rfl) (c.bx 1 rfl).lo Tryz.underlying26 info_Rat
 · exact opC S12 rfl fun c B => ⟨_, args_1 rfl, (r_neg (by omega) (c.h 0 rfl))⟩
 · exact opV S12 fun c => fa_Interval_1 rfl (c.q 1 rfl)
 · exact opP S12 fun c => ld_part rfl (c.e 0 rfl) (c.bx 1 rfl).hi Tryz.underlying26 info_Rat
 · exact opC S12 rfl fun c B => ⟨_, args_1 rfl, (r_neg (by omega) (c.h 0 rfl))⟩
 · exact opC S12 rfl fun c B => ⟨_, args_2 rfl rfl, (r4_make  (by omega) (by omega) (isC.r (c.h 0 rfl)) (isC.r (c.h 1 rfl)) c.ob)⟩
 · rfl
 refine t_sto S15 1 0 0 rfl (fun h => (mP.cv (fun _ h => (isC.cv h)) (fun _ h => (isC.cv h)) h)) (fun w17 S18 => ?_) info_Interval
 refine wpList_nil (then_normal ?_)
 refine wp_ret ?_
 exact st_end S18 1 0 rfl Tryz.underlying37 info_Interval fun v h => (mP_imp (fun _ h => (isC.mono h (by omega))) (fun _ h => (isC.mono h (by omega))) h)

theorem r4_sign {p0 q0 : Rat} {k0 : Nat} {v0 : Value} {w : World} {O : Bs} (hk0 : k0 ≤ 9999) (pf0 : (mP (mR (p0) (k0)) (mR (q0) (k0))).S O w v0) (ho : OB O w) :
    Calls Tryz.prog 35 #[v0] w (RetM (mV (.int .i64 (sgI (p0) (q0)))) O w) := by
 refine st_start 15 Tryz.func35 [(mP (mR (p0) (k0)) (mR (q0) (k0)))] ⟨pf0, trivial⟩ ho fun a S => ?_
 refine wp_seq ?_
 refine st_seq S 0 [] [(false, 0)] trivial (L' := [(0, ?_)]) ?_ fun a1 w2 S3 => ?_
 rotate_left 1
 · rfl
 refine t_box S3 0 rfl (fun h => (mP.cv (fun _ h => (isR.cv h)) (fun _ h => (isR.cv h)) h)) fun O a5 w6 g7 S8 => ?_
 refine t_asgC S8 fun a9 S10 => ?_
 refine wpList_nil (then_normal ?_)
 refine wp_seq ?_
 refine st_seq S10 2 [?_, ?_] [(true, 1), (false, 0), (false, 1)] ⟨?_, ?_, trivial⟩ (L' := [(4, ?_), (2, ?_), (1, ?_)]) ?_ fun a11 w12 S13 => ?_
 rotate_left 5
 · exact opL S10 0 Tryz.underlying37 info_Interval fun c => (c.q 1 rfl)
 · exact opC S10 rfl fun c B => ⟨_, args_1 rfl, (r4_trim  (by omega) (c.h 0 rfl) c.ob)⟩
 · rfl
 refine t_sto S13 2 0 0 rfl (fun h => (mP.cv (fun _ h => (isC.cv h)) (fun _ h => (isC.cv h)) h)) (fun w15 S16 => ?_) info_Interval
 refine wpList_nil (then_normal ?_)
 refine wp_seq ?_
 refine wp_block ?_
 refine wp_seq ?_
 refine st_seq S16 4 [?_, ?_, ?_, ?_] [(true, 3), (false, 1), (false, 2)] ⟨?_, ?_, ?_, ?_, trivial⟩ (L' := [(9, ?_), (2, ?_), (1, ?_)]) ?_ fun a17 w18 S19 => ?_
 rotate_left 7
 · exact opV S16 fun c => fa_Interval_0 rfl (c.q 2 rfl)
 · exact opP S16 fun c => ld_part rfl (c.e 0 rfl) (c.bx 0 rfl).lo Tryz.underlying26 info_Rat
 · exact opC S16 rfl fun c B => ⟨_, args_1 rfl, (r_sign (by omega) (isC.r (c.h 0 rfl)))⟩
 · exact opV S16 fun c => run_gtr rfl (c.e 0 rfl) rfl
 · rfl
 refine t_asg S19 0 fun a21 S22 => ?_
 refine wpList_nil (then_normal ?_)
 refine cond_b _ (ev (S22.sl 0 rfl)) (fun hb23 => ?_) (fun hb23 => ?_)
 ·have hb23p := of_decide_eq_true hb23
  refine wp_seq ?_
  refine st_seq S22 0 [] [(false, 2)] trivial (L' := [(2, ?_)]) ?_ fun a24 w25 S26 => ?_
  rotate_left 1
  · rfl
  refine t_asgC S26 fun a28 S29 => ?_
  refine wpList_nil (then_normal ?_)
  refine wp_ret ?_
  exact st_endT S29 0 rfl fun v h => (h).trans (by first | (rw [← sg_p (by assumption)]) | (rw [← sg_n (by assumption)]) | (rw [← sg_z (by assumption) (by assumption)]))
 ·have hb23p := of_decide_eq_false hb23
  refine wp_seq ?_
  refine st_seq S22 4 [?_, ?_, ?_, ?_] [(true, 3), (false, 2)] ⟨?_, ?_, ?_, ?_, trivial⟩ (L' := [(14, ?_), (2, ?_)]) ?_ fun a30 w31 S32 => ?_
  rotate_left 6
  · exact opV S22 fun c => fa_Interval_1 rfl (c.q 3 rfl)
  · exact opP S22 fun c => ld_part rfl (c.e 0 rfl) (c.bx 0 rfl).hi Tryz.underlying26 info_Rat
  · exact opC S22 rfl fun c B => ⟨_, args_1 rfl, (r_sign (by omega) (isC.r (c.h 0 rfl)))⟩
  · exact opV S22 fun c => run_lss rfl (c.e 0 rfl) rfl
  · rfl
  refine t_asg S32 0 fun a34 S35 => ?_
  refine wpList_nil (then_normal ?_)
  refine cond_b _ (ev (S35.sl 0 rfl)) (fun hb36 => ?_) (fun hb36 => ?_)
  ·have hb36p := of_decide_eq_true hb36
   refine wp_seq ?_
   refine st_seq S35 0 [] [(false, 2)] trivial (L' := [(2, ?_)]) ?_ fun a37 w38 S39 => ?_
   rotate_left 1
   · rfl
   refine t_asgC S39 fun a41 S42 => ?_
   refine wpList_nil (then_normal ?_)
   refine wp_ret ?_
   exact st_endT S42 0 rfl fun v h => (h).trans (by first | (rw [← sg_p (by assumption)]) | (rw [← sg_n (by assumption)]) | (rw [← sg_z (by assumption) (by assumption)]))
  ·have hb36p := of_decide_eq_false hb36
   refine wp_skip (in_normal (then_normal ?_))
   refine wp_seq ?_
   refine st_seq S35 0 [] [(false, 2)] trivial (L' := [(2, ?_)]) ?_ fun a43 w44 S45 => ?_
   rotate_left 1
   · rfl
   refine t_asgC S45 fun a47 S48 => ?_
   refine wpList_nil (then_normal ?_)
   refine wp_ret ?_
   exact st_endT S48 0 rfl fun v h => (h).trans (by first | (rw [← sg_p (by assumption)]) | (rw [← sg_n (by assumption)]) | (rw [← sg_z (by assumption) (by assumption)]))

theorem r4_mul {p0 q0 : Rat} {k0 : Nat} {p1 q1 : Rat} {k1 : Nat} {v0 : Value} {v1 : Value} {w : World} {O : Bs} (hk0 : k0 ≤ 9999) (hk1 : k1 ≤ 9999) (pf0 : (mP (mR (p0) (k0)) (mR (q0) (k0))).S O w v0) (pf1 : (mP (mR (p1) (k1)) (mR (q1) (k1))).S O w v1) (ho : OB O w) :
    Calls Tryz.prog 52 #[v0, v1] w (RetM (mP (mC (mn4 (p0 * p1) (p0 * q1) (q0 * p1) (q0 * q1)) (k0 + k1 + k0 + k1 + k0 + k1 + k0 + k1 + 19)) (mC (mx4 (p0 * p1) (p0 * q1) (q0 * p1) (q0 * q1)) (k0 + k1 + k0 + k1 + k0 + k1 + k0 + k1 + 19))) O w) := by
 refine st_start 44 Tryz.func52 [(mP (mR (p0) (k0)) (mR (q0) (k0))), (mP (mR (p1) (k1)) (mR (q1) (k1)))] ⟨pf0, pf1, trivial⟩ ho fun a S => ?_
 refine wp_seq ?_
 refine st_seq S 0 [] [(false, 0), (false, 1)] trivial (L' := [(0, ?_), (1, ?_)]) ?_ fun a1 w2 S3 => ?_
 rotate_left 2
 · rfl
 refine t_box S3 0 rfl (fun h => (mP.cv (fun _ h => (isR.cv h)) (fun _ h => (isR.cv h)) h)) fun O a5 w6 g7 S8 => ?_
 refine t_box S8 2 rfl (fun h => (mP.cv (fun _ h => (isR.cv h)) (fun _ h => (isR.cv h)) h)) fun O a9 w10 g11 S12 => ?_
 refine t_alloc S12 zero_Interval (fun _ _ _ => bx_Interval) fun O a13 w14 g15 S16 => ?_
 refine wpList_nil (then_normal ?_)
 refine wp_seq ?_
 refine st_monoA S16 24 [?_, ?_, ?_, ?_, ?_, ?_, ?_, ?_, ?_, ?_, ?_, ?_, ?_, ?_, ?_, ?_, ?_, ?_, ?_, ?_, ?_, ?_, ?_, ?_] [(true, 4), (true, 9), (true, 14), (true, 19), (false, 0)] ⟨?_, ?_, ?_, ?_, ?_, ?_, ?_, ?_, ?_, ?_, ?_, ?_, ?_, ?_, ?_, ?_, ?_, ?_, ?_, ?_, ?_, ?_, ?_, ?_, trivial⟩ (L' := [(13, ?_), (18, ?_), (23, ?_), (28, ?_), (4, ?_)]) ?_ fun O a17 w18 hw hO hX S19 A20 => ?_
 rotate_left 29
 · exact opV S16 fun c => fa_Interval_0 rfl (c.q 2 rfl)
 · exact opP S16 fun c => ld_part rfl (c.e 0 rfl) (c.bx 2 rfl).lo Tryz.underlying26 info_Rat
 · exact opV S16 fun c => fa_Interval_0 rfl (c.q 1 rfl)
 · exact opP S16 fun c => ld_part rfl (c.e 0 rfl) (c.bx 1 rfl).lo Tryz.underlying26 info_Rat
 · exact opC S16 rfl fun c B => ⟨_, args_2 rfl rfl, (r_mul (by omega) (by omega) (c.h 0 rfl) (c.h 1 rfl))⟩
 · exact opV S16 fun c => fa_Interval_0 rfl (c.q 2 rfl)
 · exact opP S16 fun c => ld_part rfl (c.e 0 rfl) (c.bx 2 rfl).lo Tryz.underlying26 info_Rat
 · exact opV S16 fun c => fa_Interval_1 rfl (c.q 1 rfl)
 · exact opP S16 fun c => ld_part rfl (c.e 0 rfl) (c.bx 1 rfl).hi Tryz.underlying26 info_Rat
 · exact opC S16 rfl fun c B => ⟨_, args_2 rfl rfl, (r_mul (by omega) (by omega) (c.h 0 rfl) (c.h 1 rfl))⟩
 · exact opV S16 fun c => fa_Interval_1 rfl (c.q 2 rfl)
 · exact opP S16 fun c => ld_part rfl (c.e 0 rfl) (c.bx 2 rfl).hi Tryz.underlying26 info_Rat
 · exact opV S16 fun c => fa_Interval_0 rfl (c.q 1 rfl)
 · exact opP S16 fun c => ld_part rfl (c.e 0 rfl) (c.bx 1 rfl).lo Tryz.underlying26 info_Rat
 · exact opC S16 rfl fun c B => ⟨_, args_2 rfl rfl, (r_mul (by omega) (by omega) (c.h 0 rfl) (c.h 1 rfl))⟩
 · exact opV S16 fun c => fa_Interval_1 rfl (c.q 2 rfl)
 · exact opP S16 fun c => ld_part rfl (c.e 0 rfl) (c.bx 2 rfl).hi Tryz.underlying26 info_Rat
 · exact opV S16 fun c => fa_Interval_1 rfl (c.q 1 rfl)
 · exact opP S16 fun c => ld_part rfl (c.e 0 rfl) (c.bx 1 rfl).hi Tryz.underlying26 info_Rat
 · exact opC S16 rfl fun c B => ⟨_, args_2 rfl rfl, (r_mul (by omega) (by omega) (c.h 0 rfl) (c.h 1 rfl))⟩
 · exact opA S16 zero_Rat fun _ _ _ => bx_Rat
 · exact opA S16 zero_Rat fun _ _ _ => bx_Rat
 · exact opA S16 zero_Rat fun _ _ _ => bx_Rat
 · exact opA S16 zero_Rat fun _ _ _ => bx_Rat
 · exact ⟨by rfl, by rfl⟩
 obtain ⟨g21, e23, e23a, e23b, e23x⟩ := A20.g 20 rfl rfl
 have S22 := (S19.add (q := .box g21 26 3 mTop) (fun _ h => by cases h; exact ⟨hO _ ⟨e23a, e23b⟩, Nat.le_trans hw e23a⟩) e23x (fun p hp x h => by cases h; exact hX p hp _ e23a)).new e23
 obtain ⟨g24, e26, e26a, e26b, e26x⟩ := A20.g 21 rfl rfl
 have S25 := (S22.add (q := .box g24 26 3 mTop) (fun _ h => by cases h; exact ⟨hO _ ⟨e26a, e26b⟩, Nat.le_trans hw e26a⟩) e26x (fun p hp x h => by
   cases h
   rcases List.mem_cons.1 hp with rfl | hp
   · exact fun h => (fun h => A20.ne 21 20 rfl rfl (by decide) (by rw [e26, e23, h])) (Option.some.inj h).symm
   exact hX p hp _ e26a)).new e26
 obtain ⟨g27, e29, e29a, e29b, e29x⟩ := A20.g 22 rfl rfl
 have S28 := (S25.add (q := .box g27 26 3 mTop) (fun _ h => by cases h; exact ⟨hO _ ⟨e29a, e29b⟩, Nat.le_trans hw e29a⟩) e29x (fun p hp x h => by
   cases h
   rcases List.mem_cons.1 hp with rfl | hp
   · exact fun h => (fun h => A20.ne 22 21 rfl rfl (by decide) (by rw [e29, e26, h])) (Option.some.inj h).symm
   rcases List.mem_cons.1 hp with rfl | hp
   · exact fun h => (fun h => A20.ne 22 20 rfl rfl (by decide) (by rw [e29, e23, h])) (Option.some.inj h).symm
   exact hX p hp _ e29a)).new e29
 obtain ⟨g30, e32, e32a, e32b, e32x⟩ := A20.g 23 rfl rfl
 have S31 := (S28.add (q := .box g30 26 3 mTop) (fun _ h => by cases h; exact ⟨hO _ ⟨e32a, e32b⟩, Nat.le_trans hw e32a⟩) e32x (fun p hp x h => by
   cases h
   rcases List.mem_cons.1 hp with rfl | hp
   · exact fun h => (fun h => A20.ne 23 22 rfl rfl (by decide) (by rw [e32, e29, h])) (Option.some.inj h).symm
   rcases List.mem_cons.1 hp with rfl | hp
   · exact fun h => (fun h => A20.ne 23 21 rfl rfl (by decide) (by rw [e32, e26, h])) (Option.some.inj h).symm
   rcases List.mem_cons.1 hp with rfl | hp
   · exact fun h => (fun h => A20.ne 23 20 rfl rfl (by decide) (by rw [e32, e23, h])) (Option.some.inj h).symm
   exact hX p hp _ e32a)).new e32
 refine t_sto S31 3 4 3 rfl isC.cv (fun w33 S34 => ?_) info_Rat
 refine t_sto S34 2 5 2 rfl isC.cv (fun w35 S36 => ?_) info_Rat
 refine t_sto S36 1 6 1 rfl isC.cv (fun w37 S38 => ?_) info_Rat
 refine t_sto S38 0 7 0 rfl isC.cv (fun w39 S40 => ?_) info_Rat
 refine wpList_nil (then_normal ?_)
 refine wp_seq ?_
 refine st_mono S40 15 [?_, ?_, ?_, ?_, ?_, ?_, ?_, ?_, ?_, ?_, ?_, ?_, ?_, ?_, ?_] [(true, 14), (false, 8)] ⟨?_, ?_, ?_, ?_, ?_, ?_, ?_, ?_, ?_, ?_, ?_, ?_, ?_, ?_, ?_, trivial⟩ (L' := [(43, ?_), (4, ?_)]) ?_ fun a41 w42 S43 => ?_
 rotate_left 17
 · exact opL S40 3 Tryz.underlying26 info_Rat fun c => (c.q 3 rfl)
 · exact opL S40 2 Tryz.underlying26 info_Rat fun c => (c.q 2 rfl)
 · exact opC S40 rfl fun c B => ⟨_, args_2 rfl rfl, (r3_min  (by omega) (by omega) (isC.r (c.h 0 rfl)) (isC.r (c.h 1 rfl)) c.ob)⟩
 · exact opL S40 1 Tryz.underlying26 info_Rat fun c => (c.q 1 rfl)
 · exact opL S40 0 Tryz.underlying26 info_Rat fun c => (c.q 0 rfl)
 · exact opC S40 rfl fun c B => ⟨_, args_2 rfl rfl, (r3_min  (by omega) (by omega) (isC.r (c.h 0 rfl)) (isC.r (c.h 1 rfl)) c.ob)⟩
 · exact opC S40 rfl fun c B => ⟨_, args_2 rfl rfl, (r3_min  (by omega) (by omega) (isC.r (c.h 0 rfl)) (isC.r (c.h 1 rfl)) c.ob)⟩
 · exact opL S40 3 Tryz.underlying26 info_Rat fun c => (c.q 3 rfl)
 · exact opL S40 2 Tryz.underlying26 info_Rat fun c => (c.q 2 rfl)
 · exact opC S40 rfl fun c B => ⟨_, args_2 rfl rfl, (r3_max  (by omega) (by omega) (isC.r (c.h 0 rfl)) (isC.r (c.h 1 rfl)) c.ob)⟩
 · exact opL S40 1 Tryz.underlying26 info_Rat fun c => (c.q 1 rfl)
 · exact opL S40 0 Tryz.underlying26 info_Rat fun c => (c.q 0 rfl)
 · exact opC S40 rfl fun c B => ⟨_, args_2 rfl rfl, (r3_max  (by omega) (by omega) (isC.r (c.h 0 rfl)) (isC.r (c.h 1 rfl)) c.ob)⟩
 · exact opC S40 rfl fun c B => ⟨_, args_2 rfl rfl, (r3_max  (by omega) (by omega) (isC.r (c.h 0 rfl)) (isC.r (c.h 1 rfl)) c.ob)⟩
 · exact opP S40 fun c => bld_pair rfl (c.h 0 rfl) (c.h 1 rfl) (isC.cv (c.h 0 rfl)) (isC.cv (c.h 1 rfl))
 · rfl
 refine t_sto S43 1 0 4 rfl (fun h => (mP.cv (fun _ h => (isC.cv h)) (fun _ h => (isC.cv h)) h)) (fun w45 S46 => ?_) info_Interval
 refine wpList_nil (then_normal ?_)
 refine wp_ret ?_
 exact st_end S46 1 4 rfl Tryz.underlying37 info_Interval fun v h => (mP_imp (fun _ h => isC.mono h (by omega)) (fun _ h => isC.mono h (by omega)) h)

theorem r4_square {p0 q0 : Rat} {k0 : Nat} {v0 : Value} {w : World} {O : Bs} (hk0 : k0 ≤ 999) (pf0 : (mP (mR (p0) (k0)) (mR (q0) (k0))).S O w v0) (ho : OB O w) :
    Calls Tryz.prog 54 #[v0] w (RetM (mP (mC (sqL (p0) (q0)) (k0 + k0 + k0 + k0 + k0 + k0 + k0 + k0 + 19)) (mC (mxQ ((p0) * (p0)) ((q0) * (q0))) (k0 + k0 + k0 + k0 + k0 + k0 + k0 + k0 + 19))) O w) := by
 refine st_start 21 Tryz.func54 [(mP (mR (p0) (k0)) (mR (q0) (k0)))] ⟨pf0, trivial⟩ ho fun a S => ?_
 refine wp_seq ?_
 refine st_seq S 0 [] [(false, 0)] trivial (L' := [(0, ?_)]) ?_ fun a1 w2 S3 => ?_
 rotate_left 1
 · rfl
 refine t_box S3 0 rfl (fun h => (mP.cv (fun _ h => (isR.cv h)) (fun _ h => (isR.cv h)) h)) fun O a5 w6 g7 S8 => ?_
 refine t_alloc S8 zero_Interval (fun _ _ _ => bx_Interval) fun O a9 w10 g11 S12 => ?_
 refine wpList_nil (then_normal ?_)
 refine wp_seq ?_
 refine st_monoA S12 12 [?_, ?_, ?_, ?_, ?_, ?_, ?_, ?_, ?_, ?_, ?_, ?_] [(true, 10), (false, 0), (false, 1)] ⟨?_, ?_, ?_, ?_, ?_, ?_, ?_, ?_, ?_, ?_, ?_, ?_, trivial⟩ (L' := [(14, ?_), (2, ?_), (1, ?_)]) ?_ fun O a13 w14 hw hO hX S15 A16 => ?_
 rotate_left 15
 · exact opV S12 fun c => fa_Interval_0 rfl (c.q 1 rfl)
 · exact opP S12 fun c => ld_part rfl (c.e 0 rfl) (c.bx 1 rfl).lo Tryz.underlying26 info_Rat
 · exact opV S12 fun c => fa_Interval_0 rfl (c.q 1 rfl)
 · exact opP S12 fun c => ld_part rfl (c.e 0 rfl) (c.bx 1 rfl).lo Tryz.underlying26 info_Rat
 · exact opC S12 rfl fun c B => ⟨_, args_2 rfl rfl, (r_mul (by omega) (by omega) (c.h 0 rfl) (c.h 1 rfl))⟩
 · exact opV S12 fun c => fa_Interval_1 rfl (c.q 1 rfl)
 · exact opP S12 fun c => ld_part rfl (c.e 0 rfl) (c.bx 1 rfl).hi Tryz.underlying26 info_Rat
 · exact opV S12 fun c => fa_Interval_1 rfl (c.q 1 rfl)
 · exact opP S12 fun c => ld_part rfl (c.e 0 rfl) (c.bx 1 rfl).hi Tryz.underlying26 info_Rat
 · exact opC S12 rfl fun c B => ⟨_, args_2 rfl rfl, (r_mul (by omega) (by omega) (c.h 0 rfl) (c.h 1 rfl))⟩
 · exact opC S12 rfl fun c B => ⟨_, args_2 rfl rfl, (r4_make  (by omega) (by omega) (isC.r (c.h 0 rfl)) (isC.r (c.h 1 rfl)) c.ob)⟩
 · exact opA S12 zero_Interval fun _ _ _ => bx_Interval
 · exact ⟨by rfl, by rfl⟩
 obtain ⟨g17, e19, e19a, e19b, e19x⟩ := A16.g 11 rfl rfl
 have S18 := (S15.add (q := .box g17 37 6 mTop) (fun _ h => by cases h; exact ⟨hO _ ⟨e19a, e19b⟩, Nat.le_trans hw e19a⟩) e19x (fun p hp x h => by cases h; exact hX p hp _ e19a)).new e19
 refine t_sto S18 0 1 0 rfl (fun h => (mP.cv (fun _ h => (isC.cv h)) (fun _ h => (isC.cv h)) h)) (fun w20 S21 => ?_) info_Interval
 refine wpList_nil (then_normal ?_)
 refine wp_seq ?_
 refine wp_seq ?_
 refine st_seq S21 3 [?_, ?_, ?_] [(true, 2), (false, 0), (false, 2)] ⟨?_, ?_, ?_, trivial⟩ (L' := [(17, ?_), (3, ?_), (2, ?_)]) ?_ fun a22 w23 S24 => ?_
 rotate_left 6
 · exact opL S21 2 Tryz.underlying37 info_Interval fun c => (c.q 3 rfl)
 · exact opC S21 rfl fun c B => ⟨_, args_1 rfl, (r4_sign  (by omega) (c.h 0 rfl) c.ob)⟩
 · exact opV S21 fun c => run_eql rfl (c.e 0 rfl) rfl
 · rfl
 refine wpList_nil (then_normal ?_)
 refine cond_b _ (ev (S24.sl 0 rfl)) (fun hb26 => ?_) (fun hb26 => ?_)
 ·have hb26p := of_decide_eq_true hb26
  refine st_seq S24 2 [?_, ?_] [(true, 0), (true, 1), (false, 1), (false, 2)] ⟨?_, ?_, trivial⟩ (L' := [(18, ?_), (19, ?_), (3, ?_), (2, ?_)]) ?_ fun a27 w28 S29 => ?_
  rotate_left 6
  · exact opC S24 rfl fun c B => ⟨_, args_1 rfl, (r_of (0) (by omega) (by omega))⟩
  · exact opV S24 fun c => fa_Interval_0 rfl (c.q 1 rfl)
  · rfl
  refine t_sto_lo S29 1 0 0 rfl isC.cv (fun w31 S32 => ?_) info_Rat
  refine wpList_nil (then_normal ?_)
  refine wp_seq ?_
  refine st_seq S32 1 [?_] [(true, 0), (false, 3)] ⟨?_, trivial⟩ (L' := [(20, ?_), (2, ?_)]) ?_ fun a33 w34 S35 => ?_
  rotate_left 3
  · exact opL S32 0 Tryz.underlying37 info_Interval fun c => (c.q 2 rfl)
  · rfl
  refine t_sto S35 1 0 1 rfl (fun h => (mP.cv (fun _ h => (isC.cv h)) (fun _ h => (isC.cv h)) h)) (fun w37 S38 => ?_) info_Interval
  refine wpList_nil (then_normal ?_)
  refine wp_ret ?_
  exact st_end S38 1 1 rfl Tryz.underlying37 info_Interval fun v h => (by first | (rw [sq_t (by assumption)]; exact mP_imp (fun _ h => isC.mono h (by omega)) (fun _ h => isC.mono h (by omega)) h) | (rw [sq_f (by assumption)]; exact mP_imp (fun _ h => isC.mono h (by omega)) (fun _ h => isC.mono h (by omega)) h))
 ·have hb26p := of_decide_eq_false hb26
  refine wp_skip (then_normal ?_)
  refine wp_seq ?_
  refine st_seq S24 1 [?_] [(true, 0), (false, 2)] ⟨?_, trivial⟩ (L' := [(20, ?_), (2, ?_)]) ?_ fun a39 w40 S41 => ?_
  rotate_left 3
  · exact opL S24 0 Tryz.underlying37 info_Interval fun c => (c.q 1 rfl)
  · rfl
  refine t_sto S41 1 0 1 rfl (fun h => (mP.cv (fun _ h => (isC.cv h)) (fun _ h => (isC.cv h)) h)) (fun w43 S44 => ?_) info_Interval
  refine wpList_nil (then_normal ?_)
  refine wp_ret ?_
  exact st_end S44 1 1 rfl Tryz.underlying37 info_Interval fun v h => (by first | (rw [sq_t (by assumption)]; exact mP_imp (fun _ h => isC.mono h (by omega)) (fun _ h => isC.mono h (by omega)) h) | (rw [sq_f (by assumption)]; exact mP_imp (fun _ h => isC.mono h (by omega)) (fun _ h => isC.mono h (by omega)) h))

theorem r4_hull {p0 q0 : Rat} {k0 : Nat} {p1 q1 : Rat} {k1 : Nat} {v0 : Value} {v1 : Value} {w : World} {O : Bs} (hk0 : k0 ≤ 9999) (hk1 : k1 ≤ 9999) (pf0 : (mP (mR (p0) (k0)) (mR (q0) (k0))).S O w v0) (pf1 : (mP (mR (p1) (k1)) (mR (q1) (k1))).S O w v1) (ho : OB O w) :
    Calls Tryz.prog 56 #[v0, v1] w (RetM (mP (mC (mnQ (mnQ (p0) (q0)) (mnQ (p1) (q1))) (k0 + k0 + k1 + k1 + 5)) (mC (mxQ (mxQ (p0) (q0)) (mxQ (p1) (q1))) (k0 + k0 + k1 + k1 + 5))) O w) := by
 refine st_start 20 Tryz.func56 [(mP (mR (p0) (k0)) (mR (q0) (k0))), (mP (mR (p1) (k1)) (mR (q1) (k1)))] ⟨pf0, pf1, trivial⟩ ho fun a S => ?_
 refine wp_seq ?_
 refine st_seq S 0 [] [(false, 0), (false, 1)] trivial (L' := [(0, ?_), (1, ?_)]) ?_ fun a1 w2 S3 => ?_
 rotate_left 2
 · rfl
 refine t_box S3 0 rfl (fun h => (mP.cv (fun _ h => (isR.cv h)) (fun _ h => (isR.cv h)) h)) fun O a5 w6 g7 S8 => ?_
 refine t_box S8 2 rfl (fun h => (mP.cv (fun _ h => (isR.cv h)) (fun _ h => (isR.cv h)) h)) fun O a9 w10 g11 S12 => ?_
 refine t_alloc S12 zero_Interval (fun _ _ _ => bx_Interval) fun O a13 w14 g15 S16 => ?_
 refine wpList_nil (then_normal ?_)
 refine wp_seq ?_
 refine st_mono S16 4 [?_, ?_, ?_, ?_] [(true, 1), (true, 3), (false, 0), (false, 1), (false, 2)] ⟨?_, ?_, ?_, ?_, trivial⟩ (L' := [(6, ?_), (8, ?_), (4, ?_), (3, ?_), (2, ?_)]) ?_ fun a17 w18 S19 => ?_
 rotate_left 9
 · exact opL S16 2 Tryz.underlying37 info_Interval fun c => (c.q 2 rfl)
 · exact opC S16 rfl fun c B => ⟨_, args_1 rfl, (r4_trim  (by omega) (c.h 0 rfl) c.ob)⟩
 · exact opL S16 1 Tryz.underlying37 info_Interval fun c => (c.q 1 rfl)
 · exact opC S16 rfl fun c B => ⟨_, args_1 rfl, (r4_trim  (by omega) (c.h 0 rfl) c.ob)⟩
 · rfl
 refine t_sto S19 4 0 2 rfl (fun h => (mP.cv (fun _ h => (isC.cv h)) (fun _ h => (isC.cv h)) h)) (fun w21 S22 => ?_) info_Interval
 refine t_sto S22 3 1 1 rfl (fun h => (mP.cv (fun _ h => (isC.cv h)) (fun _ h => (isC.cv h)) h)) (fun w23 S24 => ?_) info_Interval
 refine wpList_nil (then_normal ?_)
 refine wp_seq ?_
 refine st_mono S24 11 [?_, ?_, ?_, ?_, ?_, ?_, ?_, ?_, ?_, ?_, ?_] [(true, 10), (false, 2)] ⟨?_, ?_, ?_, ?_, ?_, ?_, ?_, ?_, ?_, ?_, ?_, trivial⟩ (L' := [(19, ?_), (4, ?_)]) ?_ fun a25 w26 S27 => ?_
 rotate_left 13
 · exact opV S24 fun c => fa_Interval_0 rfl (c.q 4 rfl)
 · exact opP S24 fun c => ld_part rfl (c.e 0 rfl) (c.bx 2 rfl).lo Tryz.underlying26 info_Rat
 · exact opV S24 fun c => fa_Interval_0 rfl (c.q 3 rfl)
 · exact opP S24 fun c => ld_part rfl (c.e 0 rfl) (c.bx 1 rfl).lo Tryz.underlying26 info_Rat
 · exact opC S24 rfl fun c B => ⟨_, args_2 rfl rfl, (r3_min  (by omega) (by omega) (isC.r (c.h 0 rfl)) (isC.r (c.h 1 rfl)) c.ob)⟩
 · exact opV S24 fun c => fa_Interval_1 rfl (c.q 4 rfl)
 · exact opP S24 fun c => ld_part rfl (c.e 0 rfl) (c.bx 2 rfl).hi Tryz.underlying26 info_Rat
 · exact opV S24 fun c => fa_Interval_1 rfl (c.q 3 rfl)
 · exact opP S24 fun c => ld_part rfl (c.e 0 rfl) (c.bx 1 rfl).hi Tryz.underlying26 info_Rat
 · exact opC S24 rfl fun c B => ⟨_, args_2 rfl rfl, (r3_max  (by omega) (by omega) (isC.r (c.h 0 rfl)) (isC.r (c.h 1 rfl)) c.ob)⟩
 · exact opP S24 fun c => bld_pair rfl (c.h 0 rfl) (c.h 1 rfl) (isC.cv (c.h 0 rfl)) (isC.cv (c.h 1 rfl))
 · rfl
 refine t_sto S27 1 0 0 rfl (fun h => (mP.cv (fun _ h => (isC.cv h)) (fun _ h => (isC.cv h)) h)) (fun w29 S30 => ?_) info_Interval
 refine wpList_nil (then_normal ?_)
 refine wp_ret ?_
 exact st_end S30 1 0 rfl Tryz.underlying37 info_Interval fun v h => (mP_imp (fun _ h => isC.mono h (by omega)) (fun _ h => isC.mono h (by omega)) h)
end Go.Proofs.YtiljjhhkklnlgaaGreatDoor

namespace Go.Proofs.YtiljjhhkklnlgaaGreatDoor
open Go.RowKit Num

def inQ (x lo hi : Rat) : Prop := lo ≤ x ∧ x ≤ hi
end Go.Proofs.YtiljjhhkklnlgaaGreatDoor

namespace Go.Proofs.YtiljjhhkklnlgaaGreatDoor
open Go.RowKit Num

set_option maxRecDepth 100000
set_option maxHeartbeats 2000000
theorem r4_sameC {p q : Rat} {k m : Nat} {v0 : Value} {v1 : Value} {w : World} {O : Bs}  (pf0 : (mP (mC (p) (k)) (mC (q) (k))).S O w v0) (pf1 : (mP (mC (p) (m)) (mC (q) (m))).S O w v1) (ho : OB O w) :
    Calls Tryz.prog 27 #[v0, v1] w (RetM (mV (.bool (true))) O w) := by
 refine st_start 17 Tryz.func27 [(mP (mC (p) (k)) (mC (q) (k))), (mP (mC (p) (m)) (mC (q) (m)))] ⟨pf0, pf1, trivial⟩ ho fun a S => ?_
 refine wp_seq ?_
 refine st_seq S 0 [] [(false, 0), (false, 1)] trivial (L' := [(0, ?_), (1, ?_)]) ?_ fun a1 w2 S3 => ?_
 rotate_left 2
 · rfl
 refine t_box S3 0 rfl (fun h => (mP.cv (fun _ h => (isC.cv h)) (fun _ h => (isC.cv h)) h)) fun O a5 w6 g7 S8 => ?_
 refine t_box S8 2 rfl (fun h => (mP.cv (fun _ h => (isC.cv h)) (fun _ h => (isC.cv h)) h)) fun O a9 w10 g11 S12 => ?_
 refine t_asgC S12 fun a13 S14 => ?_
 refine wpList_nil (then_normal ?_)
 refine wp_seq ?_
 refine st_seq S14 12 [?_, ?_, ?_, ?_, ?_, ?_, ?_, ?_, ?_, ?_, ?_, ?_] [(true, 11), (false, 0)] ⟨?_, ?_, ?_, ?_, ?_, ?_, ?_, ?_, ?_, ?_, ?_, ?_, trivial⟩ (L' := [(16, ?_), (4, ?_)]) ?_ fun a15 w16 S17 => ?_
 rotate_left 14
 · exact opV S14 fun c => fa_Interval_0 rfl (c.q 2 rfl)
 · exact opP S14 fun c => ld_part rfl (c.e 0 rfl) (c.bx 1 rfl).lo Tryz.underlying26 info_Rat
 · exact opV S14 fun c => fa_Interval_0 rfl (c.q 1 rfl)
 · exact opP S14 fun c => ld_part rfl (c.e 0 rfl) (c.bx 0 rfl).lo Tryz.underlying26 info_Rat
 · exact opC S14 rfl fun c B => ⟨_, args_2 rfl rfl, (r_sameC (c.h 0 rfl) (c.h 1 rfl))⟩
 · exact opV S14 fun c => run_v (run_move rfl) (c.e 0 rfl)
 · exact opT S14 0 (opV S14 fun c => fa_Interval_1 rfl (c.q 2 rfl))
 · exact opT S14 1 (opP S14 fun c => ld_part rfl (c.e 0 rfl) (c.bx 1 rfl).hi Tryz.underlying26 info_Rat)
 · exact opT S14 0 (opV S14 fun c => fa_Interval_1 rfl (c.q 1 rfl))
 · exact opT S14 1 (opP S14 fun c => ld_part rfl (c.e 0 rfl) (c.bx 0 rfl).hi Tryz.underlying26 info_Rat)
 · exact opT S14 2 (opC S14 rfl fun c B => ⟨_, args_2 rfl rfl, (r_sameC (c.h 0 rfl) (c.h 1 rfl))⟩)
 · exact opE S14 fun c => ⟨_, run_pick rfl (c.e 0 rfl), pick_and (fun _ => (c.e 1 rfl))⟩
 · rfl
 refine t_asg S17 0 fun a19 S20 => ?_
 refine wpList_nil (then_normal ?_)
 refine wp_ret ?_
 exact st_endT S20 0 rfl fun v h => h

theorem r4_sameE {p q : Rat} {e : Int} {k m : Nat} {v0 : Value} {v1 : Value} {w : World} {O : Bs}  (pf0 : (mP (mE (p) (e) (k)) (mE (q) (e) (k))).S O w v0) (pf1 : (mP (mE (p) (e) (m)) (mE (q) (e) (m))).S O w v1) (ho : OB O w) :
    Calls Tryz.prog 27 #[v0, v1] w (RetM (mV (.bool (true))) O w) := by
 refine st_start 17 Tryz.func27 [(mP (mE (p) (e) (k)) (mE (q) (e) (k))), (mP (mE (p) (e) (m)) (mE (q) (e) (m)))] ⟨pf0, pf1, trivial⟩ ho fun a S => ?_
 refine wp_seq ?_
 refine st_seq S 0 [] [(false, 0), (false, 1)] trivial (L' := [(0, ?_), (1, ?_)]) ?_ fun a1 w2 S3 => ?_
 rotate_left 2
 · rfl
 refine t_box S3 0 rfl (fun h => (mP.cv (fun _ h => (isE.cv h)) (fun _ h => (isE.cv h)) h)) fun O a5 w6 g7 S8 => ?_
 refine t_box S8 2 rfl (fun h => (mP.cv (fun _ h => (isE.cv h)) (fun _ h => (isE.cv h)) h)) fun O a9 w10 g11 S12 => ?_
 refine t_asgC S12 fun a13 S14 => ?_
 refine wpList_nil (then_normal ?_)
 refine wp_seq ?_
 refine st_seq S14 12 [?_, ?_, ?_, ?_, ?_, ?_, ?_, ?_, ?_, ?_, ?_, ?_] [(true, 11), (false, 0)] ⟨?_, ?_, ?_, ?_, ?_, ?_, ?_, ?_, ?_, ?_, ?_, ?_, trivial⟩ (L' := [(16, ?_), (4, ?_)]) ?_ fun a15 w16 S17 => ?_
 rotate_left 14
 · exact opV S14 fun c => fa_Interval_0 rfl (c.q 2 rfl)
 · exact opP S14 fun c => ld_part rfl (c.e 0 rfl) (c.bx 1 rfl).lo Tryz.underlying26 info_Rat
 · exact opV S14 fun c => fa_Interval_0 rfl (c.q 1 rfl)
 · exact opP S14 fun c => ld_part rfl (c.e 0 rfl) (c.bx 0 rfl).lo Tryz.underlying26 info_Rat
 · exact opC S14 rfl fun c B => ⟨_, args_2 rfl rfl, (r_sameE (c.h 0 rfl) (c.h 1 rfl))⟩
 · exact opV S14 fun c => run_v (run_move rfl) (c.e 0 rfl)
 · exact opT S14 0 (opV S14 fun c => fa_Interval_1 rfl (c.q 2 rfl))
 · exact opT S14 1 (opP S14 fun c => ld_part rfl (c.e 0 rfl) (c.bx 1 rfl).hi Tryz.underlying26 info_Rat)
 · exact opT S14 0 (opV S14 fun c => fa_Interval_1 rfl (c.q 1 rfl))
 · exact opT S14 1 (opP S14 fun c => ld_part rfl (c.e 0 rfl) (c.bx 0 rfl).hi Tryz.underlying26 info_Rat)
 · exact opT S14 2 (opC S14 rfl fun c B => ⟨_, args_2 rfl rfl, (r_sameE (c.h 0 rfl) (c.h 1 rfl))⟩)
 · exact opE S14 fun c => ⟨_, run_pick rfl (c.e 0 rfl), pick_and (fun _ => (c.e 1 rfl))⟩
 · rfl
 refine t_asg S17 0 fun a19 S20 => ?_
 refine wpList_nil (then_normal ?_)
 refine wp_ret ?_
 exact st_endT S20 0 rfl fun v h => h

theorem r4_sameK {p q r s : Rat} {k m : Nat} {x y : Bool} {v0 : Value} {v1 : Value} {w : World} {O : Bs}  (pf0 : (mP (mK (p) (k) (x)) (mK (q) (k) (y))).S O w v0) (pf1 : (mP (mC (r) (m)) (mC (s) (m))).S O w v1) (ho : OB O w) :
    Calls Tryz.prog 27 #[v0, v1] w (RetM (mV (.bool (((x) && decide (p = r)) && ((y) && decide (q = s))))) O w) := by
 refine st_start 17 Tryz.func27 [(mP (mK (p) (k) (x)) (mK (q) (k) (y))), (mP (mC (r) (m)) (mC (s) (m)))] ⟨pf0, pf1, trivial⟩ ho fun a S => ?_
 refine wp_seq ?_
 refine st_seq S 0 [] [(false, 0), (false, 1)] trivial (L' := [(0, ?_), (1, ?_)]) ?_ fun a1 w2 S3 => ?_
 rotate_left 2
 · rfl
 refine t_box S3 0 rfl (fun h => (mP.cv (fun _ h => (isK.cv h)) (fun _ h => (isK.cv h)) h)) fun O a5 w6 g7 S8 => ?_
 refine t_box S8 2 rfl (fun h => (mP.cv (fun _ h => (isC.cv h)) (fun _ h => (isC.cv h)) h)) fun O a9 w10 g11 S12 => ?_
 refine t_asgC S12 fun a13 S14 => ?_
 refine wpList_nil (then_normal ?_)
 refine wp_seq ?_
 refine st_seq S14 12 [?_, ?_, ?_, ?_, ?_, ?_, ?_, ?_, ?_, ?_, ?_, ?_] [(true, 11), (false, 0)] ⟨?_, ?_, ?_, ?_, ?_, ?_, ?_, ?_, ?_, ?_, ?_, ?_, trivial⟩ (L' := [(16, ?_), (4, ?_)]) ?_ fun a15 w16 S17 => ?_
 rotate_left 14
 · exact opV S14 fun c => fa_Interval_0 rfl (c.q 2 rfl)
 · exact opP S14 fun c => ld_part rfl (c.e 0 rfl) (c.bx 1 rfl).lo Tryz.underlying26 info_Rat
 · exact opV S14 fun c => fa_Interval_0 rfl (c.q 1 rfl)
 · exact opP S14 fun c => ld_part rfl (c.e 0 rfl) (c.bx 0 rfl).lo Tryz.underlying26 info_Rat
 · exact opC S14 rfl fun c B => ⟨_, args_2 rfl rfl, (r_same (c.h 0 rfl) (c.h 1 rfl))⟩
 · exact opV S14 fun c => run_v (run_move rfl) (c.e 0 rfl)
 · exact opG S14 0 (fun hγ => opV S14 fun c => fa_Interval_1 rfl (c.q 2 rfl)) gT
 · exact opG S14 1 (fun hγ => opP S14 fun c => ld_part rfl (ev (c.h 0 rfl hγ)) (c.bx 1 rfl).hi Tryz.underlying26 info_Rat) gT
 · exact opG S14 0 (fun hγ => opV S14 fun c => fa_Interval_1 rfl (c.q 1 rfl)) gT
 · exact opG S14 1 (fun hγ => opP S14 fun c => ld_part rfl (ev (c.h 0 rfl hγ)) (c.bx 0 rfl).hi Tryz.underlying26 info_Rat) gT
 · exact opG S14 2 (fun hγ => opC S14 rfl fun c B => ⟨_, args_2 rfl rfl, (r_same (c.h 0 rfl hγ) (c.h 1 rfl hγ))⟩) gT
 · exact opE S14 fun c => ⟨_, run_pick rfl (c.e 0 rfl), pick_and (c.h 1 rfl)⟩
 · rfl
 refine t_asg S17 0 fun a19 S20 => ?_
 refine wpList_nil (then_normal ?_)
 refine wp_ret ?_
 exact st_endT S20 0 rfl fun v h => h

theorem r4_valid {p q : Rat} {k : Nat} {x y : Bool} {v0 : Value} {w : World} {O : Bs} (hk : k ≤ 9999) (pf0 : (mP (mK (p) (k) (x)) (mK (q) (k) (y))).S O w v0) (ho : OB O w) :
    Calls Tryz.prog 29 #[v0] w (RetM (mV (.bool (((x) && (y)) && (!(decide ((q) < (p))))))) O w) := by
 refine st_start 7 Tryz.func29 [(mP (mK (p) (k) (x)) (mK (q) (k) (y)))] ⟨pf0, trivial⟩ ho fun a S => ?_
 refine wp_seq ?_
 refine st_seq S 0 [] [(false, 0)] trivial (L' := [(0, ?_)]) ?_ fun a1 w2 S3 => ?_
 rotate_left 1
 · rfl
 refine t_box S3 0 rfl (fun h => (mP.cv (fun _ h => (isK.cv h)) (fun _ h => (isK.cv h)) h)) fun O a5 w6 g7 S8 => ?_
 refine t_asgC S8 fun a9 S10 => ?_
 refine wpList_nil (then_normal ?_)
 refine wp_seq ?_
 refine st_mono S10 4 [?_, ?_, ?_, ?_] [(true, 3), (false, 0)] ⟨?_, ?_, ?_, ?_, trivial⟩ (L' := [(6, ?_), (2, ?_)]) ?_ fun a11 w12 S13 => ?_
 rotate_left 6
 · exact opL S10 0 Tryz.underlying37 info_Interval fun c => (c.q 1 rfl)
 · exact opL S10 0 Tryz.underlying37 info_Interval fun c => (c.q 1 rfl)
 · exact opC S10 rfl fun c B => ⟨_, args_1 rfl, (r4_trim  (by omega) (prK (c.h 0 rfl)) c.ob)⟩
 · exact opC S10 rfl fun c B => ⟨_, args_2 rfl rfl, (r4_sameK (c.h 0 rfl) (c.h 1 rfl) c.ob)⟩
 · rfl
 refine t_asg S13 0 fun a15 S16 => ?_
 refine wpList_nil (then_normal ?_)
 refine wp_ret ?_
 exact st_endT S16 0 rfl fun v h => (h).trans (by rw [va_eq])

theorem r4_meet {p0 q0 : Rat} {k0 : Nat} {p1 q1 : Rat} {k1 : Nat} {v0 : Value} {v1 : Value} {w : World} {O : Bs} (hk0 : k0 ≤ 9999) (hk1 : k1 ≤ 9999) (pf0 : (mP (mR (p0) (k0)) (mR (q0) (k0))).S O w v0) (pf1 : (mP (mR (p1) (k1)) (mR (q1) (k1))).S O w v1) (ho : OB O w) :
    Calls Tryz.prog 26 #[v0, v1] w (RetM (mT (mP (mE (mxQ (mnQ (p0) (q0)) (mnQ (p1) (q1))) (meE (mxQ (mnQ (p0) (q0)) (mnQ (p1) (q1))) (mnQ (mxQ (p0) (q0)) (mxQ (p1) (q1)))) (k0 + k1 + k0 + k1 + 3)) (mE (mnQ (mxQ (p0) (q0)) (mxQ (p1) (q1))) (meE (mxQ (mnQ (p0) (q0)) (mnQ (p1) (q1))) (mnQ (mxQ (p0) (q0)) (mxQ (p1) (q1)))) (k0 + k1 + k0 + k1 + 3))) (mV (.bool (decide (meE (mxQ (mnQ (p0) (q0)) (mnQ (p1) (q1))) (mnQ (mxQ (p0) (q0)) (mxQ (p1) (q1))) = 0))))) O w) := by
 refine st_start 29 Tryz.func26 [(mP (mR (p0) (k0)) (mR (q0) (k0))), (mP (mR (p1) (k1)) (mR (q1) (k1)))] ⟨pf0, pf1, trivial⟩ ho fun a S => ?_
 refine wp_seq ?_
 refine st_seq S 0 [] [(false, 0), (false, 1)] trivial (L' := [(0, ?_), (1, ?_)]) ?_ fun a1 w2 S3 => ?_
 rotate_left 2
 · rfl
 refine t_box S3 0 rfl (fun h => (mP.cv (fun _ h => (isR.cv h)) (fun _ h => (isR.cv h)) h)) fun O a5 w6 g7 S8 => ?_
 refine t_box S8 2 rfl (fun h => (mP.cv (fun _ h => (isR.cv h)) (fun _ h => (isR.cv h)) h)) fun O a9 w10 g11 S12 => ?_
 refine t_alloc S12 zero_Interval (fun _ _ _ => bx_Interval) fun O a13 w14 g15 S16 => ?_
 refine t_asgC S16 fun a17 S18 => ?_
 refine wpList_nil (then_normal ?_)
 refine wp_seq ?_
 refine st_mono S18 4 [?_, ?_, ?_, ?_] [(true, 1), (true, 3), (false, 0), (false, 1), (false, 2), (false, 3)] ⟨?_, ?_, ?_, ?_, trivial⟩ (L' := [(9, ?_), (11, ?_), (5, ?_), (4, ?_), (3, ?_), (2, ?_)]) ?_ fun a19 w20 S21 => ?_
 rotate_left 10
 · exact opL S18 2 Tryz.underlying37 info_Interval fun c => (c.q 3 rfl)
 · exact opC S18 rfl fun c B => ⟨_, args_1 rfl, (r4_trim  (by omega) (c.h 0 rfl) c.ob)⟩
 · exact opL S18 1 Tryz.underlying37 info_Interval fun c => (c.q 2 rfl)
 · exact opC S18 rfl fun c B => ⟨_, args_1 rfl, (r4_trim  (by omega) (c.h 0 rfl) c.ob)⟩
 · rfl
 refine t_sto S21 5 0 2 rfl (fun h => (mP.cv (fun _ h => (isC.cv h)) (fun _ h => (isC.cv h)) h)) (fun w23 S24 => ?_) info_Interval
 refine t_sto S24 4 1 1 rfl (fun h => (mP.cv (fun _ h => (isC.cv h)) (fun _ h => (isC.cv h)) h)) (fun w25 S26 => ?_) info_Interval
 refine wpList_nil (then_normal ?_)
 refine wp_seq ?_
 refine st_monoA S26 12 [?_, ?_, ?_, ?_, ?_, ?_, ?_, ?_, ?_, ?_, ?_, ?_] [(true, 4), (true, 9), (false, 2), (false, 3)] ⟨?_, ?_, ?_, ?_, ?_, ?_, ?_, ?_, ?_, ?_, ?_, ?_, trivial⟩ (L' := [(16, ?_), (21, ?_), (5, ?_), (4, ?_)]) ?_ fun O a27 w28 hw hO hX S29 A30 => ?_
 rotate_left 16
 · exact opV S26 fun c => fa_Interval_0 rfl (c.q 5 rfl)
 · exact opP S26 fun c => ld_part rfl (c.e 0 rfl) (c.bx 2 rfl).lo Tryz.underlying26 info_Rat
 · exact opV S26 fun c => fa_Interval_0 rfl (c.q 4 rfl)
 · exact opP S26 fun c => ld_part rfl (c.e 0 rfl) (c.bx 1 rfl).lo Tryz.underlying26 info_Rat
 · exact opC S26 rfl fun c B => ⟨_, args_2 rfl rfl, (r3_max  (by omega) (by omega) (isC.r (c.h 0 rfl)) (isC.r (c.h 1 rfl)) c.ob)⟩
 · exact opV S26 fun c => fa_Interval_1 rfl (c.q 5 rfl)
 · exact opP S26 fun c => ld_part rfl (c.e 0 rfl) (c.bx 2 rfl).hi Tryz.underlying26 info_Rat
 · exact opV S26 fun c => fa_Interval_1 rfl (c.q 4 rfl)
 · exact opP S26 fun c => ld_part rfl (c.e 0 rfl) (c.bx 1 rfl).hi Tryz.underlying26 info_Rat
 · exact opC S26 rfl fun c B => ⟨_, args_2 rfl rfl, (r3_min  (by omega) (by omega) (isC.r (c.h 0 rfl)) (isC.r (c.h 1 rfl)) c.ob)⟩
 · exact opA S26 zero_Rat fun _ _ _ => bx_Rat
 · exact opA S26 zero_Rat fun _ _ _ => bx_Rat
 · exact ⟨by rfl, by rfl⟩
 obtain ⟨g31, e33, e33a, e33b, e33x⟩ := A30.g 10 rfl rfl
 have S32 := (S29.add (q := .box g31 26 3 mTop) (fun _ h => by cases h; exact ⟨hO _ ⟨e33a, e33b⟩, Nat.le_trans hw e33a⟩) e33x (fun p hp x h => by cases h; exact hX p hp _ e33a)).new e33
 obtain ⟨g34, e36, e36a, e36b, e36x⟩ := A30.g 11 rfl rfl
 have S35 := (S32.add (q := .box g34 26 3 mTop) (fun _ h => by cases h; exact ⟨hO _ ⟨e36a, e36b⟩, Nat.le_trans hw e36a⟩) e36x (fun p hp x h => by
   cases h
   rcases List.mem_cons.1 hp with rfl | hp
   · exact fun h => (fun h => A30.ne 11 10 rfl rfl (by decide) (by rw [e36, e33, h])) (Option.some.inj h).symm
   exact hX p hp _ e36a)).new e36
 refine t_sto S35 1 2 1 rfl isC.cv (fun w37 S38 => ?_) info_Rat
 refine t_sto S38 0 3 0 rfl isC.cv (fun w39 S40 => ?_) info_Rat
 refine wpList_nil (then_normal ?_)
 refine wp_seq ?_
 refine wp_seq ?_
 refine st_seq S40 3 [?_, ?_, ?_] [(true, 2), (false, 0), (false, 1), (false, 4), (false, 5)] ⟨?_, ?_, ?_, trivial⟩ (L' := [(24, ?_), (7, ?_), (6, ?_), (5, ?_), (4, ?_)]) ?_ fun a41 w42 S43 => ?_
 rotate_left 8
 · exact opL S40 0 Tryz.underlying26 info_Rat fun c => (c.q 0 rfl)
 · exact opL S40 1 Tryz.underlying26 info_Rat fun c => (c.q 1 rfl)
 · exact opC S40 rfl fun c B => ⟨_, args_2 rfl rfl, (r_less (by omega) (by omega) (isC.r (c.h 0 rfl)) (isC.r (c.h 1 rfl)))⟩
 · rfl
 refine wpList_nil (then_normal ?_)
 refine cond_b _ (ev (S43.sl 0 rfl)) (fun hb45 => ?_) (fun hb45 => ?_)
 ·have hb45p := of_decide_eq_true hb45
  refine wp_seq ?_
  refine st_seq S43 1 [?_] [(true, 0), (false, 1), (false, 2), (false, 3), (false, 4)] ⟨?_, trivial⟩ (L' := [(25, ?_), (7, ?_), (6, ?_), (5, ?_), (4, ?_)]) ?_ fun a46 w47 S48 => ?_
  rotate_left 6
  · exact opP S43 fun c => bld_z6 rfl
  · rfl
  refine t_sto S48 4 0 2 rfl (fun h => (mP.cv (fun _ h => (isZ.cv h)) (fun _ h => (isZ.cv h)) h)) (fun w50 S51 => ?_) info_Interval
  refine t_asgC S51 fun a52 S53 => ?_
  refine wpList_nil (then_normal ?_)
  refine wp_ret ?_
  exact st_end2 S53 4 2 0 rfl rfl Tryz.underlying37 info_Interval fun v u h h2 => ⟨v, u, rfl, (by first | exact mP_imp (fun _ h => isZ.e (by rw [meE_t' (by assumption)]; decide) h) (fun _ h => isZ.e (by rw [meE_t' (by assumption)]; decide) h) h | ( exact mP_imp (fun _ h => isE.mono (isC.e (meE_f' (by assumption)) h) (by omega)) (fun _ h => isE.mono (isC.e (meE_f' (by assumption)) h) (by omega)) h)), (h2).trans (by first | (rw [meE_t' (by assumption)]; rfl) | (rw [meE_f' (by assumption)]; rfl))⟩
 ·have hb45p := of_decide_eq_false hb45
  refine wp_skip (then_normal ?_)
  refine wp_seq ?_
  refine st_seq S43 3 [?_, ?_, ?_] [(true, 2), (false, 3), (false, 4)] ⟨?_, ?_, ?_, trivial⟩ (L' := [(28, ?_), (5, ?_), (4, ?_)]) ?_ fun a54 w55 S56 => ?_
  rotate_left 6
  · exact opL S43 1 Tryz.underlying26 info_Rat fun c => (c.q 2 rfl)
  · exact opL S43 0 Tryz.underlying26 info_Rat fun c => (c.q 1 rfl)
  · exact opP S43 fun c => bld_pair rfl (c.h 0 rfl) (c.h 1 rfl) (isC.cv (c.h 0 rfl)) (isC.cv (c.h 1 rfl))
  · rfl
  refine t_sto S56 2 0 2 rfl (fun h => (mP.cv (fun _ h => (isC.cv h)) (fun _ h => (isC.cv h)) h)) (fun w58 S59 => ?_) info_Interval
  refine t_asgC S59 fun a60 S61 => ?_
  refine wpList_nil (then_normal ?_)
  refine wp_ret ?_
  exact st_end2 S61 2 2 0 rfl rfl Tryz.underlying37 info_Interval fun v u h h2 => ⟨v, u, rfl, (by first | exact mP_imp (fun _ h => isZ.e (by rw [meE_t' (by assumption)]; decide) h) (fun _ h => isZ.e (by rw [meE_t' (by assumption)]; decide) h) h | ( exact mP_imp (fun _ h => isE.mono (isC.e (meE_f' (by assumption)) h) (by omega)) (fun _ h => isE.mono (isC.e (meE_f' (by assumption)) h) (by omega)) h)), (h2).trans (by first | (rw [meE_t' (by assumption)]; rfl) | (rw [meE_f' (by assumption)]; rfl))⟩

theorem r4_round {p0 q0 : Rat} {k0 : Nat} (j1 : Int) {v0 : Value} {w : World} {O : Bs} (hk0 : k0 ≤ 9999) (hj1a : -9223372036854775808 ≤ j1) (hj1b : j1 ≤ 9223372036854775807) (pf0 : (mP (mR (p0) (k0)) (mR (q0) (k0))).S O w v0) (ho : OB O w) :
    Calls Tryz.prog 38 #[v0, .int .i64 (j1)] w (RetM (mT (mP (mE (dnE (mnQ (p0) (q0)) (j1)) (bitE (j1)) (k0 + k0 + 22)) (mE (upE (mxQ (p0) (q0)) (j1)) (bitE (j1)) (k0 + k0 + 22))) (mV (.int .i64 (bitE (j1))))) O w) := by
 refine st_start 33 Tryz.func38 [(mP (mR (p0) (k0)) (mR (q0) (k0))), (mV (.int .i64 (j1)))] ⟨pf0, rfl, trivial⟩ ho fun a S => ?_
 refine wp_seq ?_
 refine st_seq S 0 [] [(false, 0), (false, 1)] trivial (L' := [(0, ?_), (1, ?_)]) ?_ fun a1 w2 S3 => ?_
 rotate_left 2
 · rfl
 refine t_box S3 0 rfl (fun h => (mP.cv (fun _ h => (isR.cv h)) (fun _ h => (isR.cv h)) h)) fun O a5 w6 g7 S8 => ?_
 refine t_alloc S8 zero_Interval (fun _ _ _ => bx_Interval) fun O a9 w10 g11 S12 => ?_
 refine t_asgC S12 fun a13 S14 => ?_
 refine wpList_nil (then_normal ?_)
 refine wp_seq ?_
 refine st_seq S14 2 [?_, ?_] [(true, 1), (false, 0), (false, 1), (false, 2), (false, 4)] ⟨?_, ?_, trivial⟩ (L' := [(11, ?_), (5, ?_), (4, ?_), (2, ?_), (1, ?_)]) ?_ fun a15 w16 S17 => ?_
 rotate_left 7
 · exact opL S14 1 Tryz.underlying37 info_Interval fun c => (c.q 2 rfl)
 · exact opC S14 rfl fun c B => ⟨_, args_1 rfl, (r4_trim  (by omega) (c.h 0 rfl) c.ob)⟩
 · rfl
 refine t_sto S17 3 0 1 rfl (fun h => (mP.cv (fun _ h => (isC.cv h)) (fun _ h => (isC.cv h)) h)) (fun w19 S20 => ?_) info_Interval
 refine wpList_nil (then_normal ?_)
 refine wp_seq ?_
 refine st_seq S20 7 [?_, ?_, ?_, ?_, ?_, ?_, ?_] [(true, 5), (true, 6), (false, 1), (false, 2), (false, 3), (false, 4)] ⟨?_, ?_, ?_, ?_, ?_, ?_, ?_, trivial⟩ (L' := [(17, ?_), (18, ?_), (5, ?_), (4, ?_), (2, ?_), (1, ?_)]) ?_ fun a21 w22 S23 => ?_
 rotate_left 13
 · exact opV S20 fun c => fa_Interval_0 rfl (c.q 3 rfl)
 · exact opP S20 fun c => ld_part rfl (c.e 0 rfl) (c.bx 1 rfl).lo Tryz.underlying26 info_Rat
 · exact opV S20 fun c => run_v (run_move rfl) (c.q 4 rfl)
 · exact opC S20 rfl fun c B => ⟨_, args_2 rfl (c.e 1 rfl), (r_down (by omega) (j1) (isC.r (c.h 0 rfl)))⟩
 · exact opP S20 fun c => ⟨_, run_move rfl, (c.h 0 rfl)⟩
 · exact opP S20 fun c => ext_0 rfl (c.h 0 rfl)
 · exact opP S20 fun c => ext_1 rfl (c.h 0 rfl)
 · rfl
 refine t_alloc S23 zero_Rat (fun _ _ _ => bx_Rat) fun O a25 w26 g27 S28 => ?_
 refine t_sto S28 0 1 0 rfl isE.cv (fun w29 S30 => ?_) info_Rat
 refine t_asg S30 2 fun a31 S32 => ?_
 refine wpList_nil (then_normal ?_)
 refine wp_seq ?_
 refine wp_seq ?_
 refine st_seq S32 2 [?_, ?_] [(true, 1), (false, 0), (false, 1), (false, 4), (false, 5), (false, 6), (false, 7)] ⟨?_, ?_, trivial⟩ (L' := [(20, ?_), (7, ?_), (6, ?_), (5, ?_), (4, ?_), (2, ?_), (1, ?_)]) ?_ fun a33 w34 S35 => ?_
 rotate_left 9
 · exact opV S32 fun c => run_v (run_move rfl) (c.q 0 rfl)
 · exact opV S32 fun c => run_neq rfl (c.e 0 rfl) rfl
 · rfl
 refine wpList_nil (then_normal ?_)
 refine cond_b _ (ev (S35.sl 0 rfl)) (fun hb37 => ?_) (fun hb37 => ?_)
 ·have hb37p := of_decide_eq_true hb37
  refine wp_seq ?_
  refine st_seq S35 2 [?_, ?_] [(true, 0), (true, 1), (false, 2), (false, 3), (false, 4), (false, 5), (false, 6)] ⟨?_, ?_, trivial⟩ (L' := [(21, ?_), (22, ?_), (6, ?_), (5, ?_), (4, ?_), (2, ?_), (1, ?_)]) ?_ fun a38 w39 S40 => ?_
  rotate_left 9
  · exact opP S35 fun c => bld_z6 rfl
  · exact opV S35 fun c => run_v (run_move rfl) (c.q 1 rfl)
  · rfl
  refine t_sto S40 4 0 1 rfl (fun h => (mP.cv (fun _ h => (isZ.cv h)) (fun _ h => (isZ.cv h)) h)) (fun w42 S43 => ?_) info_Interval
  refine t_asg S43 1 fun a44 S45 => ?_
  refine wpList_nil (then_normal ?_)
  refine wp_ret ?_
  exact st_end2 S45 4 1 0 rfl rfl Tryz.underlying37 info_Interval fun v u h h2 => ⟨v, u, rfl, (by first | exact mP_imp (fun _ h => isZ.e (err_ne (by assumption)) h) (fun _ h => isZ.e (err_ne (by assumption)) h) h | exact mP_imp (fun _ h => isE.mono h (by omega)) (fun _ h => isE.mono h (by omega)) h), (h2).trans (by first | rfl | exact congrArg (Value.int .i64) (err_eq (by assumption)).symm)⟩
 ·have hb37p := of_decide_eq_false hb37
  refine wp_skip (then_normal ?_)
  refine wp_seq ?_
  refine st_seq S35 7 [?_, ?_, ?_, ?_, ?_, ?_, ?_] [(true, 5), (true, 6), (false, 2), (false, 3), (false, 4)] ⟨?_, ?_, ?_, ?_, ?_, ?_, ?_, trivial⟩ (L' := [(28, ?_), (29, ?_), (6, ?_), (5, ?_), (4, ?_)]) ?_ fun a46 w47 S48 => ?_
  rotate_left 12
  · exact opV S35 fun c => fa_Interval_1 rfl (c.q 5 rfl)
  · exact opP S35 fun c => ld_part rfl (c.e 0 rfl) (c.bx 2 rfl).hi Tryz.underlying26 info_Rat
  · exact opV S35 fun c => run_v (run_move rfl) (c.q 6 rfl)
  · exact opC S35 rfl fun c B => ⟨_, args_2 rfl (c.e 1 rfl), (r_up (by omega) (j1) (isC.r (c.h 0 rfl)))⟩
  · exact opP S35 fun c => ⟨_, run_move rfl, (c.h 0 rfl)⟩
  · exact opP S35 fun c => ext_0 rfl (c.h 0 rfl)
  · exact opP S35 fun c => ext_1 rfl (c.h 0 rfl)
  · rfl
  refine t_alloc S48 zero_Rat (fun _ _ _ => bx_Rat) fun O a50 w51 g52 S53 => ?_
  refine t_sto S53 0 1 0 rfl isE.cv (fun w54 S55 => ?_) info_Rat
  refine t_asg S55 2 fun a56 S57 => ?_
  refine wpList_nil (then_normal ?_)
  refine wp_seq ?_
  refine st_seq S57 3 [?_, ?_, ?_] [(true, 2), (false, 5), (false, 6)] ⟨?_, ?_, ?_, trivial⟩ (L' := [(32, ?_), (5, ?_), (4, ?_)]) ?_ fun a58 w59 S60 => ?_
  rotate_left 6
  · exact opL S57 1 Tryz.underlying26 info_Rat fun c => (c.q 4 rfl)
  · exact opL S57 0 Tryz.underlying26 info_Rat fun c => (c.q 1 rfl)
  · exact opP S57 fun c => bld_pair rfl (c.h 0 rfl) (c.h 1 rfl) (isE.cv (c.h 0 rfl)) (isE.cv (c.h 1 rfl))
  · rfl
  refine t_sto S60 2 0 2 rfl (fun h => (mP.cv (fun _ h => (isE.cv h)) (fun _ h => (isE.cv h)) h)) (fun w62 S63 => ?_) info_Interval
  refine t_asgC S63 fun a64 S65 => ?_
  refine wpList_nil (then_normal ?_)
  refine wp_ret ?_
  exact st_end2 S65 2 2 0 rfl rfl Tryz.underlying37 info_Interval fun v u h h2 => ⟨v, u, rfl, (by first | exact mP_imp (fun _ h => isZ.e (err_ne (by assumption)) h) (fun _ h => isZ.e (err_ne (by assumption)) h) h | exact mP_imp (fun _ h => isE.mono h (by omega)) (fun _ h => isE.mono h (by omega)) h), (h2).trans (by first | rfl | exact congrArg (Value.int .i64) (err_eq (by assumption)).symm)⟩

theorem r4_div {p0 q0 : Rat} {k0 : Nat} {p1 q1 : Rat} {k1 : Nat} {v0 : Value} {v1 : Value} {w : World} {O : Bs} (hk0 : k0 ≤ 300) (hk1 : k1 ≤ 300) (pf0 : (mP (mR (p0) (k0)) (mR (q0) (k0))).S O w v0) (pf1 : (mP (mR (p1) (k1)) (mR (q1) (k1))).S O w v1) (ho : OB O w) :
    Calls Tryz.prog 24 #[v0, v1] w (RetM (mT (mP (mE (mn4 (p0 * mnQ (((1 : Int) : Rat) / (p1)) (((1 : Int) : Rat) / (q1))) (p0 * mxQ (((1 : Int) : Rat) / (p1)) (((1 : Int) : Rat) / (q1))) (q0 * mnQ (((1 : Int) : Rat) / (p1)) (((1 : Int) : Rat) / (q1))) (q0 * mxQ (((1 : Int) : Rat) / (p1)) (((1 : Int) : Rat) / (q1)))) (sgE (p1) (q1)) (k0 + k0 + k0 + k0 + k1 + k1 + k1 + k1 + k1 + k1 + k1 + k1 + k1 + k1 + k1 + k1 + k1 + k1 + k1 + k1 + 200)) (mE (mx4 (p0 * mnQ (((1 : Int) : Rat) / (p1)) (((1 : Int) : Rat) / (q1))) (p0 * mxQ (((1 : Int) : Rat) / (p1)) (((1 : Int) : Rat) / (q1))) (q0 * mnQ (((1 : Int) : Rat) / (p1)) (((1 : Int) : Rat) / (q1))) (q0 * mxQ (((1 : Int) : Rat) / (p1)) (((1 : Int) : Rat) / (q1)))) (sgE (p1) (q1)) (k0 + k0 + k0 + k0 + k1 + k1 + k1 + k1 + k1 + k1 + k1 + k1 + k1 + k1 + k1 + k1 + k1 + k1 + k1 + k1 + 200))) (mV (.int .i64 (sgE (p1) (q1))))) O w) := by
 refine st_start 21 Tryz.func24 [(mP (mR (p0) (k0)) (mR (q0) (k0))), (mP (mR (p1) (k1)) (mR (q1) (k1)))] ⟨pf0, pf1, trivial⟩ ho fun a S => ?_
 refine wp_seq ?_
 refine st_seq S 0 [] [(false, 0), (false, 1)] trivial (L' := [(0, ?_), (1, ?_)]) ?_ fun a1 w2 S3 => ?_
 rotate_left 2
 · rfl
 refine t_box S3 0 rfl (fun h => (mP.cv (fun _ h => (isR.cv h)) (fun _ h => (isR.cv h)) h)) fun O a5 w6 g7 S8 => ?_
 refine t_box S8 2 rfl (fun h => (mP.cv (fun _ h => (isR.cv h)) (fun _ h => (isR.cv h)) h)) fun O a9 w10 g11 S12 => ?_
 refine t_alloc S12 zero_Interval (fun _ _ _ => bx_Interval) fun O a13 w14 g15 S16 => ?_
 refine t_asgC S16 fun a17 S18 => ?_
 refine wpList_nil (then_normal ?_)
 refine wp_seq ?_
 refine wp_seq ?_
 refine st_seq S18 3 [?_, ?_, ?_] [(true, 2), (false, 0), (false, 1), (false, 2), (false, 3)] ⟨?_, ?_, ?_, trivial⟩ (L' := [(8, ?_), (5, ?_), (4, ?_), (3, ?_), (2, ?_)]) ?_ fun a19 w20 S21 => ?_
 rotate_left 8
 · exact opL S18 1 Tryz.underlying37 info_Interval fun c => (c.q 2 rfl)
 · exact opC S18 rfl fun c B => ⟨_, args_1 rfl, (r4_sign  (by omega) (c.h 0 rfl) c.ob)⟩
 · exact opV S18 fun c => run_eql rfl (c.e 0 rfl) rfl
 · rfl
 refine wpList_nil (then_normal ?_)
 refine cond_b _ (ev (S21.sl 0 rfl)) (fun hb23 => ?_) (fun hb23 => ?_)
 ·have hb23p := of_decide_eq_true hb23
  refine wp_seq ?_
  refine st_seq S21 1 [?_] [(true, 0), (false, 1), (false, 2), (false, 3), (false, 4)] ⟨?_, trivial⟩ (L' := [(9, ?_), (5, ?_), (4, ?_), (3, ?_), (2, ?_)]) ?_ fun a24 w25 S26 => ?_
  rotate_left 6
  · exact opP S21 fun c => bld_z6 rfl
  · rfl
  refine t_sto S26 2 0 0 rfl (fun h => (mP.cv (fun _ h => (isZ.cv h)) (fun _ h => (isZ.cv h)) h)) (fun w28 S29 => ?_) info_Interval
  refine t_asgC S29 fun a30 S31 => ?_
  refine wpList_nil (then_normal ?_)
  refine wp_ret ?_
  exact st_end2 S31 2 0 0 rfl rfl Tryz.underlying37 info_Interval fun v u h h2 => ⟨v, u, rfl, (by first | exact mP_imp (fun _ h => isZ.e (by rw [sgE_t (by assumption)]; decide) h) (fun _ h => isZ.e (by rw [sgE_t (by assumption)]; decide) h) h | exact mP_imp (fun _ h => isE.mono (isC.e (sgE_f (by assumption)) h) (by omega)) (fun _ h => isE.mono (isC.e (sgE_f (by assumption)) h) (by omega)) h), (h2).trans (by first | rw [sgE_t (by assumption)] | rw [sgE_f (by assumption)])⟩
 ·have hb23p := of_decide_eq_false hb23
  refine wp_skip (then_normal ?_)
  refine wp_seq ?_
  refine st_mono S21 11 [?_, ?_, ?_, ?_, ?_, ?_, ?_, ?_, ?_, ?_, ?_] [(true, 10), (false, 1), (false, 2)] ⟨?_, ?_, ?_, ?_, ?_, ?_, ?_, ?_, ?_, ?_, ?_, trivial⟩ (L' := [(20, ?_), (5, ?_), (4, ?_)]) ?_ fun a32 w33 S34 => ?_
  rotate_left 14
  · exact opL S21 2 Tryz.underlying37 info_Interval fun c => (c.q 4 rfl)
  · exact opC S21 rfl fun c B => ⟨_, args_1 rfl, (r_of (1) (by omega) (by omega))⟩
  · exact opV S21 fun c => fa_Interval_0 rfl (c.q 3 rfl)
  · exact opP S21 fun c => ld_part rfl (c.e 0 rfl) (c.bx 1 rfl).lo Tryz.underlying26 info_Rat
  · exact opC S21 rfl fun c B => ⟨_, args_2 rfl rfl, (r_over (by omega) (by omega) (isC.r (c.h 0 rfl)) (c.h 1 rfl))⟩
  · exact opC S21 rfl fun c B => ⟨_, args_1 rfl, (r_of (1) (by omega) (by omega))⟩
  · exact opV S21 fun c => fa_Interval_1 rfl (c.q 3 rfl)
  · exact opP S21 fun c => ld_part rfl (c.e 0 rfl) (c.bx 1 rfl).hi Tryz.underlying26 info_Rat
  · exact opC S21 rfl fun c B => ⟨_, args_2 rfl rfl, (r_over (by omega) (by omega) (isC.r (c.h 0 rfl)) (c.h 1 rfl))⟩
  · exact opC S21 rfl fun c B => ⟨_, args_2 rfl rfl, (r4_make  (by omega) (by omega) (isC.r (c.h 0 rfl)) (isC.r (c.h 1 rfl)) c.ob)⟩
  · exact opC S21 rfl fun c B => ⟨_, args_2 rfl rfl, (r4_mul  (by omega) (by omega) (c.h 0 rfl) (prC (c.h 1 rfl)) c.ob)⟩
  · rfl
  refine t_sto S34 2 0 0 rfl (fun h => (mP.cv (fun _ h => (isC.cv h)) (fun _ h => (isC.cv h)) h)) (fun w36 S37 => ?_) info_Interval
  refine t_asgC S37 fun a38 S39 => ?_
  refine wpList_nil (then_normal ?_)
  refine wp_ret ?_
  exact st_end2 S39 2 0 0 rfl rfl Tryz.underlying37 info_Interval fun v u h h2 => ⟨v, u, rfl, (by first | exact mP_imp (fun _ h => isZ.e (by rw [sgE_t (by assumption)]; decide) h) (fun _ h => isZ.e (by rw [sgE_t (by assumption)]; decide) h) h | exact mP_imp (fun _ h => isE.mono (isC.e (sgE_f (by assumption)) h) (by omega)) (fun _ h => isE.mono (isC.e (sgE_f (by assumption)) h) (by omega)) h), (h2).trans (by first | rw [sgE_t (by assumption)] | rw [sgE_f (by assumption)])⟩
end Go.Proofs.YtiljjhhkklnlgaaGreatDoor
