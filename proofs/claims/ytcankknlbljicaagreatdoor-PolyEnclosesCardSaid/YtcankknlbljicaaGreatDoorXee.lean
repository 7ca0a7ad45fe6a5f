/-  -/
import Derived.Test.YtcankknlbljicaaGreatDoorXfg

set_option linter.unusedVariables false
set_option linter.unusedSimpArgs false
set_option linter.unusedSectionVars false
set_option maxRecDepth 100000
set_option maxHeartbeats 3200000

namespace Go.Proofs.YtcankknlbljicaaGreatDoor
open Go.RowKit Num

set_option maxRecDepth 100000
set_option maxHeartbeats 2000000
theorem r3_min {p0 : Rat} {k0 : Nat} {p1 : Rat} {k1 : Nat} {v0 : Value} {v1 : Value} {w : World} {O : Bs} (hk0 : k0 ≤ 199999) (hk1 : k1 ≤ 199999) (pf0 : (mR (p0) (k0)).S O w v0) (pf1 : (mR (p1) (k1)).S O w v1) (ho : OB O w) :
    Calls Tryz.prog 174 #[v0,v1] w (RetM (mC (mnQ (p0) (p1)) (k0 + k1 + 1)) O w) := by
 refine st_start 12 Tryz.func174 [(mR (p0) (k0)),(mR (p1) (k1))] ⟨pf0,pf1,trivial⟩ ho fun a S => ?_
 refine wp_seq ?_
 refine st_seq S 0 [] [(false,0),(false,1)] trivial (L' := [(0,?_),(1,?_)]) ?_ fun a1 w2 S3 => ?_
 rotate_left 2
 · rfl
 refine t_box S3 0 rfl isR.cv fun O a5 w6 g7 S8 => ?_
 refine t_box S8 2 rfl isR.cv fun O a9 w10 g11 S12 => ?_
 refine t_alloc S12 zero_Rat (fun _ _ _ => bx_Rat) fun O a13 w14 g15 S16 => ?_
 refine wpList_nil (then_normal ?_)
 refine wp_seq ?_
 refine wp_seq ?_
 refine st_seq S16 3 [?_,?_,?_] [(true,2),(false,0),(false,1),(false,2)] ⟨?_,?_,?_,trivial⟩ (L' := [(7,?_),(4,?_),(3,?_),(2,?_)]) ?_ fun a17 w18 S19 => ?_
 rotate_left 7
 · exact opL S16.r 1 Tryz.underlying26 info_Rat fun c => (c.q 1 rfl)
 · exact opL S16.r 2 Tryz.underlying26 info_Rat fun c => (c.q 2 rfl)
 · exact opC S16.r rfl fun c B => ⟨_,args_2 rfl rfl,(r_less (by omega) (by omega) (c.h 0 rfl) (c.h 1 rfl))⟩
 · rfl
 refine wpList_nil (then_normal ?_)
 refine cond_b _ (ev (S19.sl 0 rfl)) (fun hb21 => ?_) (fun hb21 => ?_)
 ·have hb21p := of_decide_eq_true hb21
  refine wp_seq ?_
  refine st_seq S19 2 [?_,?_] [(true,1),(false,1),(false,3)] ⟨?_,?_,trivial⟩ (L' := [(9,?_),(4,?_),(2,?_)]) ?_ fun a22 w23 S24 => ?_
  rotate_left 5
  · exact opL S19.r 1 Tryz.underlying26 info_Rat fun c => (c.q 2 rfl)
  · exact opC S19.r rfl fun c B => ⟨_,args_1 rfl,(r_trim (by omega) (c.h 0 rfl))⟩
  · rfl
  refine t_sto S24 1 0 0 rfl isC.cv (fun w26 S27 => ?_) info_Rat
  refine wpList_nil (then_normal ?_)
  refine wp_ret ?_
  exact st_end S27 1 0 rfl Tryz.underlying26 info_Rat fun v h => (by first | (rw [min_t (by assumption)]; exact isC.mono h (by omega)) | (rw [min_f (by assumption)]; exact isC.mono h (by omega)))
 ·have hb21p := of_decide_eq_false hb21
  refine wp_skip (then_normal ?_)
  refine wp_seq ?_
  refine st_seq S19 2 [?_,?_] [(true,1),(false,1)] ⟨?_,?_,trivial⟩ (L' := [(11,?_),(4,?_)]) ?_ fun a28 w29 S30 => ?_
  rotate_left 4
  · exact opL S19.r 2 Tryz.underlying26 info_Rat fun c => (c.q 3 rfl)
  · exact opC S19.r rfl fun c B => ⟨_,args_1 rfl,(r_trim (by omega) (c.h 0 rfl))⟩
  · rfl
  refine t_sto S30 1 0 0 rfl isC.cv (fun w32 S33 => ?_) info_Rat
  refine wpList_nil (then_normal ?_)
  refine wp_ret ?_
  exact st_end S33 1 0 rfl Tryz.underlying26 info_Rat fun v h => (by first | (rw [min_t (by assumption)]; exact isC.mono h (by omega)) | (rw [min_f (by assumption)]; exact isC.mono h (by omega)))

theorem r3_max {p0 : Rat} {k0 : Nat} {p1 : Rat} {k1 : Nat} {v0 : Value} {v1 : Value} {w : World} {O : Bs} (hk0 : k0 ≤ 199999) (hk1 : k1 ≤ 199999) (pf0 : (mR (p0) (k0)).S O w v0) (pf1 : (mR (p1) (k1)).S O w v1) (ho : OB O w) :
    Calls Tryz.prog 175 #[v0,v1] w (RetM (mC (mxQ (p0) (p1)) (k0 + k1 + 1)) O w) := by
 refine st_start 12 Tryz.func175 [(mR (p0) (k0)),(mR (p1) (k1))] ⟨pf0,pf1,trivial⟩ ho fun a S => ?_
 refine wp_seq ?_
 refine st_seq S 0 [] [(false,0),(false,1)] trivial (L' := [(0,?_),(1,?_)]) ?_ fun a1 w2 S3 => ?_
 rotate_left 2
 · rfl
 refine t_box S3 0 rfl isR.cv fun O a5 w6 g7 S8 => ?_
 refine t_box S8 2 rfl isR.cv fun O a9 w10 g11 S12 => ?_
 refine t_alloc S12 zero_Rat (fun _ _ _ => bx_Rat) fun O a13 w14 g15 S16 => ?_
 refine wpList_nil (then_normal ?_)
 refine wp_seq ?_
 refine wp_seq ?_
 refine st_seq S16 3 [?_,?_,?_] [(true,2),(false,0),(false,1),(false,2)] ⟨?_,?_,?_,trivial⟩ (L' := [(7,?_),(4,?_),(3,?_),(2,?_)]) ?_ fun a17 w18 S19 => ?_
 rotate_left 7
 · exact opL S16.r 2 Tryz.underlying26 info_Rat fun c => (c.q 2 rfl)
 · exact opL S16.r 1 Tryz.underlying26 info_Rat fun c => (c.q 1 rfl)
 · exact opC S16.r rfl fun c B => ⟨_,args_2 rfl rfl,(r_less (by omega) (by omega) (c.h 0 rfl) (c.h 1 rfl))⟩
 · rfl
 refine wpList_nil (then_normal ?_)
 refine cond_b _ (ev (S19.sl 0 rfl)) (fun hb21 => ?_) (fun hb21 => ?_)
 ·have hb21p := of_decide_eq_true hb21
  refine wp_seq ?_
  refine st_seq S19 2 [?_,?_] [(true,1),(false,1),(false,3)] ⟨?_,?_,trivial⟩ (L' := [(9,?_),(4,?_),(2,?_)]) ?_ fun a22 w23 S24 => ?_
  rotate_left 5
  · exact opL S19.r 1 Tryz.underlying26 info_Rat fun c => (c.q 2 rfl)
  · exact opC S19.r rfl fun c B => ⟨_,args_1 rfl,(r_trim (by omega) (c.h 0 rfl))⟩
  · rfl
  refine t_sto S24 1 0 0 rfl isC.cv (fun w26 S27 => ?_) info_Rat
  refine wpList_nil (then_normal ?_)
  refine wp_ret ?_
  exact st_end S27 1 0 rfl Tryz.underlying26 info_Rat fun v h => (by first | (rw [max_t (by assumption)]; exact isC.mono h (by omega)) | (rw [max_f (by assumption)]; exact isC.mono h (by omega)))
 ·have hb21p := of_decide_eq_false hb21
  refine wp_skip (then_normal ?_)
  refine wp_seq ?_
  refine st_seq S19 2 [?_,?_] [(true,1),(false,1)] ⟨?_,?_,trivial⟩ (L' := [(11,?_),(4,?_)]) ?_ fun a28 w29 S30 => ?_
  rotate_left 4
  · exact opL S19.r 2 Tryz.underlying26 info_Rat fun c => (c.q 3 rfl)
  · exact opC S19.r rfl fun c B => ⟨_,args_1 rfl,(r_trim (by omega) (c.h 0 rfl))⟩
  · rfl
  refine t_sto S30 1 0 0 rfl isC.cv (fun w32 S33 => ?_) info_Rat
  refine wpList_nil (then_normal ?_)
  refine wp_ret ?_
  exact st_end S33 1 0 rfl Tryz.underlying26 info_Rat fun v h => (by first | (rw [max_t (by assumption)]; exact isC.mono h (by omega)) | (rw [max_f (by assumption)]; exact isC.mono h (by omega)))

theorem r4_trim {p0 q0 : Rat} {k0 : Nat} {v0 : Value} {w : World} {O : Bs} (hk0 : k0 ≤ 99999) (pf0 : (mP (mR (p0) (k0)) (mR (q0) (k0))).S O w v0) (ho : OB O w) :
    Calls Tryz.prog 133 #[v0] w (RetM (mP (mC (mnQ (p0) (q0)) (k0 + k0 + 1)) (mC (mxQ (p0) (q0)) (k0 + k0 + 1))) O w) := by
 refine st_start 14 Tryz.func133 [(mP (mR (p0) (k0)) (mR (q0) (k0)))] ⟨pf0,trivial⟩ ho fun a S => ?_
 refine wp_seq ?_
 refine st_seq S 0 [] [(false,0)] trivial (L' := [(0,?_)]) ?_ fun a1 w2 S3 => ?_
 rotate_left 1
 · rfl
 refine t_box S3 0 rfl (fun h => (mP.cv (fun _ h => (isR.cv h)) (fun _ h => (isR.cv h)) h)) fun O a5 w6 g7 S8 => ?_
 refine t_alloc S8 zero_Interval (fun _ _ _ => bx_Interval) fun O a9 w10 g11 S12 => ?_
 refine wpList_nil (then_normal ?_)
 refine wp_seq ?_
 refine st_mono S12 11 [?_,?_,?_,?_,?_,?_,?_,?_,?_,?_,?_] [(true,10),(false,0)] ⟨?_,?_,?_,?_,?_,?_,?_,?_,?_,?_,?_,trivial⟩ (L' := [(13,?_),(2,?_)]) ?_ fun a13 w14 S15 => ?_
 rotate_left 13
 · exact opV S12.r fun c => fa_Interval_0 rfl (c.q 1 rfl)
 · exact opP S12.r fun c => ld_part rfl (c.e 0 rfl) (c.bx 1 rfl).lo Tryz.underlying26 info_Rat
 · exact opV S12.r fun c => fa_Interval_1 rfl (c.q 1 rfl)
 · exact opP S12.r fun c => ld_part rfl (c.e 0 rfl) (c.bx 1 rfl).hi Tryz.underlying26 info_Rat
 · exact opC S12.r rfl fun c B => ⟨_,args_2 rfl rfl,(r3_min  (by omega) (by omega) (c.h 0 rfl) (c.h 1 rfl) (S12.obc c.wb))⟩
 · exact opV S12.r fun c => fa_Interval_0 rfl (c.q 1 rfl)
 · exact opP S12.r fun c => ld_part rfl (c.e 0 rfl) (c.bx 1 rfl).lo Tryz.underlying26 info_Rat
 · exact opV S12.r fun c => fa_Interval_1 rfl (c.q 1 rfl)
 · exact opP S12.r fun c => ld_part rfl (c.e 0 rfl) (c.bx 1 rfl).hi Tryz.underlying26 info_Rat
 · exact opC S12.r rfl fun c B => ⟨_,args_2 rfl rfl,(r3_max  (by omega) (by omega) (c.h 0 rfl) (c.h 1 rfl) (S12.obc c.wb))⟩
 · exact opP S12.r fun c => bld_pair rfl (c.h 0 rfl) (c.h 1 rfl) (isC.cv (c.h 0 rfl)) (isC.cv (c.h 1 rfl))
 · rfl
 refine t_sto S15 1 0 0 rfl (fun h => (mP.cv (fun _ h => (isC.cv h)) (fun _ h => (isC.cv h)) h)) (fun w17 S18 => ?_) info_Interval
 refine wpList_nil (then_normal ?_)
 refine wp_ret ?_
 exact st_end S18 1 0 rfl Tryz.underlying39 info_Interval fun v h => (mP_imp (fun _ h => (isC.mono h (by omega))) (fun _ h => (isC.mono h (by omega))) h)

theorem r4_make {p0 : Rat} {k0 : Nat} {p1 : Rat} {k1 : Nat} {v0 : Value} {v1 : Value} {w : World} {O : Bs} (hk0 : k0 ≤ 29999) (hk1 : k1 ≤ 29999) (pf0 : (mR (p0) (k0)).S O w v0) (pf1 : (mR (p1) (k1)).S O w v1) (ho : OB O w) :
    Calls Tryz.prog 68 #[v0,v1] w (RetM (mP (mC (mnQ (p0) (p1)) (k0 + k1 + k0 + k1 + 1)) (mC (mxQ (p0) (p1)) (k0 + k1 + k0 + k1 + 1))) O w) := by
 refine st_start 9 Tryz.func68 [(mR (p0) (k0)),(mR (p1) (k1))] ⟨pf0,pf1,trivial⟩ ho fun a S => ?_
 refine wp_seq ?_
 refine st_seq S 0 [] [(false,0),(false,1)] trivial (L' := [(0,?_),(1,?_)]) ?_ fun a1 w2 S3 => ?_
 rotate_left 2
 · rfl
 refine t_box S3 0 rfl isR.cv fun O a5 w6 g7 S8 => ?_
 refine t_box S8 2 rfl isR.cv fun O a9 w10 g11 S12 => ?_
 refine t_alloc S12 zero_Interval (fun _ _ _ => bx_Interval) fun O a13 w14 g15 S16 => ?_
 refine wpList_nil (then_normal ?_)
 refine wp_seq ?_
 refine st_seq S16 4 [?_,?_,?_,?_] [(true,3),(false,0)] ⟨?_,?_,?_,?_,trivial⟩ (L' := [(8,?_),(4,?_)]) ?_ fun a17 w18 S19 => ?_
 rotate_left 6
 · exact opL S16.r 2 Tryz.underlying26 info_Rat fun c => (c.q 2 rfl)
 · exact opL S16.r 1 Tryz.underlying26 info_Rat fun c => (c.q 1 rfl)
 · exact opP S16.r fun c => bld_pair rfl (c.h 0 rfl) (c.h 1 rfl) (isR.cv (c.h 0 rfl)) (isR.cv (c.h 1 rfl))
 · exact opC S16.r rfl fun c B => ⟨_,args_1 rfl,(r4_trim  (by omega) (mP_imp (m1' := (mR (p0) (k0 + k1))) (m2' := (mR (p1) (k0 + k1))) (fun _ h => (isR.mono h (by omega))) (fun _ h => (isR.mono h (by omega))) (c.h 0 rfl)) (S16.obc c.wb))⟩
 · rfl
 refine t_sto S19 1 0 0 rfl (fun h => (mP.cv (fun _ h => (isC.cv h)) (fun _ h => (isC.cv h)) h)) (fun w21 S22 => ?_) info_Interval
 refine wpList_nil (then_normal ?_)
 refine wp_ret ?_
 exact st_end S22 1 0 rfl Tryz.underlying39 info_Interval fun v h => (mP_imp (fun _ h => (isC.mono h (by omega))) (fun _ h => (isC.mono h (by omega))) h)

theorem r4_contains {p0 q0 : Rat} {k0 : Nat} {p1 : Rat} {k1 : Nat} {v0 : Value} {v1 : Value} {w : World} {O : Bs} (hk0 : k0 ≤ 9999) (hk1 : k1 ≤ 9999) (pf0 : (mP (mR (p0) (k0)) (mR (q0) (k0))).S O w v0) (pf1 : (mR (p1) (k1)).S O w v1) (ho : OB O w) :
    Calls Tryz.prog 71 #[v0,v1] w (RetM (mV (.bool ((!(decide ((p1) < (mnQ (p0) (q0))))) && (!(decide ((mxQ (p0) (q0)) < (p1))))))) O w) := by
 refine st_start 19 Tryz.func71 [(mP (mR (p0) (k0)) (mR (q0) (k0))),(mR (p1) (k1))] ⟨pf0,pf1,trivial⟩ ho fun a S => ?_
 refine wp_seq ?_
 refine st_seq S 0 [] [(false,0),(false,1)] trivial (L' := [(0,?_),(1,?_)]) ?_ fun a1 w2 S3 => ?_
 rotate_left 2
 · rfl
 refine t_box S3 0 rfl (fun h => (mP.cv (fun _ h => (isR.cv h)) (fun _ h => (isR.cv h)) h)) fun O a5 w6 g7 S8 => ?_
 refine t_box S8 2 rfl isR.cv fun O a9 w10 g11 S12 => ?_
 refine t_asgC S12 fun a13 S14 => ?_
 refine wpList_nil (then_normal ?_)
 refine wp_seq ?_
 refine st_seq S14 2 [?_,?_] [(true,1),(false,0),(false,1),(false,2)] ⟨?_,?_,trivial⟩ (L' := [(6,?_),(4,?_),(3,?_),(2,?_)]) ?_ fun a15 w16 S17 => ?_
 rotate_left 6
 · exact opL S14.r 1 Tryz.underlying39 info_Interval fun c => (c.q 2 rfl)
 · exact opC S14.r rfl fun c B => ⟨_,args_1 rfl,(r4_trim  (by omega) (c.h 0 rfl) (S14.obc c.wb))⟩
 · rfl
 refine t_sto S17 3 0 1 rfl (fun h => (mP.cv (fun _ h => (isC.cv h)) (fun _ h => (isC.cv h)) h)) (fun w19 S20 => ?_) info_Interval
 refine wpList_nil (then_normal ?_)
 refine wp_seq ?_
 refine st_seq S20 12 [?_,?_,?_,?_,?_,?_,?_,?_,?_,?_,?_,?_] [(true,11),(false,1)] ⟨?_,?_,?_,?_,?_,?_,?_,?_,?_,?_,?_,?_,trivial⟩ (L' := [(18,?_),(4,?_)]) ?_ fun a21 w22 S23 => ?_
 rotate_left 14
 · exact opL S20.r 0 Tryz.underlying26 info_Rat fun c => (c.q 2 rfl)
 · exact opV S20.r fun c => fa_Interval_0 rfl (c.q 3 rfl)
 · exact opP S20.r fun c => ld_part rfl (c.e 0 rfl) (c.bx 1 rfl).lo Tryz.underlying26 info_Rat
 · exact opC S20.r rfl fun c B => ⟨_,args_2 rfl rfl,(r_less (by omega) (by omega) (c.h 0 rfl) (isC.r (c.h 1 rfl)))⟩
 · exact opV S20.r fun c => run_not rfl (c.e 0 rfl)
 · exact opV S20.r fun c => run_v (run_move rfl) (c.e 0 rfl)
 · exact opG S20.r 0 (fun hγ => opV S20.r fun c => fa_Interval_1 rfl (c.q 3 rfl)) gT
 · exact opG S20.r 1 (fun hγ => opP S20.r fun c => ld_part rfl (ev (c.h 0 rfl hγ)) (c.bx 1 rfl).hi Tryz.underlying26 info_Rat) gT
 · exact opG S20.r 0 (fun hγ => opL S20.r 0 Tryz.underlying26 info_Rat fun c => (c.q 2 rfl)) gT
 · exact opG S20.r 2 (fun hγ => opC S20.r rfl fun c B => ⟨_,args_2 rfl rfl,(r_less (by have := of_decide_eq_false (Bool.not_eq_true' _ |>.mp hγ); omega) (by have := of_decide_eq_false (Bool.not_eq_true' _ |>.mp hγ); omega) (isC.r (c.h 0 rfl hγ)) (c.h 1 rfl hγ))⟩) gT
 · exact opG S20.r 1 (fun hγ => opV S20.r fun c => run_not rfl (ev (c.h 0 rfl hγ))) gT
 · exact opE S20.r fun c => ⟨_,run_pick rfl (c.e 0 rfl),pick_and (c.h 1 rfl)⟩
 · rfl
 refine t_asg S23 0 fun a25 S26 => ?_
 refine wpList_nil (then_normal ?_)
 refine wp_ret ?_
 exact st_endT S26 0 rfl fun v h => h


theorem r4_width {p0 q0 : Rat} {k0 : Nat} {v0 : Value} {w : World} {O : Bs} (hk0 : k0 ≤ 9999) (pf0 : (mP (mR (p0) (k0)) (mR (q0) (k0))).S O w v0) (ho : OB O w) :
    Calls Tryz.prog 69 #[v0] w (RetM (mC ((mxQ (p0) (q0)) - (mnQ (p0) (q0))) (k0 + k0 + k0 + k0 + 5)) O w) := by
 refine st_start 10 Tryz.func69 [(mP (mR (p0) (k0)) (mR (q0) (k0)))] ⟨pf0,trivial⟩ ho fun a S => ?_
 refine wp_seq ?_
 refine st_seq S 0 [] [(false,0)] trivial (L' := [(0,?_)]) ?_ fun a1 w2 S3 => ?_
 rotate_left 1
 · rfl
 refine t_box S3 0 rfl (fun h => (mP.cv (fun _ h => (isR.cv h)) (fun _ h => (isR.cv h)) h)) fun O a5 w6 g7 S8 => ?_
 refine t_alloc S8 zero_Rat (fun _ _ _ => bx_Rat) fun O a9 w10 g11 S12 => ?_
 refine wpList_nil (then_normal ?_)
 refine wp_seq ?_
 refine st_seq S12 2 [?_,?_] [(true,1),(false,0),(false,1)] ⟨?_,?_,trivial⟩ (L' := [(4,?_),(2,?_),(1,?_)]) ?_ fun a13 w14 S15 => ?_
 rotate_left 5
 · exact opL S12.r 1 Tryz.underlying39 info_Interval fun c => (c.q 1 rfl)
 · exact opC S12.r rfl fun c B => ⟨_,args_1 rfl,(r4_trim  (by omega) (c.h 0 rfl) (S12.obc c.wb))⟩
 · rfl
 refine t_sto S15 2 0 1 rfl (fun h => (mP.cv (fun _ h => (isC.cv h)) (fun _ h => (isC.cv h)) h)) (fun w17 S18 => ?_) info_Interval
 refine wpList_nil (then_normal ?_)
 refine wp_seq ?_
 refine st_seq S18 5 [?_,?_,?_,?_,?_] [(true,4),(false,1)] ⟨?_,?_,?_,?_,?_,trivial⟩ (L' := [(9,?_),(2,?_)]) ?_ fun a19 w20 S21 => ?_
 rotate_left 7
 · exact opV S18.r fun c => fa_Interval_1 rfl (c.q 2 rfl)
 · exact opP S18.r fun c => ld_part rfl (c.e 0 rfl) (c.bx 1 rfl).hi Tryz.underlying26 info_Rat
 · exact opV S18.r fun c => fa_Interval_0 rfl (c.q 2 rfl)
 · exact opP S18.r fun c => ld_part rfl (c.e 0 rfl) (c.bx 1 rfl).lo Tryz.underlying26 info_Rat
 · exact opC S18.r rfl fun c B => ⟨_,args_2 rfl rfl,(r_sub (by omega) (by omega) (isC.r (c.h 0 rfl)) (isC.r (c.h 1 rfl)))⟩
 · rfl
 refine t_sto S21 1 0 0 rfl isC.cv (fun w23 S24 => ?_) info_Rat
 refine wpList_nil (then_normal ?_)
 refine wp_ret ?_
 exact st_end S24 1 0 rfl Tryz.underlying26 info_Rat fun v h => (isC.mono h (by omega))


end Go.Proofs.YtcankknlbljicaaGreatDoor

namespace Go.Proofs.YtcankknlbljicaaGreatDoor
open Go.RowKit Num

set_option maxRecDepth 100000
set_option maxHeartbeats 2000000
theorem r5_eval {qs : List Rat} {k : Nat} {x : Rat} {m K : Nat} {v0 : Value} {v1 : Value} {w : World} {O : Bs} (hn : qs.length ≤ 99999) (hk : k ≤ 9999) (hm : m ≤ 9999) (hK : K ≤ 9999) (hz : ∀ t : Nat,t ≤ qs.length → Sz (evN qs x t) K) (pf0 : (mSl 3 (lR qs (k))).S O w v0) (pf1 : (mR (x) (m)).S O w v1) (ho : OB O w) :
    Calls Tryz.prog 33 #[v0,v1] w (RetM (mC (evN qs x qs.length) (K)) O w) := by
 refine st_start 24 Tryz.func33 [(mSl 3 (lR qs (k))),(mR (x) (m))] ⟨pf0,pf1,trivial⟩ ho fun a S => ?_
 refine wp_seq ?_
 refine st_seq S 0 [] [(false,0),(false,1)] trivial (L' := [(0,?_),(1,?_)]) ?_ fun a1 w2 S3 => ?_
 rotate_left 2
 · rfl
 refine t_box S3 1 rfl isR.cv fun O a5 w6 g7 S8 => ?_
 refine t_alloc S8 zero_Rat (fun _ _ _ => bx_Rat) fun O a9 w10 g11 S12 => ?_
 refine wpList_nil (then_normal ?_)
 refine wp_seq ?_
 refine st_seq S12 1 [?_] [(true,0),(false,0),(false,1),(false,2)] ⟨?_,trivial⟩ (L' := [(7,?_),(4,?_),(3,?_),(0,?_)]) ?_ fun a13 w14 S15 => ?_
 rotate_left 5
 · exact opC S12.r rfl fun c B => ⟨_,args_1 rfl,(r_of (0) (by omega) (by omega))⟩
 · rfl
 refine t_alloc S15 zero_Rat (fun _ _ _ => bx_Rat) fun O a17 w18 g19 S20 => ?_
 refine t_sto S20 0 1 0 rfl isC.cv (fun w21 S22 => ?_) info_Rat
 refine wpList_nil (then_normal ?_)
 refine wp_seq ?_
 refine wp_seq ?_
 refine st_seq S22 3 [?_,?_,?_] [(true,2),(false,0),(false,2),(false,3),(false,4)] ⟨?_,?_,?_,trivial⟩ (L' := [(10,?_),(5,?_),(4,?_),(3,?_),(0,?_)]) ?_ fun a23 w24 S25 => ?_
 rotate_left 8
 · exact opP S22.r fun c => ⟨_,run_move rfl,(c.o 4 rfl)⟩
 · exact opV S22.r fun c => len_L qs.length Tryz.underlying37 (c.h 0 rfl) (lR_len _ _)
 · exact opV S22.r fun c => run_sub rfl (c.e 0 rfl) rfl (by omega) (by omega)
 · rfl
 refine t_asg S25 0 fun a27 S28 => ?_
 refine wpList_nil (then_normal ?_)
 refine wp_block ?_
 refine st_loop (τ := Nat) (fun t => [(6,(mV (.int .i64 (((qs.length - t : Nat) : Int) - 1)))),(5,(mV (.pointer (some ⟨g19,0,none⟩)))),(4,(mV (.pointer (some ⟨g11,0,none⟩)))),(3,(mV (.pointer (some ⟨g7,0,none⟩)))),(0,(mSl 3 (lR qs (k))))]) (fun t => [.box g19 26 3 (mC (evN qs x t) (K)),.box g11 26 3 mTop,.box g7 26 3 (mR (x) (m))]) (fun t => t ≤ qs.length) (fun t => qs.length - t) 0 (Nat.zero_le _) (S28.toX ⟨S28.sl 0 rfl,S28.sl 2 rfl,S28.sl 3 rfl,S28.sl 4 rfl,S28.sl 5 rfl,trivial⟩ ⟨(bx.imp (fun _ h => isC.re h (hz 0 (Nat.zero_le _))) (S28.f 0 rfl)),S28.f 1 rfl,S28.f 2 rfl,trivial⟩) ?_
 rintro t O a31 w32 hp33 S34
 try dsimp only at hp33 S34
 refine wp_seq ?_
 refine wp_seq ?_
 refine st_seq S34 2 [?_,?_] [(true,1),(false,0),(false,1),(false,2),(false,3),(false,4)] ⟨?_,?_,trivial⟩ (L' := [(12,?_),(6,?_),(5,?_),(4,?_),(3,?_),(0,?_)]) ?_ fun a35 w36 S37 => ?_
 rotate_left 8
 · exact opV S34.r fun c => run_v (run_move rfl) (c.q 0 rfl)
 · exact opV S34.r fun c => run_geq rfl (c.e 0 rfl) rfl
 · rfl
 refine wpList_nil (then_normal ?_)
 refine cond_b _ (ev (S37.sl 0 rfl)) (fun hb39 => ?_) (fun hb39 => ?_)
 ·have hb39p := of_decide_eq_true hb39
  refine wp_skip (then_normal ?_)
  refine wp_seq ?_
  refine wp_block ?_
  refine st_mono S37 8 [?_,?_,?_,?_,?_,?_,?_,?_] [(true,7),(false,1),(false,2),(false,3),(false,4),(false,5)] ⟨?_,?_,?_,?_,?_,?_,?_,?_,trivial⟩ (L' := [(22,?_),(6,?_),(5,?_),(4,?_),(3,?_),(0,?_)]) ?_ fun a40 w41 S42 => ?_
  rotate_left 14
  · exact opL S37.r 0 Tryz.underlying26 info_Rat fun c => (c.q 2 rfl)
  · exact opL S37.r 2 Tryz.underlying26 info_Rat fun c => (c.q 4 rfl)
  · exact opC S37.r rfl fun c B => ⟨_,args_2 rfl rfl,(r_mul (by omega) (by omega) (isC.r (c.h 0 rfl)) (c.h 1 rfl))⟩
  · exact opP S37.r fun c => ⟨_,run_move rfl,(c.o 5 rfl)⟩
  · exact opV S37.r fun c => run_v (run_move rfl) (c.q 1 rfl)
  · exact opP S37.r fun c => ix_sl Tryz.underlying37 infoRz (c.h 0 rfl) (c.e 1 rfl) (i := qs.length - t - 1) (by omega) (lR_get (by omega))
  · exact opP S37.r fun c => ld_pt (c.h 0 rfl) Tryz.underlying26 info_Rat
  · exact opC S37.r rfl fun c B => ⟨_,args_2 rfl rfl,(r_add (by omega) (by omega) (isC.r (c.h 0 rfl)) (c.h 1 rfl))⟩
  · rfl
  refine t_sto S42 2 0 0 rfl isC.cv (fun w44 S45 => ?_) info_Rat
  refine wpList_nil (in_normal (then_normal ?_))
  refine st_seq S45 2 [?_,?_] [(true,1),(false,1),(false,2),(false,3),(false,4),(false,5)] ⟨?_,?_,trivial⟩ (L' := [(14,?_),(6,?_),(5,?_),(4,?_),(3,?_),(0,?_)]) ?_ fun a46 w47 S48 => ?_
  rotate_left 8
  · exact opV S45.r fun c => run_v (run_move rfl) (c.q 1 rfl)
  · exact opV S45.r fun c => run_sub rfl (c.e 0 rfl) rfl (by omega) (by omega)
  · rfl
  refine t_asg S48 0 fun a50 S51 => ?_
  refine wpList_nil (then_normal ?_)
  exact ⟨t + 1,(by first | omega | (dsimp only; omega)),(by first | omega | (dsimp only; omega)),_,S51.toX ⟨(S51.sl 0 rfl).trans (by first | rfl | exact congrArg _ (by omega)),S51.sl 2 rfl,S51.sl 3 rfl,S51.sl 4 rfl,S51.sl 5 rfl,trivial⟩ ⟨(bx.imp (fun _ h => isC.re h (hz (t + 1) (by omega))) (S51.f 0 rfl)),S51.f 1 rfl,S51.f 2 rfl,trivial⟩⟩
 ·have hb39p := of_decide_eq_false hb39
  refine wp_exit ?_
  repeat (first | refine exit_in ?_ | refine exit_then ?_ | refine exit_out (by decide) ?_)
  refine (then_normal ?_)
  refine wp_seq ?_
  refine st_seq S37 1 [?_] [(true,0),(false,3)] ⟨?_,trivial⟩ (L' := [(23,?_),(4,?_)]) ?_ fun a52 w53 S54 => ?_
  rotate_left 3
  · exact opL S37.r 0 Tryz.underlying26 info_Rat fun c => (c.q 2 rfl)
  · rfl
  refine t_sto S54 1 0 1 rfl isC.cv (fun w56 S57 => ?_) info_Rat
  refine wpList_nil (then_normal ?_)
  refine wp_ret ?_
  exact st_end S57 1 1 rfl Tryz.underlying26 info_Rat fun v h => (by rw [show qs.length = t by omega]; exact h)
end Go.Proofs.YtcankknlbljicaaGreatDoor

namespace Go.Proofs.YtcankknlbljicaaGreatDoor
open Go.RowKit Num

set_option maxRecDepth 100000
set_option maxHeartbeats 2000000
end Go.Proofs.YtcankknlbljicaaGreatDoor

namespace Go.Proofs.YtcankknlbljicaaGreatDoor
open Go.RowKit Num

set_option maxRecDepth 100000
set_option maxHeartbeats 2000000
theorem k_rat (t : Int)  {w : World} {O : Bs} (h1 : -9223372036854775808 ≤ t) (h2 : t ≤ 9223372036854775807)  (ho : OB O w) :
    Calls Tryz.prog 62 #[.int .i64 (t)] w (RetM (mC (ratQ t) (2)) O w) := by
 refine st_start 11 Tryz.func62 [(mV (.int .i64 (t)))] ⟨rfl,trivial⟩ ho fun a S => ?_
 have htd := tdiv_b (t := t) (n := 25) (by decide) h1 h2
 refine wp_seq ?_
 refine st_seq S 0 [] [(false,0)] trivial (L' := [(0,?_)]) ?_ fun a1 w2 S3 => ?_
 rotate_left 1
 · rfl
 refine t_alloc S3 zero_Rat (fun _ _ _ => bx_Rat) fun O a5 w6 g7 S8 => ?_
 refine wpList_nil (then_normal ?_)
 refine wp_seq ?_
 refine st_seq S8 8 [?_,?_,?_,?_,?_,?_,?_,?_] [(true,7),(false,0)] ⟨?_,?_,?_,?_,?_,?_,?_,?_,trivial⟩ (L' := [(10,?_),(2,?_)]) ?_ fun a9 w10 S11 => ?_
 rotate_left 10
 · exact opV S8.r fun c => run_v (run_move rfl) (c.q 1 rfl)
 · exact opC S8.r rfl fun c B => ⟨_,args_2 (c.e 0 rfl) rfl,(k_mod (t) (25) (by omega) (by omega) (by omega) (by omega))⟩
 · exact opV S8.r fun c => run_sub rfl (c.e 0 rfl) rfl (by omega) (by omega)
 · exact opV S8.r fun c => run_v (run_move rfl) (c.q 1 rfl)
 · exact opV S8.r fun c => run_quo rfl (c.e 0 rfl) rfl (by decide) (tdiv_b (by omega) (by omega) (by omega))
 · exact opC S8.r rfl fun c B => ⟨_,args_2 (c.e 0 rfl) rfl,(k_mod (Int.tdiv (t) (25)) (8) (by omega) (by omega) (by omega) (by omega))⟩
 · exact opV S8.r fun c => run_add rfl rfl (c.e 0 rfl) (by omega) (by omega)
 · exact opC S8.r rfl fun c B => ⟨_,args_2 (c.e 0 rfl) (c.e 1 rfl),(r_frac (((t) % (25)) - (12)) ((1) + ((Int.tdiv (t) (25)) % (8))) (by omega) (by omega) (by omega) (by omega))⟩
 · rfl
 refine t_sto S11 1 0 0 rfl isC.cv (fun w13 S14 => ?_) info_Rat
 refine wpList_nil (then_normal ?_)
 refine wp_ret ?_
 exact st_end S14 1 0 rfl Tryz.underlying26 info_Rat fun v h => h
end Go.Proofs.YtcankknlbljicaaGreatDoor

namespace Go.Proofs.YtcankknlbljicaaGreatDoor
open Go.RowKit Num

set_option maxRecDepth 100000
set_option maxHeartbeats 2000000
end Go.Proofs.YtcankknlbljicaaGreatDoor
