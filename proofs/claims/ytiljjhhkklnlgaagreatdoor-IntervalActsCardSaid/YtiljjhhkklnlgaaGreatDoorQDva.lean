/-  -/
import Derived.Test.YtiljjhhkklnlgaaGreatDoorQef
import Derived.Test.YtiljjhhkklnlgaaGreatDoorTie
import Derived.Test.YtiljjhhkklnlgaaGreatDoorCards
import Derived.SevenTiedAt

set_option linter.unusedVariables false
set_option linter.unusedSimpArgs false
set_option linter.unusedSectionVars false
set_option maxRecDepth 100000
set_option maxHeartbeats 3200000

namespace Go.Proofs.YtiljjhhkklnlgaaGreatDoor
open Go.RowKit Num

set_option maxRecDepth 100000
set_option maxHeartbeats 2000000
theorem walkIntervalActs {x0 y0 x1 y1 x2 : Bool} (j3 : Int) {v0 : Value} {v1 : Value} {v2 : Value} {w : World} {O : Bs} (h3a : -9223372036854775808 ≤ j3) (h3b : j3 ≤ 9223372036854775807) (pf0 : (mP (mS (x0)) (mS (y0))).S O w v0) (pf1 : (mP (mS (x1)) (mS (y1))).S O w v1) (pf2 : (mS (x2)).S O w v2) (hT : Tb w) (ho : OB O w) :
    Calls Tryz.prog 4 #[v0, v1, v2, .int .i64 (j3)] w (RetM (mV (.bool (true))) O w) := by
 refine st_start 222 Tryz.func4 [(mP (mS (x0)) (mS (y0))), (mP (mS (x1)) (mS (y1))), (mS (x2)), (mV (.int .i64 (j3)))] ⟨pf0, pf1, pf2, rfl, trivial⟩ ho fun a S => ?_
 refine wp_seq ?_
 refine st_seq S 0 [] [(false, 0), (false, 1), (false, 2), (false, 3)] trivial (L' := [(0, ?_), (1, ?_), (2, ?_), (3, ?_)]) ?_ fun a1 w2 S3 => ?_
 rotate_left 4
 · rfl
 refine t_box S3 0 rfl (fun h => (mP.cv (fun _ h => (isS.cv h)) (fun _ h => (isS.cv h)) h)) fun O a5 w6 g7 S8 => ?_
 refine t_box S8 2 rfl (fun h => (mP.cv (fun _ h => (isS.cv h)) (fun _ h => (isS.cv h)) h)) fun O a9 w10 g11 S12 => ?_
 refine t_box S12 4 rfl isS.cv fun O a13 w14 g15 S16 => ?_
 refine t_asgC S16 fun a17 S18 => ?_
 refine wpList_nil (then_normal ?_)
 refine wp_seq ?_
 refine wp_seq ?_
 refine st_seq S18 13 [?_, ?_, ?_, ?_, ?_, ?_, ?_, ?_, ?_, ?_, ?_, ?_, ?_] [(true, 12), (false, 0), (false, 1), (false, 2), (false, 3), (false, 7)] ⟨?_, ?_, ?_, ?_, ?_, ?_, ?_, ?_, ?_, ?_, ?_, ?_, ?_, trivial⟩ (L' := [(35, ?_), (8, ?_), (6, ?_), (5, ?_), (4, ?_), (3, ?_)]) ?_ fun a19 w20 S21 => ?_
 rotate_left 19
 · exact opL S18 2 Tryz.underlying37 info_Interval fun c => (c.q 3 rfl)
 · exact opC S18 rfl fun c B => ⟨_, args_1 rfl, (k_smallon (c.h 0 rfl) c.ob)⟩
 · exact opV S18 fun c => run_not rfl (c.e 0 rfl)
 · exact opV S18 fun c => run_v (run_move rfl) (c.e 0 rfl)
 · exact opG S18 0 (fun hγ => opL S18 1 Tryz.underlying37 info_Interval fun c => (c.q 2 rfl)) gF
 · exact opG S18 1 (fun hγ => opC S18 rfl fun c B => ⟨_, args_1 rfl, (k_smallon (c.h 0 rfl hγ) c.ob)⟩) gF
 · exact opG S18 1 (fun hγ => opV S18 fun c => run_not rfl (ev (c.h 0 rfl hγ))) gF
 · exact opE S18 fun c => ⟨_, run_pick rfl (c.e 0 rfl), pick_or fun h => (c.h 1 rfl) (by rw [h]; rfl)⟩
 · exact opV S18 fun c => run_v (run_move rfl) (c.e 0 rfl)
 · exact opG S18 0 (fun hγ => opL S18 0 Tryz.underlying26 info_Rat fun c => (c.q 1 rfl)) gF
 · exact opG S18 1 (fun hγ => opC S18 rfl fun c B => ⟨_, args_1 rfl, (k_small (c.h 0 rfl hγ))⟩) gF
 · exact opG S18 1 (fun hγ => opV S18 fun c => run_not rfl (ev (c.h 0 rfl hγ))) gF
 · exact opE S18 fun c => ⟨_, run_pick rfl (c.e 0 rfl), pick_or fun h => (c.h 1 rfl) (by rw [h]; rfl)⟩
 · rfl
 refine wpList_nil (then_normal ?_)
 refine cond_b _ (ev (S21.sl 0 rfl)) (fun hb23 => ?_) (fun hb23 => ?_)
 ·refine wp_seq ?_
  refine st_seq S21 1 [?_] [(true, 0), (false, 1), (false, 2), (false, 3), (false, 4), (false, 5)] ⟨?_, trivial⟩ (L' := [(36, ?_), (8, ?_), (6, ?_), (5, ?_), (4, ?_), (3, ?_)]) ?_ fun a24 w25 S26 => ?_
  rotate_left 7
  · exact opC S21 rfl fun c B => ⟨_, args_0, (awake4_any (hT.below B) c.ob)⟩
  · rfl
  refine t_asg S26 0 fun a28 S29 => ?_
  refine wpList_nil (then_normal ?_)
  refine wp_ret ?_
  exact st_endT S29 0 rfl fun v h => h
 ·have hq := hb23
  simp only [Bool.or_eq_false_iff, Bool.not_eq_false', Bool.and_eq_true] at hq
  obtain ⟨⟨⟨hx0, hy0⟩, hx1, hy1⟩, hx2⟩ := hq
  obtain ⟨paa, qaa, caa, daa, x30⟩ := bx_small (S21.bx 2 rfl) hx0 hy0
  have S31 := S21.reX 2 (q := .box g7 37 6 (mP (mK (paa) 4 (caa)) (mK (qaa) 4 (daa)))) rfl rfl x30
  obtain ⟨pbb, qbb, cbb, dbb, x32⟩ := bx_small (S31.bx 1 rfl) hx1 hy1
  have S33 := S31.reX 1 (q := .box g11 37 6 (mP (mK (pbb) 4 (cbb)) (mK (qbb) 4 (dbb)))) rfl rfl x32
  obtain ⟨pxx, cxx, x34⟩ := bx_small3 (S33.bx 0 rfl) hx2
  have S35 := S33.reX 0 (q := .box g15 26 3 (mK (pxx) 4 (cxx))) rfl rfl x34
  refine wp_skip (then_normal ?_)
  refine wp_seq ?_
  refine st_seq S35 6 [?_, ?_, ?_, ?_, ?_, ?_] [(true, 4), (true, 5), (false, 1), (false, 2), (false, 3), (false, 4), (false, 5)] ⟨?_, ?_, ?_, ?_, ?_, ?_, trivial⟩ (L' := [(41, ?_), (42, ?_), (8, ?_), (6, ?_), (5, ?_), (4, ?_), (3, ?_)]) ?_ fun a36 w37 S38 => ?_
  rotate_left 13
  · exact opL S35 2 Tryz.underlying37 info_Interval fun c => (c.q 4 rfl)
  · exact opL S35 1 Tryz.underlying37 info_Interval fun c => (c.q 3 rfl)
  · exact opC S35 rfl fun c B => ⟨_, args_2 rfl rfl, (iv_div  (by omega) (by omega) (prK (c.h 0 rfl)) (prK (c.h 1 rfl)) (hT.below B) c.ob)⟩
  · exact opP S35 fun c => ⟨_, run_move rfl, (c.h 0 rfl)⟩
  · exact opP S35 fun c => ext_0 rfl (c.h 0 rfl)
  · exact opP S35 fun c => ext_1 rfl (c.h 0 rfl)
  · rfl
  refine t_alloc S38 zero_Interval (fun _ _ _ => bx_Interval) fun O a40 w41 g42 S43 => ?_
  refine t_sto S43 0 1 0 rfl (fun h => (mP.cv (fun _ h => (isE.cv h)) (fun _ h => (isE.cv h)) h)) (fun w44 S45 => ?_) info_Interval
  refine t_asg S45 2 fun a46 S47 => ?_
  refine wpList_nil (then_normal ?_)
  refine wp_seq ?_
  refine st_seq S47 6 [?_, ?_, ?_, ?_, ?_, ?_] [(true, 4), (true, 5), (false, 0), (false, 1), (false, 4), (false, 5), (false, 6), (false, 7), (false, 8)] ⟨?_, ?_, ?_, ?_, ?_, ?_, trivial⟩ (L' := [(47, ?_), (48, ?_), (10, ?_), (9, ?_), (8, ?_), (6, ?_), (5, ?_), (4, ?_), (3, ?_)]) ?_ fun a48 w49 S50 => ?_
  rotate_left 15
  · exact opL S47 3 Tryz.underlying37 info_Interval fun c => (c.q 7 rfl)
  · exact opL S47 2 Tryz.underlying37 info_Interval fun c => (c.q 6 rfl)
  · exact opC S47 rfl fun c B => ⟨_, args_2 rfl rfl, (r4_div  (by omega) (by omega) (prK (c.h 0 rfl)) (prK (c.h 1 rfl)) c.ob)⟩
  · exact opP S47 fun c => ⟨_, run_move rfl, (c.h 0 rfl)⟩
  · exact opP S47 fun c => ext_0 rfl (c.h 0 rfl)
  · exact opP S47 fun c => ext_1 rfl (c.h 0 rfl)
  · rfl
  refine t_alloc S50 zero_Interval (fun _ _ _ => bx_Interval) fun O a52 w53 g54 S55 => ?_
  refine t_sto S55 0 1 0 rfl (fun h => (mP.cv (fun _ h => (isE.cv h)) (fun _ h => (isE.cv h)) h)) (fun w56 S57 => ?_) info_Interval
  refine t_asg S57 2 fun a58 S59 => ?_
  refine wpList_nil (then_normal ?_)
  refine wp_seq ?_
  refine st_seq S59 6 [?_, ?_, ?_, ?_, ?_, ?_] [(true, 4), (true, 5), (false, 0), (false, 1), (false, 4), (false, 5), (false, 6), (false, 7), (false, 8), (false, 9), (false, 10)] ⟨?_, ?_, ?_, ?_, ?_, ?_, trivial⟩ (L' := [(53, ?_), (54, ?_), (12, ?_), (11, ?_), (10, ?_), (9, ?_), (8, ?_), (6, ?_), (5, ?_), (4, ?_), (3, ?_)]) ?_ fun a60 w61 S62 => ?_
  rotate_left 17
  · exact opL S59 4 Tryz.underlying37 info_Interval fun c => (c.q 9 rfl)
  · exact opL S59 3 Tryz.underlying37 info_Interval fun c => (c.q 8 rfl)
  · exact opC S59 rfl fun c B => ⟨_, args_2 rfl rfl, (iv_meet  (by omega) (by omega) (prK (c.h 0 rfl)) (prK (c.h 1 rfl)) (hT.below B) c.ob)⟩
  · exact opP S59 fun c => ⟨_, run_move rfl, (c.h 0 rfl)⟩
  · exact opP S59 fun c => ext_0 rfl (c.h 0 rfl)
  · exact opP S59 fun c => ext_1 rfl (c.h 0 rfl)
  · rfl
  refine t_alloc S62 zero_Interval (fun _ _ _ => bx_Interval) fun O a64 w65 g66 S67 => ?_
  refine t_sto S67 0 1 0 rfl (fun h => (mP.cv (fun _ h => (isE.cv h)) (fun _ h => (isE.cv h)) h)) (fun w68 S69 => ?_) info_Interval
  refine t_asg S69 2 fun a70 S71 => ?_
  refine wpList_nil (then_normal ?_)
  refine wp_seq ?_
  refine st_seq S71 6 [?_, ?_, ?_, ?_, ?_, ?_] [(true, 4), (true, 5), (false, 0), (false, 1), (false, 4), (false, 5), (false, 6), (false, 7), (false, 8), (false, 9), (false, 10), (false, 11), (false, 12)] ⟨?_, ?_, ?_, ?_, ?_, ?_, trivial⟩ (L' := [(59, ?_), (60, ?_), (14, ?_), (13, ?_), (12, ?_), (11, ?_), (10, ?_), (9, ?_), (8, ?_), (6, ?_), (5, ?_), (4, ?_), (3, ?_)]) ?_ fun a72 w73 S74 => ?_
  rotate_left 19
  · exact opL S71 5 Tryz.underlying37 info_Interval fun c => (c.q 11 rfl)
  · exact opL S71 4 Tryz.underlying37 info_Interval fun c => (c.q 10 rfl)
  · exact opC S71 rfl fun c B => ⟨_, args_2 rfl rfl, (r4_meet  (by omega) (by omega) (prK (c.h 0 rfl)) (prK (c.h 1 rfl)) c.ob)⟩
  · exact opP S71 fun c => ⟨_, run_move rfl, (c.h 0 rfl)⟩
  · exact opP S71 fun c => ext_0 rfl (c.h 0 rfl)
  · exact opP S71 fun c => ext_1 rfl (c.h 0 rfl)
  · rfl
  refine t_alloc S74 zero_Interval (fun _ _ _ => bx_Interval) fun O a76 w77 g78 S79 => ?_
  refine t_sto S79 0 1 0 rfl (fun h => (mP.cv (fun _ h => (isE.cv h)) (fun _ h => (isE.cv h)) h)) (fun w80 S81 => ?_) info_Interval
  refine t_asg S81 2 fun a82 S83 => ?_
  refine wpList_nil (then_normal ?_)
  refine wp_seq ?_
  refine wp_seq ?_
  refine st_mono S83 52 [?_, ?_, ?_, ?_, ?_, ?_, ?_, ?_, ?_, ?_, ?_, ?_, ?_, ?_, ?_, ?_, ?_, ?_, ?_, ?_, ?_, ?_, ?_, ?_, ?_, ?_, ?_, ?_, ?_, ?_, ?_, ?_, ?_, ?_, ?_, ?_, ?_, ?_, ?_, ?_, ?_, ?_, ?_, ?_, ?_, ?_, ?_, ?_, ?_, ?_, ?_, ?_] [(true, 51), (false, 10), (false, 12), (false, 13), (false, 14)] ⟨?_, ?_, ?_, ?_, ?_, ?_, ?_, ?_, ?_, ?_, ?_, ?_, ?_, ?_, ?_, ?_, ?_, ?_, ?_, ?_, ?_, ?_, ?_, ?_, ?_, ?_, ?_, ?_, ?_, ?_, ?_, ?_, ?_, ?_, ?_, ?_, ?_, ?_, ?_, ?_, ?_, ?_, ?_, ?_, ?_, ?_, ?_, ?_, ?_, ?_, ?_, ?_, trivial⟩ (L' := [(112, ?_), (8, ?_), (5, ?_), (4, ?_), (3, ?_)]) ?_ fun a84 w85 S86 => ?_
  rotate_left 57
  · exact opV S83 fun c => run_v (run_move rfl) (c.q 8 rfl)
  · exact opV S83 fun c => run_v (run_move rfl) (c.q 6 rfl)
  · exact opV S83 fun c => run_neq_same rfl (c.e 0 rfl) (c.e 1 rfl)
  · exact opV S83 fun c => run_v (run_move rfl) (c.e 0 rfl)
  · exact opT S83 0 (opV S83 fun c => run_v (run_move rfl) (c.q 4 rfl))
  · exact opT S83 0 (opV S83 fun c => run_v (run_move rfl) (c.q 0 rfl))
  · exact opT S83 2 (opV S83 fun c => run_neqb_same rfl (c.e 0 rfl) (c.e 1 rfl))
  · exact opE S83 fun c => ⟨_, run_pick rfl (c.e 0 rfl), pick_or fun h => (c.e 1 rfl)⟩
  · exact opV S83 fun c => run_v (run_move rfl) (c.e 0 rfl)
  · exact opT S83 0 (opL S83 3 Tryz.underlying37 info_Interval fun c => (c.q 9 rfl))
  · exact opT S83 0 (opL S83 2 Tryz.underlying37 info_Interval fun c => (c.q 7 rfl))
  · exact opT S83 2 (opC S83 rfl fun c B => ⟨_, args_2 rfl rfl, (r4_sameE (c.h 0 rfl) (c.h 1 rfl) c.ob)⟩)
  · exact opT S83 1 (opV S83 fun c => run_not rfl (c.e 0 rfl))
  · exact opE S83 fun c => ⟨_, run_pick rfl (c.e 0 rfl), pick_or fun h => (c.e 1 rfl)⟩
  · exact opV S83 fun c => run_v (run_move rfl) (c.e 0 rfl)
  · exact opT S83 0 (opL S83 1 Tryz.underlying37 info_Interval fun c => (c.q 5 rfl))
  · exact opT S83 0 (opL S83 0 Tryz.underlying37 info_Interval fun c => (c.q 1 rfl))
  · exact opT S83 2 (opC S83 rfl fun c B => ⟨_, args_2 rfl rfl, (r4_sameE (c.h 0 rfl) (c.h 1 rfl) c.ob)⟩)
  · exact opT S83 1 (opV S83 fun c => run_not rfl (c.e 0 rfl))
  · exact opE S83 fun c => ⟨_, run_pick rfl (c.e 0 rfl), pick_or fun h => (c.e 1 rfl)⟩
  · exact opV S83 fun c => run_v (run_move rfl) (c.e 0 rfl)
  · exact opT S83 0 (opL S83 6 Tryz.underlying37 info_Interval fun c => (c.q 13 rfl))
  · exact opT S83 1 (opC S83 rfl fun c B => ⟨_, args_1 rfl, (iv_valid (by omega) (c.h 0 rfl) (hT.below B) c.ob)⟩)
  · exact opT S83 0 (opL S83 6 Tryz.underlying37 info_Interval fun c => (c.q 13 rfl))
  · exact opT S83 2 (opC S83 rfl fun c B => ⟨_, args_1 rfl, (r4_valid (by omega) (c.h 0 rfl) c.ob)⟩)
  · exact opT S83 2 (opV S83 fun c => run_neqb_same rfl (c.e 0 rfl) (c.e 1 rfl))
  · exact opE S83 fun c => ⟨_, run_pick rfl (c.e 0 rfl), pick_or fun h => (c.e 1 rfl)⟩
  · exact opV S83 fun c => run_v (run_move rfl) (c.e 0 rfl)
  · exact opT S83 0 (opL S83 6 Tryz.underlying37 info_Interval fun c => (c.q 13 rfl))
  · exact opT S83 0 (opL S83 4 Tryz.underlying26 info_Rat fun c => (c.q 11 rfl))
  · exact opT S83 2 (opC S83 rfl fun c B => ⟨_, args_2 rfl rfl, (iv_containsN  (by omega) (by omega) (prK (c.h 0 rfl)) (isK.r (c.h 1 rfl)) (hT.below B) c.ob)⟩)
  · exact opT S83 0 (opL S83 6 Tryz.underlying37 info_Interval fun c => (c.q 13 rfl))
  · exact opT S83 0 (opL S83 4 Tryz.underlying26 info_Rat fun c => (c.q 11 rfl))
  · exact opT S83 3 (opC S83 rfl fun c B => ⟨_, args_2 rfl rfl, (r4_contains  (by omega) (by omega) (prK (c.h 0 rfl)) (isK.r (c.h 1 rfl)) c.ob)⟩)
  · exact opT S83 2 (opV S83 fun c => run_neqb_same rfl (c.e 0 rfl) (c.e 1 rfl))
  · exact opE S83 fun c => ⟨_, run_pick rfl (c.e 0 rfl), pick_or fun h => (c.e 1 rfl)⟩
  · exact opV S83 fun c => run_v (run_move rfl) (c.e 0 rfl)
  · exact opT S83 0 (opL S83 6 Tryz.underlying37 info_Interval fun c => (c.q 13 rfl))
  · exact opT S83 0 (opL S83 5 Tryz.underlying37 info_Interval fun c => (c.q 12 rfl))
  · exact opT S83 2 (opC S83 rfl fun c B => ⟨_, args_2 rfl rfl, (iv_insideN  (by omega) (by omega) (prK (c.h 0 rfl)) (prK (c.h 1 rfl)) (hT.below B) c.ob)⟩)
  · exact opT S83 0 (opL S83 6 Tryz.underlying37 info_Interval fun c => (c.q 13 rfl))
  · exact opT S83 0 (opL S83 5 Tryz.underlying37 info_Interval fun c => (c.q 12 rfl))
  · exact opT S83 3 (opC S83 rfl fun c B => ⟨_, args_2 rfl rfl, (r4_inside  (by omega) (by omega) (prK (c.h 0 rfl)) (prK (c.h 1 rfl)) c.ob)⟩)
  · exact opT S83 2 (opV S83 fun c => run_neqb_same rfl (c.e 0 rfl) (c.e 1 rfl))
  · exact opE S83 fun c => ⟨_, run_pick rfl (c.e 0 rfl), pick_or fun h => (c.e 1 rfl)⟩
  · exact opV S83 fun c => run_v (run_move rfl) (c.e 0 rfl)
  · exact opT S83 0 (opL S83 6 Tryz.underlying37 info_Interval fun c => (c.q 13 rfl))
  · exact opT S83 1 (opC S83 rfl fun c B => ⟨_, args_1 rfl, (iv_sign  (by omega) (prK (c.h 0 rfl)) c.ob)⟩)
  · exact opT S83 0 (opL S83 6 Tryz.underlying37 info_Interval fun c => (c.q 13 rfl))
  · exact opT S83 2 (opC S83 rfl fun c B => ⟨_, args_1 rfl, (r4_sign  (by omega) (prK (c.h 0 rfl)) c.ob)⟩)
  · exact opT S83 2 (opV S83 fun c => run_neq_same rfl (c.e 0 rfl) (c.e 1 rfl))
  · exact opE S83 fun c => ⟨_, run_pick rfl (c.e 0 rfl), pick_or fun h => (c.e 1 rfl)⟩
  · rfl
  refine wpList_nil (then_normal ?_)
  refine wp_cond_false (ev (S86.sl 0 rfl)) ?_
  refine wp_skip (then_normal ?_)
  refine wp_seq ?_
  refine wp_seq ?_
  refine st_seq S86 3 [?_, ?_, ?_] [(true, 0), (true, 2), (false, 1), (false, 2), (false, 3)] ⟨?_, ?_, ?_, trivial⟩ (L' := [(113, ?_), (115, ?_), (8, ?_), (5, ?_), (4, ?_)]) ?_ fun a88 w89 S90 => ?_
  rotate_left 8
  · exact opV S86 fun c => run_v (run_move rfl) (c.q 4 rfl)
  · exact opV S86 fun c => run_v (run_move rfl) (c.q 4 rfl)
  · exact opC S86 rfl fun c B => ⟨_, args_2 (c.e 0 rfl) rfl, (k_mod (j3) (20) (by omega) (by omega) (by omega) (by omega))⟩
  · rfl
  refine t_ints2 S90 (run_ints2 rfl (S90.e 0 rfl) (S90.e 1 rfl)) fun O a92 w93 g94 S95 => ?_
  refine t_val S95 (run_len_sl rfl Tryz.underlying47 (S95.e 0 rfl)) fun a96 S97 => ?_
  refine t_val S97 (run_moveC rfl) fun a98 S99 => ?_
  refine wpList_nil (then_normal ?_)
  refine wp_block ?_
  refine wp_loop_rounds 3 (rounds_go ?_)
  refine wp_seq ?_
  refine st_seq S99 1 [?_] [(true, 0), (false, 0), (false, 1), (false, 2), (false, 5), (false, 6), (false, 7)] ⟨?_, trivial⟩ (L' := [(119, ?_), (118, ?_), (117, ?_), (116, ?_), (8, ?_), (5, ?_), (4, ?_)]) ?_ fun a100 w101 S102 => ?_
  rotate_left 8
  · exact opV S99 fun c => run_v (u := .bool (true)) (run_lss rfl (c.q 0 rfl) (c.q 1 rfl)) rfl
  · rfl
  refine wpList_nil (then_normal ?_)
  refine wp_seq ?_
  refine wp_cond_true (ev (S102.sl 0 rfl)) ?_
  refine wp_skip (then_normal ?_)
  refine wp_seq ?_
  refine wp_block ?_
  refine wp_seq ?_
  refine st_seq S102 2 [?_, ?_] [(true, 0), (true, 1), (false, 0), (false, 1), (false, 2), (false, 3), (false, 4), (false, 5), (false, 6)] ⟨?_, ?_, trivial⟩ (L' := [(120, ?_), (121, ?_), (119, ?_), (118, ?_), (117, ?_), (116, ?_), (8, ?_), (5, ?_), (4, ?_)]) ?_ fun a104 w105 S106 => ?_
  rotate_left 11
  · exact opV S102 fun c => addr_sli2_0 rfl (c.q 3 rfl) (c.q 1 rfl)
  · exact opV S102 fun c => run_load_i rfl (c.e 0 rfl) (ints_0 (c.bx 0 rfl))
  · rfl
  refine t_asg S106 1 fun a108 S109 => ?_
  refine wpList_nil (then_normal ?_)
  refine wp_seq ?_
  refine st_seq S109 6 [?_, ?_, ?_, ?_, ?_, ?_] [(true, 0), (true, 1), (true, 2), (true, 3), (true, 4), (true, 5), (false, 0), (false, 1), (false, 2), (false, 3), (false, 4), (false, 5), (false, 6), (false, 7), (false, 8), (false, 9)] ⟨?_, ?_, ?_, ?_, ?_, ?_, trivial⟩ (L' := [(123, ?_), (124, ?_), (125, ?_), (122, ?_), (126, ?_), (127, ?_), (18, ?_), (120, ?_), (121, ?_), (119, ?_), (118, ?_), (117, ?_), (116, ?_), (8, ?_), (5, ?_), (4, ?_)]) ?_ fun a110 w111 S112 => ?_
  rotate_left 22
  · exact opL S109 7 Tryz.underlying37 info_Interval fun c => (c.q 9 rfl)
  · exact opV S109 fun c => run_v (run_move rfl) (c.q 0 rfl)
  · exact opC S109 rfl fun c B => ⟨_, args_2 rfl (c.e 1 rfl), (iv_round (j3) (by omega) (by omega) (by omega) (prK (c.h 0 rfl)) (hT.below B) c.ob)⟩
  · exact opP S109 fun c => ⟨_, run_move rfl, (c.h 0 rfl)⟩
  · exact opP S109 fun c => ext_0 rfl (c.h 0 rfl)
  · exact opP S109 fun c => ext_1 rfl (c.h 0 rfl)
  · rfl
  refine t_alloc S112 zero_Interval (fun _ _ _ => bx_Interval) fun O a114 w115 g116 S117 => ?_
  refine t_sto S117 0 5 0 rfl (fun h => (mP.cv (fun _ h => (isE.cv h)) (fun _ h => (isE.cv h)) h)) (fun w118 S119 => ?_) info_Interval
  refine t_asg S119 6 fun a120 S121 => ?_
  refine wpList_nil (then_normal ?_)
  refine wp_seq ?_
  refine st_seq S121 6 [?_, ?_, ?_, ?_, ?_, ?_] [(true, 0), (true, 1), (true, 2), (true, 3), (true, 4), (true, 5), (false, 0), (false, 1), (false, 2), (false, 3), (false, 4), (false, 5), (false, 6), (false, 7), (false, 8), (false, 9), (false, 10), (false, 11), (false, 12), (false, 13), (false, 14), (false, 15), (false, 16), (false, 17)] ⟨?_, ?_, ?_, ?_, ?_, ?_, trivial⟩ (L' := [(129, ?_), (130, ?_), (131, ?_), (128, ?_), (132, ?_), (133, ?_), (20, ?_), (19, ?_), (123, ?_), (124, ?_), (125, ?_), (122, ?_), (126, ?_), (127, ?_), (18, ?_), (120, ?_), (121, ?_), (119, ?_), (118, ?_), (117, ?_), (116, ?_), (8, ?_), (5, ?_), (4, ?_)]) ?_ fun a122 w123 S124 => ?_
  rotate_left 30
  · exact opL S121 8 Tryz.underlying37 info_Interval fun c => (c.q 17 rfl)
  · exact opV S121 fun c => run_v (run_move rfl) (c.q 8 rfl)
  · exact opC S121 rfl fun c B => ⟨_, args_2 rfl (c.e 1 rfl), (r4_round (j3) (by omega) (by omega) (by omega) (prK (c.h 0 rfl)) c.ob)⟩
  · exact opP S121 fun c => ⟨_, run_move rfl, (c.h 0 rfl)⟩
  · exact opP S121 fun c => ext_0 rfl (c.h 0 rfl)
  · exact opP S121 fun c => ext_1 rfl (c.h 0 rfl)
  · rfl
  refine t_alloc S124 zero_Interval (fun _ _ _ => bx_Interval) fun O a126 w127 g128 S129 => ?_
  refine t_sto S129 0 5 0 rfl (fun h => (mP.cv (fun _ h => (isE.cv h)) (fun _ h => (isE.cv h)) h)) (fun w130 S131 => ?_) info_Interval
  refine t_asg S131 6 fun a132 S133 => ?_
  refine wpList_nil (then_normal ?_)
  refine wp_seq ?_
  refine st_seq S133 9 [?_, ?_, ?_, ?_, ?_, ?_, ?_, ?_, ?_] [(true, 0), (true, 1), (true, 2), (true, 3), (true, 4), (true, 5), (true, 6), (true, 7), (true, 8), (false, 0), (false, 1), (false, 2), (false, 3), (false, 4), (false, 5), (false, 6), (false, 7), (false, 8), (false, 9), (false, 10), (false, 11), (false, 12), (false, 13), (false, 14), (false, 15), (false, 16), (false, 17), (false, 18), (false, 19), (false, 20), (false, 21), (false, 22), (false, 23), (false, 24), (false, 25)] ⟨?_, ?_, ?_, ?_, ?_, ?_, ?_, ?_, ?_, trivial⟩ (L' := [(134, ?_), (135, ?_), (136, ?_), (137, ?_), (138, ?_), (139, ?_), (140, ?_), (141, ?_), (142, ?_), (22, ?_), (21, ?_), (129, ?_), (130, ?_), (131, ?_), (128, ?_), (132, ?_), (133, ?_), (20, ?_), (19, ?_), (123, ?_), (124, ?_), (125, ?_), (122, ?_), (126, ?_), (127, ?_), (18, ?_), (120, ?_), (121, ?_), (119, ?_), (118, ?_), (117, ?_), (116, ?_), (8, ?_), (5, ?_), (4, ?_)]) ?_ fun a134 w135 S136 => ?_
  rotate_left 44
  · exact opV S133 fun c => run_v (run_move rfl) (c.q 8 rfl)
  · exact opV S133 fun c => run_v (run_move rfl) (c.q 0 rfl)
  · exact opV S133 fun c => run_neq_same rfl (c.e 0 rfl) (c.e 1 rfl)
  · exact opV S133 fun c => run_v (run_move rfl) (c.e 0 rfl)
  · exact opT S133 0 (opL S133 1 Tryz.underlying37 info_Interval fun c => (c.q 9 rfl))
  · exact opT S133 0 (opL S133 0 Tryz.underlying37 info_Interval fun c => (c.q 1 rfl))
  · exact opT S133 2 (opC S133 rfl fun c B => ⟨_, args_2 rfl rfl, (r4_sameE (c.h 0 rfl) (c.h 1 rfl) c.ob)⟩)
  · exact opT S133 1 (opV S133 fun c => run_not rfl (c.e 0 rfl))
  · exact opE S133 fun c => ⟨_, run_pick rfl (c.e 0 rfl), pick_or fun h => (c.e 1 rfl)⟩
  · rfl
  refine wpList_nil (then_normal ?_)
  refine wp_cond_false (ev (S136.sl 8 rfl)) ?_
  refine wp_skip (in_normal (then_normal ?_))
  refine st_seq S136 1 [?_] [(true, 0), (false, 0), (false, 1), (false, 2), (false, 3), (false, 4), (false, 5), (false, 6), (false, 7), (false, 8), (false, 9), (false, 10), (false, 11), (false, 12), (false, 13), (false, 14), (false, 15), (false, 16), (false, 17), (false, 18), (false, 19), (false, 20), (false, 21), (false, 22), (false, 23), (false, 24), (false, 25), (false, 26), (false, 27), (false, 28), (false, 29), (false, 30), (false, 31), (false, 32), (false, 33), (false, 34)] ⟨?_, trivial⟩ (L' := [(143, ?_), (134, ?_), (135, ?_), (136, ?_), (137, ?_), (138, ?_), (139, ?_), (140, ?_), (141, ?_), (142, ?_), (22, ?_), (21, ?_), (129, ?_), (130, ?_), (131, ?_), (128, ?_), (132, ?_), (133, ?_), (20, ?_), (19, ?_), (123, ?_), (124, ?_), (125, ?_), (122, ?_), (126, ?_), (127, ?_), (18, ?_), (120, ?_), (121, ?_), (119, ?_), (118, ?_), (117, ?_), (116, ?_), (8, ?_), (5, ?_), (4, ?_)]) ?_ fun a138 w139 S140 => ?_
  rotate_left 37
  · exact opV S136 fun c => run_v (u := .int .i64 (1)) (run_add rfl (c.q 29 rfl) rfl (by omega) (by omega)) rfl
  · rfl
  refine t_val S140 (run_v (run_move rfl) (S140.e 0 rfl)) fun a142 S143 => ?_
  refine wpList_nil (then_normal ?_)
  refine rounds_go ?_
  refine wp_seq ?_
  refine st_seq S143 1 [?_] [(true, 0), (false, 0), (false, 1), (false, 2), (false, 3), (false, 4), (false, 5), (false, 6), (false, 7), (false, 8), (false, 9), (false, 10), (false, 11), (false, 12), (false, 13), (false, 14), (false, 15), (false, 16), (false, 17), (false, 18), (false, 19), (false, 20), (false, 21), (false, 22), (false, 23), (false, 24), (false, 25), (false, 26), (false, 27), (false, 28), (false, 29), (false, 31), (false, 32), (false, 33), (false, 34), (false, 35)] ⟨?_, trivial⟩ (L' := [(119, ?_), (118, ?_), (143, ?_), (134, ?_), (135, ?_), (136, ?_), (137, ?_), (138, ?_), (139, ?_), (140, ?_), (141, ?_), (142, ?_), (22, ?_), (21, ?_), (129, ?_), (130, ?_), (131, ?_), (128, ?_), (132, ?_), (133, ?_), (20, ?_), (19, ?_), (123, ?_), (124, ?_), (125, ?_), (122, ?_), (126, ?_), (127, ?_), (18, ?_), (120, ?_), (121, ?_), (117, ?_), (116, ?_), (8, ?_), (5, ?_), (4, ?_)]) ?_ fun a144 w145 S146 => ?_
  rotate_left 37
  · exact opV S143 fun c => run_v (u := .bool (true)) (run_lss rfl (c.q 0 rfl) (c.q 31 rfl)) rfl
  · rfl
  refine wpList_nil (then_normal ?_)
  refine wp_seq ?_
  refine wp_cond_true (ev (S146.sl 0 rfl)) ?_
  refine wp_skip (then_normal ?_)
  refine wp_seq ?_
  refine wp_block ?_
  refine wp_seq ?_
  refine st_seq S146 2 [?_, ?_] [(true, 0), (true, 1), (false, 0), (false, 1), (false, 2), (false, 3), (false, 4), (false, 5), (false, 6), (false, 7), (false, 8), (false, 9), (false, 10), (false, 11), (false, 12), (false, 13), (false, 14), (false, 15), (false, 16), (false, 17), (false, 18), (false, 19), (false, 20), (false, 21), (false, 22), (false, 23), (false, 24), (false, 25), (false, 26), (false, 27), (false, 28), (false, 31), (false, 32), (false, 33), (false, 34), (false, 35)] ⟨?_, ?_, trivial⟩ (L' := [(120, ?_), (121, ?_), (119, ?_), (118, ?_), (143, ?_), (134, ?_), (135, ?_), (136, ?_), (137, ?_), (138, ?_), (139, ?_), (140, ?_), (141, ?_), (142, ?_), (22, ?_), (21, ?_), (129, ?_), (130, ?_), (131, ?_), (128, ?_), (132, ?_), (133, ?_), (20, ?_), (19, ?_), (123, ?_), (124, ?_), (125, ?_), (122, ?_), (126, ?_), (127, ?_), (18, ?_), (117, ?_), (116, ?_), (8, ?_), (5, ?_), (4, ?_)]) ?_ fun a148 w149 S150 => ?_
  rotate_left 38
  · exact opV S146 fun c => addr_sli2_1 rfl (c.q 32 rfl) (c.q 1 rfl)
  · exact opV S146 fun c => run_load_i rfl (c.e 0 rfl) (ints_1 (c.bx 2 rfl))
  · rfl
  refine t_asg S150 1 fun a152 S153 => ?_
  refine wpList_nil (then_normal ?_)
  refine wp_seq ?_
  refine st_seq S153 6 [?_, ?_, ?_, ?_, ?_, ?_] [(true, 0), (true, 1), (true, 2), (true, 3), (true, 4), (true, 5), (false, 0), (false, 1), (false, 2), (false, 3), (false, 4), (false, 5), (false, 6), (false, 7), (false, 8), (false, 9), (false, 10), (false, 11), (false, 12), (false, 13), (false, 14), (false, 15), (false, 16), (false, 17), (false, 18), (false, 19), (false, 20), (false, 21), (false, 22), (false, 23), (false, 24), (false, 31), (false, 32), (false, 33), (false, 34), (false, 35)] ⟨?_, ?_, ?_, ?_, ?_, ?_, trivial⟩ (L' := [(123, ?_), (124, ?_), (125, ?_), (122, ?_), (126, ?_), (127, ?_), (18, ?_), (120, ?_), (121, ?_), (119, ?_), (118, ?_), (143, ?_), (134, ?_), (135, ?_), (136, ?_), (137, ?_), (138, ?_), (139, ?_), (140, ?_), (141, ?_), (142, ?_), (22, ?_), (21, ?_), (129, ?_), (130, ?_), (131, ?_), (128, ?_), (132, ?_), (133, ?_), (20, ?_), (19, ?_), (117, ?_), (116, ?_), (8, ?_), (5, ?_), (4, ?_)]) ?_ fun a154 w155 S156 => ?_
  rotate_left 42
  · exact opL S153 9 Tryz.underlying37 info_Interval fun c => (c.q 35 rfl)
  · exact opV S153 fun c => run_v (run_move rfl) (c.q 0 rfl)
  · exact opC S153 rfl fun c B => ⟨_, args_2 rfl (c.e 1 rfl), (iv_round ((j3) % (20)) (by omega) (by omega) (by omega) (prK (c.h 0 rfl)) (hT.below B) c.ob)⟩
  · exact opP S153 fun c => ⟨_, run_move rfl, (c.h 0 rfl)⟩
  · exact opP S153 fun c => ext_0 rfl (c.h 0 rfl)
  · exact opP S153 fun c => ext_1 rfl (c.h 0 rfl)
  · rfl
  refine t_alloc S156 zero_Interval (fun _ _ _ => bx_Interval) fun O a158 w159 g160 S161 => ?_
  refine t_sto S161 0 5 0 rfl (fun h => (mP.cv (fun _ h => (isE.cv h)) (fun _ h => (isE.cv h)) h)) (fun w162 S163 => ?_) info_Interval
  refine t_asg S163 6 fun a164 S165 => ?_
  refine wpList_nil (then_normal ?_)
  refine wp_seq ?_
  refine st_seq S165 6 [?_, ?_, ?_, ?_, ?_, ?_] [(true, 0), (true, 1), (true, 2), (true, 3), (true, 4), (true, 5), (false, 0), (false, 1), (false, 2), (false, 3), (false, 4), (false, 5), (false, 6), (false, 7), (false, 8), (false, 9), (false, 10), (false, 11), (false, 12), (false, 13), (false, 14), (false, 15), (false, 16), (false, 17), (false, 18), (false, 19), (false, 20), (false, 21), (false, 22), (false, 23), (false, 24), (false, 31), (false, 32), (false, 33), (false, 34), (false, 35)] ⟨?_, ?_, ?_, ?_, ?_, ?_, trivial⟩ (L' := [(129, ?_), (130, ?_), (131, ?_), (128, ?_), (132, ?_), (133, ?_), (20, ?_), (19, ?_), (123, ?_), (124, ?_), (125, ?_), (122, ?_), (126, ?_), (127, ?_), (18, ?_), (120, ?_), (121, ?_), (119, ?_), (118, ?_), (143, ?_), (134, ?_), (135, ?_), (136, ?_), (137, ?_), (138, ?_), (139, ?_), (140, ?_), (141, ?_), (142, ?_), (22, ?_), (21, ?_), (117, ?_), (116, ?_), (8, ?_), (5, ?_), (4, ?_)]) ?_ fun a166 w167 S168 => ?_
  rotate_left 42
  · exact opL S165 10 Tryz.underlying37 info_Interval fun c => (c.q 35 rfl)
  · exact opV S165 fun c => run_v (run_move rfl) (c.q 8 rfl)
  · exact opC S165 rfl fun c B => ⟨_, args_2 rfl (c.e 1 rfl), (r4_round ((j3) % (20)) (by omega) (by omega) (by omega) (prK (c.h 0 rfl)) c.ob)⟩
  · exact opP S165 fun c => ⟨_, run_move rfl, (c.h 0 rfl)⟩
  · exact opP S165 fun c => ext_0 rfl (c.h 0 rfl)
  · exact opP S165 fun c => ext_1 rfl (c.h 0 rfl)
  · rfl
  refine t_alloc S168 zero_Interval (fun _ _ _ => bx_Interval) fun O a170 w171 g172 S173 => ?_
  refine t_sto S173 0 5 0 rfl (fun h => (mP.cv (fun _ h => (isE.cv h)) (fun _ h => (isE.cv h)) h)) (fun w174 S175 => ?_) info_Interval
  refine t_asg S175 6 fun a176 S177 => ?_
  refine wpList_nil (then_normal ?_)
  refine wp_seq ?_
  refine st_seq S177 9 [?_, ?_, ?_, ?_, ?_, ?_, ?_, ?_, ?_] [(true, 0), (true, 1), (true, 2), (true, 3), (true, 4), (true, 5), (true, 6), (true, 7), (true, 8), (false, 0), (false, 1), (false, 2), (false, 3), (false, 4), (false, 5), (false, 6), (false, 7), (false, 8), (false, 9), (false, 10), (false, 11), (false, 12), (false, 13), (false, 14), (false, 15), (false, 16), (false, 17), (false, 18), (false, 19), (false, 20), (false, 21), (false, 31), (false, 32), (false, 33), (false, 34), (false, 35)] ⟨?_, ?_, ?_, ?_, ?_, ?_, ?_, ?_, ?_, trivial⟩ (L' := [(134, ?_), (135, ?_), (136, ?_), (137, ?_), (138, ?_), (139, ?_), (140, ?_), (141, ?_), (142, ?_), (22, ?_), (21, ?_), (129, ?_), (130, ?_), (131, ?_), (128, ?_), (132, ?_), (133, ?_), (20, ?_), (19, ?_), (123, ?_), (124, ?_), (125, ?_), (122, ?_), (126, ?_), (127, ?_), (18, ?_), (120, ?_), (121, ?_), (119, ?_), (118, ?_), (143, ?_), (117, ?_), (116, ?_), (8, ?_), (5, ?_), (4, ?_)]) ?_ fun a178 w179 S180 => ?_
  rotate_left 45
  · exact opV S177 fun c => run_v (run_move rfl) (c.q 8 rfl)
  · exact opV S177 fun c => run_v (run_move rfl) (c.q 0 rfl)
  · exact opV S177 fun c => run_neq_same rfl (c.e 0 rfl) (c.e 1 rfl)
  · exact opV S177 fun c => run_v (run_move rfl) (c.e 0 rfl)
  · exact opT S177 0 (opL S177 1 Tryz.underlying37 info_Interval fun c => (c.q 9 rfl))
  · exact opT S177 0 (opL S177 0 Tryz.underlying37 info_Interval fun c => (c.q 1 rfl))
  · exact opT S177 2 (opC S177 rfl fun c B => ⟨_, args_2 rfl rfl, (r4_sameE (c.h 0 rfl) (c.h 1 rfl) c.ob)⟩)
  · exact opT S177 1 (opV S177 fun c => run_not rfl (c.e 0 rfl))
  · exact opE S177 fun c => ⟨_, run_pick rfl (c.e 0 rfl), pick_or fun h => (c.e 1 rfl)⟩
  · rfl
  refine wpList_nil (then_normal ?_)
  refine wp_cond_false (ev (S180.sl 8 rfl)) ?_
  refine wp_skip (in_normal (then_normal ?_))
  refine st_seq S180 1 [?_] [(true, 0), (false, 0), (false, 1), (false, 2), (false, 3), (false, 4), (false, 5), (false, 6), (false, 7), (false, 8), (false, 9), (false, 10), (false, 11), (false, 12), (false, 13), (false, 14), (false, 15), (false, 16), (false, 17), (false, 18), (false, 19), (false, 20), (false, 21), (false, 22), (false, 23), (false, 24), (false, 25), (false, 26), (false, 27), (false, 28), (false, 29), (false, 31), (false, 32), (false, 33), (false, 34), (false, 35)] ⟨?_, trivial⟩ (L' := [(143, ?_), (134, ?_), (135, ?_), (136, ?_), (137, ?_), (138, ?_), (139, ?_), (140, ?_), (141, ?_), (142, ?_), (22, ?_), (21, ?_), (129, ?_), (130, ?_), (131, ?_), (128, ?_), (132, ?_), (133, ?_), (20, ?_), (19, ?_), (123, ?_), (124, ?_), (125, ?_), (122, ?_), (126, ?_), (127, ?_), (18, ?_), (120, ?_), (121, ?_), (119, ?_), (118, ?_), (117, ?_), (116, ?_), (8, ?_), (5, ?_), (4, ?_)]) ?_ fun a182 w183 S184 => ?_
  rotate_left 37
  · exact opV S180 fun c => run_v (u := .int .i64 (2)) (run_add rfl (c.q 29 rfl) rfl (by omega) (by omega)) rfl
  · rfl
  refine t_val S184 (run_v (run_move rfl) (S184.e 0 rfl)) fun a186 S187 => ?_
  refine wpList_nil (then_normal ?_)
  refine rounds_go ?_
  refine wp_seq ?_
  refine st_seq S187 1 [?_] [(true, 0), (false, 0), (false, 1), (false, 2), (false, 3), (false, 4), (false, 5), (false, 6), (false, 7), (false, 8), (false, 9), (false, 10), (false, 11), (false, 12), (false, 13), (false, 14), (false, 15), (false, 16), (false, 17), (false, 18), (false, 19), (false, 20), (false, 21), (false, 22), (false, 23), (false, 24), (false, 25), (false, 26), (false, 27), (false, 28), (false, 29), (false, 31), (false, 32), (false, 33), (false, 34), (false, 35)] ⟨?_, trivial⟩ (L' := [(119, ?_), (118, ?_), (143, ?_), (134, ?_), (135, ?_), (136, ?_), (137, ?_), (138, ?_), (139, ?_), (140, ?_), (141, ?_), (142, ?_), (22, ?_), (21, ?_), (129, ?_), (130, ?_), (131, ?_), (128, ?_), (132, ?_), (133, ?_), (20, ?_), (19, ?_), (123, ?_), (124, ?_), (125, ?_), (122, ?_), (126, ?_), (127, ?_), (18, ?_), (120, ?_), (121, ?_), (117, ?_), (116, ?_), (8, ?_), (5, ?_), (4, ?_)]) ?_ fun a188 w189 S190 => ?_
  rotate_left 37
  · exact opV S187 fun c => run_v (u := .bool (false)) (run_lss rfl (c.q 0 rfl) (c.q 31 rfl)) rfl
  · rfl
  refine wpList_nil (then_normal ?_)
  refine wp_seq ?_
  refine wp_cond_false (ev (S190.sl 0 rfl)) ?_
  refine wp_exit ?_
  repeat (first | refine exit_in ?_ | refine exit_then ?_ | refine exit_out (by decide) ?_)
  refine (then_normal ?_)
  refine wp_seq ?_
  refine st_mono S190 78 [?_, ?_, ?_, ?_, ?_, ?_, ?_, ?_, ?_, ?_, ?_, ?_, ?_, ?_, ?_, ?_, ?_, ?_, ?_, ?_, ?_, ?_, ?_, ?_, ?_, ?_, ?_, ?_, ?_, ?_, ?_, ?_, ?_, ?_, ?_, ?_, ?_, ?_, ?_, ?_, ?_, ?_, ?_, ?_, ?_, ?_, ?_, ?_, ?_, ?_, ?_, ?_, ?_, ?_, ?_, ?_, ?_, ?_, ?_, ?_, ?_, ?_, ?_, ?_, ?_, ?_, ?_, ?_, ?_, ?_, ?_, ?_, ?_, ?_, ?_, ?_, ?_, ?_] [(true, 77), (false, 33)] ⟨?_, ?_, ?_, ?_, ?_, ?_, ?_, ?_, ?_, ?_, ?_, ?_, ?_, ?_, ?_, ?_, ?_, ?_, ?_, ?_, ?_, ?_, ?_, ?_, ?_, ?_, ?_, ?_, ?_, ?_, ?_, ?_, ?_, ?_, ?_, ?_, ?_, ?_, ?_, ?_, ?_, ?_, ?_, ?_, ?_, ?_, ?_, ?_, ?_, ?_, ?_, ?_, ?_, ?_, ?_, ?_, ?_, ?_, ?_, ?_, ?_, ?_, ?_, ?_, ?_, ?_, ?_, ?_, ?_, ?_, ?_, ?_, ?_, ?_, ?_, ?_, ?_, ?_, trivial⟩ (L' := [(221, ?_), (8, ?_)]) ?_ fun a192 w193 S194 => ?_
  rotate_left 80
  · exact opC S190 rfl fun c B => ⟨_, args_0, (awake4_any (hT.below B) c.ob)⟩
  · exact opV S190 fun c => run_v (run_move rfl) (c.e 0 rfl)
  · exact opT S190 0 (opL S190 11 Tryz.underlying37 info_Interval fun c => (c.q 35 rfl))
  · exact opT S190 1 (opC S190 rfl fun c B => ⟨_, args_1 rfl, (iv_trim  (by omega) (prK (c.h 0 rfl)) (hT.below B) c.ob)⟩)
  · exact opT S190 0 (opL S190 11 Tryz.underlying37 info_Interval fun c => (c.q 35 rfl))
  · exact opT S190 2 (opC S190 rfl fun c B => ⟨_, args_1 rfl, (r4_trim  (by omega) (prK (c.h 0 rfl)) c.ob)⟩)
  · exact opT S190 3 (opC S190 rfl fun c B => ⟨_, args_2 rfl rfl, (r4_sameC (c.h 0 rfl) (c.h 1 rfl) c.ob)⟩)
  · exact opE S190 fun c => ⟨_, run_pick rfl (c.e 0 rfl), pick_and (fun _ => (c.e 1 rfl))⟩
  · exact opV S190 fun c => run_v (run_move rfl) (c.e 0 rfl)
  · exact opT S190 0 (opV S190 fun c => fa_Interval_0 rfl (c.q 35 rfl))
  · exact opT S190 1 (opP S190 fun c => ld_part rfl (c.e 0 rfl) (c.bx 11 rfl).lo Tryz.underlying26 info_Rat)
  · exact opT S190 0 (opV S190 fun c => fa_Interval_1 rfl (c.q 34 rfl))
  · exact opT S190 1 (opP S190 fun c => ld_part rfl (c.e 0 rfl) (c.bx 10 rfl).hi Tryz.underlying26 info_Rat)
  · exact opT S190 2 (opC S190 rfl fun c B => ⟨_, args_2 rfl rfl, (iv_make  (by omega) (by omega) (isK.r (c.h 0 rfl)) (isK.r (c.h 1 rfl)) (hT.below B) c.ob)⟩)
  · exact opT S190 0 (opV S190 fun c => fa_Interval_0 rfl (c.q 35 rfl))
  · exact opT S190 1 (opP S190 fun c => ld_part rfl (c.e 0 rfl) (c.bx 11 rfl).lo Tryz.underlying26 info_Rat)
  · exact opT S190 0 (opV S190 fun c => fa_Interval_1 rfl (c.q 34 rfl))
  · exact opT S190 1 (opP S190 fun c => ld_part rfl (c.e 0 rfl) (c.bx 10 rfl).hi Tryz.underlying26 info_Rat)
  · exact opT S190 3 (opC S190 rfl fun c B => ⟨_, args_2 rfl rfl, (r4_make  (by omega) (by omega) (isK.r (c.h 0 rfl)) (isK.r (c.h 1 rfl)) c.ob)⟩)
  · exact opT S190 3 (opC S190 rfl fun c B => ⟨_, args_2 rfl rfl, (r4_sameC (c.h 0 rfl) (c.h 1 rfl) c.ob)⟩)
  · exact opE S190 fun c => ⟨_, run_pick rfl (c.e 0 rfl), pick_and (fun _ => (c.e 1 rfl))⟩
  · exact opV S190 fun c => run_v (run_move rfl) (c.e 0 rfl)
  · exact opT S190 0 (opL S190 11 Tryz.underlying37 info_Interval fun c => (c.q 35 rfl))
  · exact opT S190 1 (opC S190 rfl fun c B => ⟨_, args_1 rfl, (iv_widthM  (by omega) (prK (c.h 0 rfl)) (hT.below B) c.ob)⟩)
  · exact opT S190 0 (opL S190 11 Tryz.underlying37 info_Interval fun c => (c.q 35 rfl))
  · exact opT S190 2 (opC S190 rfl fun c B => ⟨_, args_1 rfl, (r4_width  (by omega) (prK (c.h 0 rfl)) c.ob)⟩)
  · exact opT S190 3 (opC S190 rfl fun c B => ⟨_, args_2 rfl rfl, (r_sameC (c.h 0 rfl) (c.h 1 rfl))⟩)
  · exact opE S190 fun c => ⟨_, run_pick rfl (c.e 0 rfl), pick_and (fun _ => (c.e 1 rfl))⟩
  · exact opV S190 fun c => run_v (run_move rfl) (c.e 0 rfl)
  · exact opT S190 0 (opL S190 11 Tryz.underlying37 info_Interval fun c => (c.q 35 rfl))
  · exact opT S190 1 (opC S190 rfl fun c B => ⟨_, args_1 rfl, (iv_mid  (by omega) (prK (c.h 0 rfl)) (hT.below B) c.ob)⟩)
  · exact opT S190 0 (opL S190 11 Tryz.underlying37 info_Interval fun c => (c.q 35 rfl))
  · exact opT S190 2 (opC S190 rfl fun c B => ⟨_, args_1 rfl, (r4_mid  (by omega) (prK (c.h 0 rfl)) c.ob)⟩)
  · exact opT S190 3 (opC S190 rfl fun c B => ⟨_, args_2 rfl rfl, (r_sameC (c.h 0 rfl) (c.h 1 rfl))⟩)
  · exact opE S190 fun c => ⟨_, run_pick rfl (c.e 0 rfl), pick_and (fun _ => (c.e 1 rfl))⟩
  · exact opV S190 fun c => run_v (run_move rfl) (c.e 0 rfl)
  · exact opT S190 0 (opL S190 11 Tryz.underlying37 info_Interval fun c => (c.q 35 rfl))
  · exact opT S190 0 (opL S190 10 Tryz.underlying37 info_Interval fun c => (c.q 34 rfl))
  · exact opT S190 2 (opC S190 rfl fun c B => ⟨_, args_2 rfl rfl, (iv_add  (by omega) (by omega) (prK (c.h 0 rfl)) (prK (c.h 1 rfl)) (hT.below B) c.ob)⟩)
  · exact opT S190 0 (opL S190 11 Tryz.underlying37 info_Interval fun c => (c.q 35 rfl))
  · exact opT S190 0 (opL S190 10 Tryz.underlying37 info_Interval fun c => (c.q 34 rfl))
  · exact opT S190 3 (opC S190 rfl fun c B => ⟨_, args_2 rfl rfl, (r4_add  (by omega) (by omega) (prK (c.h 0 rfl)) (prK (c.h 1 rfl)) c.ob)⟩)
  · exact opT S190 3 (opC S190 rfl fun c B => ⟨_, args_2 rfl rfl, (r4_sameC (c.h 0 rfl) (c.h 1 rfl) c.ob)⟩)
  · exact opE S190 fun c => ⟨_, run_pick rfl (c.e 0 rfl), pick_and (fun _ => (c.e 1 rfl))⟩
  · exact opV S190 fun c => run_v (run_move rfl) (c.e 0 rfl)
  · exact opT S190 0 (opL S190 11 Tryz.underlying37 info_Interval fun c => (c.q 35 rfl))
  · exact opT S190 0 (opL S190 10 Tryz.underlying37 info_Interval fun c => (c.q 34 rfl))
  · exact opT S190 2 (opC S190 rfl fun c B => ⟨_, args_2 rfl rfl, (iv_sub  (by omega) (by omega) (prK (c.h 0 rfl)) (prK (c.h 1 rfl)) (hT.below B) c.ob)⟩)
  · exact opT S190 0 (opL S190 11 Tryz.underlying37 info_Interval fun c => (c.q 35 rfl))
  · exact opT S190 0 (opL S190 10 Tryz.underlying37 info_Interval fun c => (c.q 34 rfl))
  · exact opT S190 3 (opC S190 rfl fun c B => ⟨_, args_2 rfl rfl, (r4_sub  (by omega) (by omega) (prK (c.h 0 rfl)) (prK (c.h 1 rfl)) c.ob)⟩)
  · exact opT S190 3 (opC S190 rfl fun c B => ⟨_, args_2 rfl rfl, (r4_sameC (c.h 0 rfl) (c.h 1 rfl) c.ob)⟩)
  · exact opE S190 fun c => ⟨_, run_pick rfl (c.e 0 rfl), pick_and (fun _ => (c.e 1 rfl))⟩
  · exact opV S190 fun c => run_v (run_move rfl) (c.e 0 rfl)
  · exact opT S190 0 (opL S190 11 Tryz.underlying37 info_Interval fun c => (c.q 35 rfl))
  · exact opT S190 0 (opL S190 10 Tryz.underlying37 info_Interval fun c => (c.q 34 rfl))
  · exact opT S190 2 (opC S190 rfl fun c B => ⟨_, args_2 rfl rfl, (iv_mul  (by omega) (by omega) (prK (c.h 0 rfl)) (prK (c.h 1 rfl)) (hT.below B) c.ob)⟩)
  · exact opT S190 0 (opL S190 11 Tryz.underlying37 info_Interval fun c => (c.q 35 rfl))
  · exact opT S190 0 (opL S190 10 Tryz.underlying37 info_Interval fun c => (c.q 34 rfl))
  · exact opT S190 3 (opC S190 rfl fun c B => ⟨_, args_2 rfl rfl, (r4_mul  (by omega) (by omega) (prK (c.h 0 rfl)) (prK (c.h 1 rfl)) c.ob)⟩)
  · exact opT S190 3 (opC S190 rfl fun c B => ⟨_, args_2 rfl rfl, (r4_sameC (c.h 0 rfl) (c.h 1 rfl) c.ob)⟩)
  · exact opE S190 fun c => ⟨_, run_pick rfl (c.e 0 rfl), pick_and (fun _ => (c.e 1 rfl))⟩
  · exact opV S190 fun c => run_v (run_move rfl) (c.e 0 rfl)
  · exact opT S190 0 (opL S190 11 Tryz.underlying37 info_Interval fun c => (c.q 35 rfl))
  · exact opT S190 1 (opC S190 rfl fun c B => ⟨_, args_1 rfl, (iv_square  (by omega) (prK (c.h 0 rfl)) (hT.below B) c.ob)⟩)
  · exact opT S190 0 (opL S190 11 Tryz.underlying37 info_Interval fun c => (c.q 35 rfl))
  · exact opT S190 2 (opC S190 rfl fun c B => ⟨_, args_1 rfl, (r4_square  (by omega) (prK (c.h 0 rfl)) c.ob)⟩)
  · exact opT S190 3 (opC S190 rfl fun c B => ⟨_, args_2 rfl rfl, (r4_sameC (c.h 0 rfl) (c.h 1 rfl) c.ob)⟩)
  · exact opE S190 fun c => ⟨_, run_pick rfl (c.e 0 rfl), pick_and (fun _ => (c.e 1 rfl))⟩
  · exact opV S190 fun c => run_v (run_move rfl) (c.e 0 rfl)
  · exact opT S190 0 (opL S190 11 Tryz.underlying37 info_Interval fun c => (c.q 35 rfl))
  · exact opT S190 0 (opL S190 10 Tryz.underlying37 info_Interval fun c => (c.q 34 rfl))
  · exact opT S190 2 (opC S190 rfl fun c B => ⟨_, args_2 rfl rfl, (iv_hull  (by omega) (by omega) (prK (c.h 0 rfl)) (prK (c.h 1 rfl)) (hT.below B) c.ob)⟩)
  · exact opT S190 0 (opL S190 11 Tryz.underlying37 info_Interval fun c => (c.q 35 rfl))
  · exact opT S190 0 (opL S190 10 Tryz.underlying37 info_Interval fun c => (c.q 34 rfl))
  · exact opT S190 3 (opC S190 rfl fun c B => ⟨_, args_2 rfl rfl, (r4_hull  (by omega) (by omega) (prK (c.h 0 rfl)) (prK (c.h 1 rfl)) c.ob)⟩)
  · exact opT S190 3 (opC S190 rfl fun c B => ⟨_, args_2 rfl rfl, (r4_sameC (c.h 0 rfl) (c.h 1 rfl) c.ob)⟩)
  · exact opE S190 fun c => ⟨_, run_pick rfl (c.e 0 rfl), pick_and (fun _ => (c.e 1 rfl))⟩
  · rfl
  refine t_asg S194 0 fun a196 S197 => ?_
  refine wpList_nil (then_normal ?_)
  refine wp_ret ?_
  exact st_endT S197 0 rfl fun v h => h
end Go.Proofs.YtiljjhhkklnlgaaGreatDoor

namespace Go.Proofs.YtiljjhhkklnlgaaGreatDoor.intervalActs
open Go.ChangeShapes Go.WideShapes Go.ChangeAt Go.RowKit
open Go.ChangeMaps (open_string shut_string)

set_option linter.unusedVariables false
theorem lifted (os : Os) (started : os.Started) (H : Type) (enc : TypeId × Value → H) :
  ReturnsInHanded {} Tryz.checked os 4 .any (fun w args => (Rows.intervalActsSpec.pre enc Tryz.prog Tryz.f4 Rows.intervalActsRow.domain false w args ∧ laidMetH Tryz.prog Rows.intervalActsRow.laid w) ∧ sizedMet enc Tryz.prog Tryz.f4 (OpenSpec.ofChange Rows.intervalActsSpec) false w args)
   (Rows.intervalActsSpec.post enc Tryz.prog Tryz.f4 false true false false) := by
 refine returnsInHanded_of_change_and (C := Tryz.checked) (X := fun w _ => laidMetH Tryz.prog Rows.intervalActsRow.laid w) (fun _ _ _ hh h => h.of_heap hh) own started (by kernel_rfl) Tryz.func4
  (ChangeSpec.witness_shaped (enc := enc) (C := Tryz.checked) (os := os) (X := fun w _ => laidMetH Tryz.prog Rows.intervalActsRow.laid w) false (World.laidAll Tryz.prog os Rows.intervalActsRow.laid) #[.agg #[.bool false, .slice none 0 0, .slice none 0 0, .bool false, .slice none 0 0, .slice none 0 0], .agg #[.bool false, .slice none 0 0, .slice none 0 0, .bool false, .slice none 0 0, .slice none 0 0], .agg #[.bool false, .slice none 0 0, .slice none 0 0], .int .i64 0] 8 (World.laidAll_os _ _ _)
   (World.shaped_of_ZipB (by kernel_rfl) (by kernel_rfl)) (by kernel_rfl) (by kernel_rfl) (by kernel_rfl)
   (by rw [MakeChecks.laidMetH_plain _ _ _ (by kernel_rfl)]; exact laidMet_laidAll _ (by kernel_rfl) (by kernel_rfl))) ?_
 intro W base args ds gs before hval0 hW hcnd _ hL _
 have hval : ∀ (j : Nat) t v, Tryz.f4.params[j]? = some t → args[j]? = some v → Value.okWide Tryz.prog W .any base t v := hval0
 have hW' := hW
 obtain ⟨p, q, hA0, hV, rfl, hfz, hnd⟩ := hW
 have hA : DataW.TrodAll enc Tryz.prog W 0 (fun _ => true) true Tryz.f4.params.toList args.toList ds p := hA0
 rw [Tryz.params4] at hA hval
 obtain ⟨v0, vs0, d0, ds0, p0, q0, hargs, rfl, rfl, h0, r0⟩ := trodAll_cons hA
 obtain ⟨v1, vs1, d1, ds1, p1, q1, rfl, rfl, rfl, h1, r1⟩ := trodAll_cons r0
 obtain ⟨v2, vs2, d2, ds2, p2, q2, rfl, rfl, rfl, h2, r2⟩ := trodAll_cons r1
 obtain ⟨v3, vs3, d3, ds3, p3, q3, rfl, rfl, rfl, h3, r3⟩ := trodAll_cons r2
 obtain ⟨rfl, rfl, rfl⟩ := trodAll_nil r3
 obtain rfl : args = #[v0, v1, v2, v3] := by cases args; simp_all
 obtain ⟨rfl, rfl⟩ := trodVars_none hV
 have k0 := h0
 have lt0 : ∀ x ∈ p0, x.block < W.heap.size := by obtain ⟨m, hm⟩ := k0; exact DataW.trod_lt m _ _ _ hm
 obtain ⟨x0, y0, hf0⟩ := open_interval (O := fun _ => False) (hval 0 37 v0 rfl rfl) h0
 have k1 := h1
 have lt1 : ∀ x ∈ p1, x.block < W.heap.size := by obtain ⟨m, hm⟩ := k1; exact DataW.trod_lt m _ _ _ hm
 obtain ⟨x1, y1, hf1⟩ := open_interval (O := fun _ => False) (hval 1 37 v1 rfl rfl) h1
 have k2 := h2
 have lt2 : ∀ x ∈ p2, x.block < W.heap.size := by obtain ⟨m, hm⟩ := k2; exact DataW.trod_lt m _ _ _ hm
 obtain ⟨x2, hf2⟩ := open_ratS (O := fun _ => False) (hval 2 26 v2 rfl rfl) h2
 obtain ⟨a3, rfl, rfl, rfl, w3⟩ := open_int Tryz.underlying3 (hval 3 3 v3 rfl rfl) h3
 have ⟨w3a, w3b⟩ := Go.Joins.in64_of_wf w3
 clear hA0 hval0
 refine (walkIntervalActs (O := fun _ => False) a3 w3a w3b hf0 hf1 hf2 (tb_of_met (by rw [MakeChecks.laidMetH_plain _ _ _ (by kernel_rfl)] at hL; exact hL)) (fun _ h => h.elim)).mono fun e W' hr => ?_
 obtain ⟨vr, he, hvr, bel⟩ := hr
 obtain rfl : vr = .bool true := hvr
 subst he
 exact ⟨_, rfl, _, _, _, [], _, [], hW', trodAll_mk1 (shut_bool Tryz.underlying4 _), (trodAll_cons_mk (Below.trod laidOut (by kernel_rfl) (of_decide_eq_true (by kernel_rfl)) k0 bel lt0) (trodAll_cons_mk (Below.trod laidOut (by kernel_rfl) (of_decide_eq_true (by kernel_rfl)) k1 bel lt1) (trodAll_cons_mk (Below.trod laidOut (by kernel_rfl) (of_decide_eq_true (by kernel_rfl)) k2 bel lt2) (trodAll_cons_mk (shut_int Tryz.underlying3 w3) trodAll_mk0)))), rfl, bel.frame _, fun h => by cases h⟩

theorem both {a b : Bool} (h1 : a = true) (h2 : b = true) : (a && b) = true := by rw [h1, h2]; rfl

theorem closed : joinedFacts Tryz.prog 4 Tryz.f4 Rows.intervalActsSpec Rows.intervalActsRow = true := by
 unfold joinedFacts
 repeat' with_reducible refine both ?_ ?_
 all_goals (as_aux_lemma => kernel_rfl)

theorem over : Rows.IntervalActsSaid :=
 OpenClaim.holds_of_wide 4 Tryz.f4 rfl rfl rfl rfl rfl rfl rfl ⟨rfl, rfl, rfl, rfl, rfl⟩ rfl rfl rfl rfl rfl (by as_aux_lemma => kernel_rfl) Tryz.func4 closed
  (of_decide_eq_true (by kernel_rfl)) (by unfold Func.isWrapper; first | (rw [if_pos (by decide +kernel)]; kernel_rfl) | (rw [if_neg (by decide +kernel)]; exact ⟨rfl, rfl⟩))
  (fun os started H enc _ => lifted os started H enc)

theorem card : Rows.IntervalActsCardSaid :=
 Claim7.holds_tied_plain_at .later [] [.data] true Rows.intervalActsCard.stood.harness false over (fun _ h => by cases h) (by as_aux_lemma => kernel_rfl) (fun _ h => by cases h) intervalActs_row_tie rfl ⟨rfl, rfl⟩ (by as_aux_lemma => kernel_rfl) rfl
  (fun f fn hf hfn => by
   obtain rfl : f = 4 := Option.some.inj ((show Tryz.prog.funcNamed "dspcompiler/dspcompilerlaw04.IntervalActs" = some 4 by as_aux_lemma => kernel_rfl).symm.trans hf) |>.symm
   obtain rfl : fn = Tryz.f4 := (Option.some.inj (Tryz.func4.symm.trans hfn)).symm
   exact ⟨by as_aux_lemma => kernel_rfl, fun j t ht => by
    rw [Tryz.params4] at ht
    have hm : t ∈ [37, 37, 26, 3] := by simpa using Array.mem_of_getElem? ht
    have hall : ([37, 37, 26, 3].all fun u => !Tryz.prog.wantsStandIn u) = true := by as_aux_lemma => kernel_rfl
    exact (show Tryz.prog.wantsStandIn t = false by simpa using List.all_eq_true.1 hall t hm)⟩)
  (by as_aux_lemma => kernel_rfl)
end Go.Proofs.YtiljjhhkklnlgaaGreatDoor.intervalActs
