/-  -/
import Derived.Test.YtcankknlbljicaaGreatDoorQfl
import Derived.Test.YtcankknlbljicaaGreatDoorTie
import Derived.Test.YtcankknlbljicaaGreatDoorCards
import Derived.SevenTiedAt

set_option linter.unusedVariables false
set_option linter.unusedSimpArgs false
set_option linter.unusedSectionVars false
set_option maxRecDepth 100000
set_option maxHeartbeats 3200000

namespace Go.Proofs.YtcankknlbljicaaGreatDoor
open Go.RowKit Num

set_option maxRecDepth 100000
set_option maxHeartbeats 2000000
theorem walkPolyDivides {ts us : List Int} {v0 : Value} {v1 : Value} {w : World} {O : Bs} (hn0 : ts.length ≤ 9223372036854775807) (hI0 : ∀ j : Nat, -9223372036854775808 ≤ ts.getD j 0 ∧ ts.getD j 0 ≤ 9223372036854775807) (hn1 : us.length ≤ 9223372036854775807) (hI1 : ∀ j : Nat, -9223372036854775808 ≤ us.getD j 0 ∧ us.getD j 0 ≤ 9223372036854775807) (pf0 : (mSl 0 (lI ts 0)).S O w v0) (pf1 : (mSl 0 (lI us 0)).S O w v1) (hT : Tb w) (ho : OB O w) :
    Calls Tryz.prog 7 #[v0, v1] w (RetM (mV (.bool (true))) O w) := by
 refine st_start 91 Tryz.func7 [(mSl 0 (lI ts 0)), (mSl 0 (lI us 0))] ⟨pf0, pf1, trivial⟩ ho fun a S => ?_
 have lp := polQ_len ts 7
 have lq := polQ_len us 4
 have ld := dvq_le (polQ ts 7) (polQ us 4)
 have lr := dvr_le (polQ ts 7) (polQ us 4)
 have lc := cutQ_le (addQ (mulP (dvq (polQ ts 7) (polQ us 4)) (polQ us 4)) (dvr (polQ ts 7) (polQ us 4)))
 have la := addQ_len (ps := mulP (dvq (polQ ts 7) (polQ us 4)) (polQ us 4)) (qs := dvr (polQ ts 7) (polQ us 4))
 have ld2 := dvq_le (mulP (polQ ts 7) (polQ us 4)) (polQ us 4)
 have lm := mulP_len (polQ ts 7) (polQ us 4)
 have lm2 := mulP_len (dvq (polQ ts 7) (polQ us 4)) (polQ us 4)
 refine wp_seq ?_
 refine st_seq S 0 [] [(false, 0), (false, 1)] trivial (L' := [(0, ?_), (1, ?_)]) ?_ fun a1 w2 S3 => ?_
 rotate_left 2
 · rfl
 refine t_asgC S3 fun a5 S6 => ?_
 refine wpList_nil (then_normal ?_)
 refine wp_seq ?_
 refine st_seq S6 4 [?_, ?_, ?_, ?_] [(true, 1), (true, 3), (false, 0)] ⟨?_, ?_, ?_, ?_, trivial⟩ (L' := [(14, ?_), (16, ?_), (4, ?_)]) ?_ fun a7 w8 S9 => ?_
 rotate_left 7
 · exact opP S6.r fun c => ⟨_, run_move rfl, (c.o 1 rfl)⟩
 · exact opC S6.r rfl fun c B => ⟨_, args_2 rfl rfl, (k_poly (n := 7) (by omega) hI0 (by omega) (c.h 0 rfl) (S6.obc c.wb))⟩
 · exact opP S6.r fun c => ⟨_, run_move rfl, (c.o 2 rfl)⟩
 · exact opC S6.r rfl fun c B => ⟨_, args_2 rfl rfl, (k_poly (n := 4) (by omega) hI1 (by omega) (c.h 0 rfl) (S6.obc c.wb))⟩
 · rfl
 refine t_asg S9 0 fun a11 S12 => ?_
 refine t_asg S12 2 fun a13 S14 => ?_
 refine wpList_nil (then_normal ?_)
 refine wp_seq ?_
 refine st_seq S14 7 [?_, ?_, ?_, ?_, ?_, ?_, ?_] [(true, 4), (true, 5), (true, 6), (false, 0), (false, 1), (false, 4)] ⟨?_, ?_, ?_, ?_, ?_, ?_, ?_, trivial⟩ (L' := [(21, ?_), (22, ?_), (23, ?_), (6, ?_), (5, ?_), (4, ?_)]) ?_ fun a15 w16 S17 => ?_
 rotate_left 13
 · exact opP S14.r fun c => ⟨_, run_move rfl, (c.o 1 rfl)⟩
 · exact opP S14.r fun c => ⟨_, run_move rfl, (c.o 0 rfl)⟩
 · exact opC S14.r rfl fun c B => ⟨_, args_2 rfl rfl, (p_divmod (L := 8) (K1 := 42) (KR := 5) (KE := 5) (by omega) (by omega) (by omega) (by omega) (by omega) (by omega) (by omega) (by omega) (by omega) (by omega) (fun t l ht => redN_szs (N := 9) (polQ_pb ts 7) (polQ_pb us 4) (dvN_le (polQ_len ts 7)) (by decide) (by decide +kernel) (by decide) t l ht) (fun t ht => den_szs (N := 9) (polQ_pb ts 7) (polQ_pb us 4) (dvN_le (polQ_len ts 7)) (by decide) (by decide +kernel) (by decide) t ht) (slC_r (c.h 0 rfl)) (slC_r (c.h 1 rfl)) (hT.below B) (S14.obc c.wb))⟩
 · exact opP S14.r fun c => ⟨_, run_move rfl, (c.h 0 rfl)⟩
 · exact opP S14.r fun c => ext3_0 rfl (c.h 0 rfl)
 · exact opP S14.r fun c => ext3_1 rfl (c.h 0 rfl)
 · exact opP S14.r fun c => ext3_2 rfl (c.h 0 rfl)
 · rfl
 refine t_asg S17 0 fun a19 S20 => ?_
 refine t_asg S20 2 fun a21 S22 => ?_
 refine t_asg S22 4 fun a23 S24 => ?_
 refine wpList_nil (then_normal ?_)
 refine wp_seq ?_
 refine wp_seq ?_
 refine st_seq S24 2 [?_, ?_] [(true, 1), (false, 0), (false, 1), (false, 2), (false, 6), (false, 7), (false, 8)] ⟨?_, ?_, trivial⟩ (L' := [(25, ?_), (9, ?_), (8, ?_), (7, ?_), (6, ?_), (5, ?_), (4, ?_)]) ?_ fun a25 w26 S27 => ?_
 rotate_left 9
 · exact opV S24.r fun c => run_v (run_move rfl) (c.q 0 rfl)
 · exact opV S24.r fun c => run_neq rfl (c.e 0 rfl) rfl
 · rfl
 refine wpList_nil (then_normal ?_)
 refine cond_b _ (ev (S27.sl 0 rfl)) (fun hb29 => ?_) (fun hb29 => ?_)
 ·have hb29p := of_decide_eq_true hb29
  have h0 := dve_t hb29
  have hq := can_nil (polQ_can us 4) h0
  refine wp_seq ?_
  refine st_seq S27 20 [?_, ?_, ?_, ?_, ?_, ?_, ?_, ?_, ?_, ?_, ?_, ?_, ?_, ?_, ?_, ?_, ?_, ?_, ?_, ?_] [(true, 19), (false, 2), (false, 3), (false, 4), (false, 5), (false, 6)] ⟨?_, ?_, ?_, ?_, ?_, ?_, ?_, ?_, ?_, ?_, ?_, ?_, ?_, ?_, ?_, ?_, ?_, ?_, ?_, ?_, trivial⟩ (L' := [(45, ?_), (8, ?_), (7, ?_), (6, ?_), (5, ?_), (4, ?_)]) ?_ fun a30 w31 S32 => ?_
  rotate_left 26
  · exact opC S27.r rfl fun c B => ⟨_, args_0, (l5_awake (hT.below B) (S27.obc c.wb))⟩
  · exact opV S27.r fun c => run_v (run_move rfl) (c.e 0 rfl)
  · exact opT S27.r 0 (opV S27.r fun c => run_v (run_move rfl) (c.q 1 rfl))
  · exact opT S27.r 1 (opV S27.r fun c => run_b (y := true) (run_eql rfl (c.e 0 rfl) rfl) (dve_3 h0))
  · exact opE S27.r fun c => ⟨_, run_pick rfl (c.e 0 rfl), pick_and (fun _ => (c.e 1 rfl))⟩
  · exact opV S27.r fun c => run_v (run_move rfl) (c.e 0 rfl)
  · exact opT S27.r 0 (opP S27.r fun c => ⟨_, run_move rfl, (c.o 4 rfl)⟩)
  · exact opT S27.r 1 (opV S27.r fun c => len_L ((polQ us 4).length) Tryz.underlying37 (c.h 0 rfl) (lC_len _ _))
  · exact opT S27.r 1 (opV S27.r fun c => run_b (y := true) (run_eql rfl (c.e 0 rfl) rfl) (nil_0 hq))
  · exact opE S27.r fun c => ⟨_, run_pick rfl (c.e 0 rfl), pick_and (fun _ => (c.e 1 rfl))⟩
  · exact opV S27.r fun c => run_v (run_move rfl) (c.e 0 rfl)
  · exact opT S27.r 0 (opP S27.r fun c => ⟨_, run_move rfl, (c.o 3 rfl)⟩)
  · exact opT S27.r 1 (opV S27.r fun c => len_L ((dvq (polQ ts 7) (polQ us 4)).length) Tryz.underlying37 (c.h 0 rfl) (lC_len _ _))
  · exact opT S27.r 1 (opV S27.r fun c => run_b (y := true) (run_eql rfl (c.e 0 rfl) rfl) (nil_0 (dvq_0 h0)))
  · exact opE S27.r fun c => ⟨_, run_pick rfl (c.e 0 rfl), pick_and (fun _ => (c.e 1 rfl))⟩
  · exact opV S27.r fun c => run_v (run_move rfl) (c.e 0 rfl)
  · exact opT S27.r 0 (opP S27.r fun c => ⟨_, run_move rfl, (c.o 2 rfl)⟩)
  · exact opT S27.r 1 (opV S27.r fun c => len_L ((dvr (polQ ts 7) (polQ us 4)).length) Tryz.underlying37 (c.h 0 rfl) (lC_len _ _))
  · exact opT S27.r 1 (opV S27.r fun c => run_b (y := true) (run_eql rfl (c.e 0 rfl) rfl) (nil_0 (dvr_0 h0)))
  · exact opE S27.r fun c => ⟨_, run_pick rfl (c.e 0 rfl), pick_and (fun _ => (c.e 1 rfl))⟩
  · rfl
  refine t_asg S32 0 fun a34 S35 => ?_
  refine wpList_nil (then_normal ?_)
  refine wp_ret ?_
  exact st_endT S35 0 rfl fun v h => h
 ·have hb29p := of_decide_eq_false hb29
  have h0 := dve_f hb29
  refine wp_skip (then_normal ?_)
  refine wp_seq ?_
  refine st_seq S27 9 [?_, ?_, ?_, ?_, ?_, ?_, ?_, ?_, ?_] [(true, 6), (true, 7), (true, 8), (false, 2), (false, 3), (false, 4), (false, 5), (false, 6)] ⟨?_, ?_, ?_, ?_, ?_, ?_, ?_, ?_, ?_, trivial⟩ (L' := [(52, ?_), (53, ?_), (54, ?_), (8, ?_), (7, ?_), (6, ?_), (5, ?_), (4, ?_)]) ?_ fun a36 w37 S38 => ?_
  rotate_left 17
  · exact opP S27.r fun c => ⟨_, run_move rfl, (c.o 5 rfl)⟩
  · exact opP S27.r fun c => ⟨_, run_move rfl, (c.o 4 rfl)⟩
  · exact opC S27.r rfl fun c B => ⟨_, args_2 rfl rfl, (p_mul (L := 8) (K1 := 42) (K3 := 794) (by omega) (by omega) (by omega) (by omega) (by omega) (by omega) (by omega) (by omega) (by omega) (by omega) (slC_r (c.h 0 rfl)) (slC_r (c.h 1 rfl)) (hT.below B) (S27.obc c.wb))⟩
  · exact opP S27.r fun c => ⟨_, run_move rfl, (c.o 4 rfl)⟩
  · exact opC S27.r rfl fun c B => ⟨_, args_2 rfl rfl, (p_divmod (L := 13) (K1 := 990) (KR := 8) (KE := 7) (by omega) (by omega) (by omega) (by omega) (by omega) (by omega) (by omega) (by omega) (by omega) (by omega) (fun t l ht => redN_szs (N := 14) (PB.mul (polQ_pb ts 7) (polQ_pb us 4) (polQ_len ts 7)) (polQ_pb us 4) (dvN_le (mulP_le (polQ_len ts 7) (polQ_len us 4))) (by decide) (by decide +kernel) (by decide) t l ht) (fun t ht => den_szs (N := 14) (PB.mul (polQ_pb ts 7) (polQ_pb us 4) (polQ_len ts 7)) (polQ_pb us 4) (dvN_le (mulP_le (polQ_len ts 7) (polQ_len us 4))) (by decide) (by decide +kernel) (by decide) t ht) (slC_r (c.h 0 rfl)) (slC_r (c.h 1 rfl)) (hT.below B) (S27.obc c.wb))⟩
  · exact opP S27.r fun c => ⟨_, run_move rfl, (c.h 0 rfl)⟩
  · exact opP S27.r fun c => ext3_0 rfl (c.h 0 rfl)
  · exact opP S27.r fun c => ext3_1 rfl (c.h 0 rfl)
  · exact opP S27.r fun c => ext3_2 rfl (c.h 0 rfl)
  · rfl
  refine t_asg S38 0 fun a40 S41 => ?_
  refine t_asg S41 2 fun a42 S43 => ?_
  refine t_asg S43 4 fun a44 S45 => ?_
  refine wpList_nil (then_normal ?_)
  refine wp_seq ?_
  refine st_seq S45 36 [?_, ?_, ?_, ?_, ?_, ?_, ?_, ?_, ?_, ?_, ?_, ?_, ?_, ?_, ?_, ?_, ?_, ?_, ?_, ?_, ?_, ?_, ?_, ?_, ?_, ?_, ?_, ?_, ?_, ?_, ?_, ?_, ?_, ?_, ?_, ?_] [(true, 35), (false, 10)] ⟨?_, ?_, ?_, ?_, ?_, ?_, ?_, ?_, ?_, ?_, ?_, ?_, ?_, ?_, ?_, ?_, ?_, ?_, ?_, ?_, ?_, ?_, ?_, ?_, ?_, ?_, ?_, ?_, ?_, ?_, ?_, ?_, ?_, ?_, ?_, ?_, trivial⟩ (L' := [(90, ?_), (4, ?_)]) ?_ fun a46 w47 S48 => ?_
  rotate_left 38
  · exact opC S45.r rfl fun c B => ⟨_, args_0, (l5_awake (hT.below B) (S45.obc c.wb))⟩
  · exact opV S45.r fun c => run_v (run_move rfl) (c.e 0 rfl)
  · exact opT S45.r 0 (opP S45.r fun c => ⟨_, run_move rfl, (c.o 8 rfl)⟩)
  · exact opT S45.r 1 (opV S45.r fun c => len_L ((polQ us 4).length) Tryz.underlying37 (c.h 0 rfl) (lC_len _ _))
  · exact opT S45.r 1 (opV S45.r fun c => run_b (y := true) (run_gtr rfl (c.e 0 rfl) rfl) (len_p h0))
  · exact opE S45.r fun c => ⟨_, run_pick rfl (c.e 0 rfl), pick_and (fun _ => (c.e 1 rfl))⟩
  · exact opV S45.r fun c => run_v (run_move rfl) (c.e 0 rfl)
  · exact opT S45.r 0 (opP S45.r fun c => ⟨_, run_move rfl, (c.o 6 rfl)⟩)
  · exact opT S45.r 1 (opC S45.r rfl fun c B => ⟨_, args_1 rfl, (p_degree (by omega) (by omega) (slC_r (c.h 0 rfl)) (S45.obc c.wb))⟩)
  · exact opT S45.r 0 (opP S45.r fun c => ⟨_, run_move rfl, (c.o 8 rfl)⟩)
  · exact opT S45.r 2 (opC S45.r rfl fun c B => ⟨_, args_1 rfl, (p_degree (by omega) (by omega) (slC_r (c.h 0 rfl)) (S45.obc c.wb))⟩)
  · exact opT S45.r 2 (opV S45.r fun c => run_b (y := true) (run_lss rfl (c.e 0 rfl) (c.e 1 rfl)) (deg_lt h0))
  · exact opE S45.r fun c => ⟨_, run_pick rfl (c.e 0 rfl), pick_and (fun _ => (c.e 1 rfl))⟩
  · exact opV S45.r fun c => run_v (run_move rfl) (c.e 0 rfl)
  · exact opT S45.r 0 (opP S45.r fun c => ⟨_, run_move rfl, (c.o 7 rfl)⟩)
  · exact opT S45.r 0 (opP S45.r fun c => ⟨_, run_move rfl, (c.o 8 rfl)⟩)
  · exact opT S45.r 2 (opC S45.r rfl fun c B => ⟨_, args_2 rfl rfl, (p_mul (L := 9) (K1 := 1001) (K3 := 19109) (by omega) (by omega) (by omega) (by omega) (by omega) (by omega) (by omega) (by omega) (by omega) (by omega) (slC_r (c.h 0 rfl)) (slC_r (c.h 1 rfl)) (hT.below B) (S45.obc c.wb))⟩)
  · exact opT S45.r 0 (opP S45.r fun c => ⟨_, run_move rfl, (c.o 6 rfl)⟩)
  · exact opT S45.r 3 (opC S45.r rfl fun c B => ⟨_, args_2 rfl rfl, (p_add (by omega) (by omega) (by omega) (by omega) (slC_r (c.h 0 rfl)) (slC_r (c.h 1 rfl)) (hT.below B) (S45.obc c.wb))⟩)
  · exact opT S45.r 0 (opP S45.r fun c => ⟨_, run_move rfl, (c.o 9 rfl)⟩)
  · exact opT S45.r 3 (opC S45.r rfl fun c B => ⟨_, args_2 rfl rfl, ret_b (y := true) (r5_equal (by first | omega | decide +kernel) (by first | omega | decide +kernel) (by omega) (by omega) (c.h 0 rfl) (c.h 1 rfl) (S45.obc c.wb)) (div_back' (polQ_can ts 7) h0)⟩)
  · exact opE S45.r fun c => ⟨_, run_pick rfl (c.e 0 rfl), pick_and (fun _ => (c.e 1 rfl))⟩
  · exact opV S45.r fun c => run_v (run_move rfl) (c.e 0 rfl)
  · exact opT S45.r 0 (opV S45.r fun c => run_v (run_move rfl) (c.q 0 rfl))
  · exact opT S45.r 1 (opV S45.r fun c => run_b (y := true) (run_eql rfl (c.e 0 rfl) rfl) (dve_0 h0))
  · exact opE S45.r fun c => ⟨_, run_pick rfl (c.e 0 rfl), pick_and (fun _ => (c.e 1 rfl))⟩
  · exact opV S45.r fun c => run_v (run_move rfl) (c.e 0 rfl)
  · exact opT S45.r 0 (opP S45.r fun c => ⟨_, run_move rfl, (c.o 2 rfl)⟩)
  · exact opT S45.r 0 (opP S45.r fun c => ⟨_, run_move rfl, (c.o 9 rfl)⟩)
  · exact opT S45.r 2 (opC S45.r rfl fun c B => ⟨_, args_2 rfl rfl, ret_b (y := true) (r5_equal (by first | omega | decide +kernel) (by first | omega | decide +kernel) (by omega) (by omega) (c.h 0 rfl) (c.h 1 rfl) (S45.obc c.wb)) (div_mul' (polQ_can ts 7) h0)⟩)
  · exact opE S45.r fun c => ⟨_, run_pick rfl (c.e 0 rfl), pick_and (fun _ => (c.e 1 rfl))⟩
  · exact opV S45.r fun c => run_v (run_move rfl) (c.e 0 rfl)
  · exact opT S45.r 0 (opP S45.r fun c => ⟨_, run_move rfl, (c.o 1 rfl)⟩)
  · exact opT S45.r 1 (opV S45.r fun c => len_L ((dvr (mulP (polQ ts 7) (polQ us 4)) (polQ us 4)).length) Tryz.underlying37 (c.h 0 rfl) (lC_len _ _))
  · exact opT S45.r 1 (opV S45.r fun c => run_b (y := true) (run_eql rfl (c.e 0 rfl) rfl) (nil_0 (div_mul (polQ_can ts 7) h0).2))
  · exact opE S45.r fun c => ⟨_, run_pick rfl (c.e 0 rfl), pick_and (fun _ => (c.e 1 rfl))⟩
  · rfl
  refine t_asg S48 0 fun a50 S51 => ?_
  refine wpList_nil (then_normal ?_)
  refine wp_ret ?_
  exact st_endT S51 0 rfl fun v h => h
end Go.Proofs.YtcankknlbljicaaGreatDoor

namespace Go.Proofs.YtcankknlbljicaaGreatDoor.polyDivides
open Go.ChangeShapes Go.WideShapes Go.ChangeAt Go.RowKit
open Go.ChangeMaps (open_string shut_string)

set_option linter.unusedVariables false
theorem lifted (os : Os) (started : os.Started) (H : Type) (enc : TypeId × Value → H) :
  ReturnsInHanded {} Tryz.checked os 7 .any (fun w args => (Rows.polyDividesSpec.pre enc Tryz.prog Tryz.f7 Rows.polyDividesRow.domain false w args ∧ laidMetH Tryz.prog Rows.polyDividesRow.laid w) ∧ sizedMet enc Tryz.prog Tryz.f7 (OpenSpec.ofChange Rows.polyDividesSpec) false w args)
   (Rows.polyDividesSpec.post enc Tryz.prog Tryz.f7 false true false false) := by
 refine returnsInHanded_of_change_and (C := Tryz.checked) (X := fun w _ => laidMetH Tryz.prog Rows.polyDividesRow.laid w) (fun _ _ _ hh h => h.of_heap hh) own started (by kernel_rfl) Tryz.func7
  (ChangeSpec.witness_shaped (enc := enc) (C := Tryz.checked) (os := os) (X := fun w _ => laidMetH Tryz.prog Rows.polyDividesRow.laid w) false (World.laidAll Tryz.prog os Rows.polyDividesRow.laid) #[.slice none 0 0, .slice none 0 0] 8 (World.laidAll_os _ _ _)
   (World.shaped_of_ZipB (by kernel_rfl) (by kernel_rfl)) (by kernel_rfl) (by kernel_rfl) (by kernel_rfl)
   (by rw [MakeChecks.laidMetH_plain _ _ _ (by kernel_rfl)]; exact laidMet_laidAll _ (by kernel_rfl) (by kernel_rfl))) ?_
 intro W base args ds gs before hval0 hW hcnd _ hL _
 have hval : ∀ (j : Nat) t v, Tryz.f7.params[j]? = some t → args[j]? = some v → Value.okWide Tryz.prog W .any base t v := hval0
 have hW' := hW
 obtain ⟨p, q, hA0, hV, rfl, hfz, hnd⟩ := hW
 have hA : DataW.TrodAll enc Tryz.prog W 0 (fun _ => true) true Tryz.f7.params.toList args.toList ds p := hA0
 rw [Tryz.params7] at hA hval
 obtain ⟨v0, vs0, d0, ds0, p0, q0, hargs, rfl, rfl, h0, r0⟩ := trodAll_cons hA
 obtain ⟨v1, vs1, d1, ds1, p1, q1, rfl, rfl, rfl, h1, r1⟩ := trodAll_cons r0
 obtain ⟨rfl, rfl, rfl⟩ := trodAll_nil r1
 obtain rfl : args = #[v0, v1] := by cases args; simp_all
 obtain ⟨rfl, rfl⟩ := trodVars_none hV
 have k0 := h0
 have lt0 : ∀ x ∈ p0, x.block < W.heap.size := by obtain ⟨m, hm⟩ := k0; exact DataW.trod_lt m _ _ _ hm
 obtain ⟨t0, hf0, hl0, hr0⟩ := open_lI (hval 0 49 v0 rfl rfl) h0
 have k1 := h1
 have lt1 : ∀ x ∈ p1, x.block < W.heap.size := by obtain ⟨m, hm⟩ := k1; exact DataW.trod_lt m _ _ _ hm
 obtain ⟨t1, hf1, hl1, hr1⟩ := open_lI (hval 1 49 v1 rfl rfl) h1
 clear hA0 hval0
 refine (walkPolyDivides (O := fun _ => False) hl0 hr0 hl1 hr1 hf0 hf1 (tb_of_met (by rw [MakeChecks.laidMetH_plain _ _ _ (by kernel_rfl)] at hL; exact hL)) (fun _ h => h.elim)).mono fun e W' hr => ?_
 obtain ⟨vr, he, hvr, bel⟩ := hr
 obtain rfl : vr = .bool true := hvr
 subst he
 exact ⟨_, rfl, _, _, _, [], _, [], hW', trodAll_mk1 (shut_bool Tryz.underlying4 _), (trodAll_cons_mk (Below.trod laidOut (by kernel_rfl) (of_decide_eq_true (by kernel_rfl)) k0 bel lt0) (trodAll_cons_mk (Below.trod laidOut (by kernel_rfl) (of_decide_eq_true (by kernel_rfl)) k1 bel lt1) trodAll_mk0)), rfl, bel.frame _, fun h => by cases h⟩

theorem both {a b : Bool} (h1 : a = true) (h2 : b = true) : (a && b) = true := by rw [h1, h2]; rfl

theorem closed : joinedFacts Tryz.prog 7 Tryz.f7 Rows.polyDividesSpec Rows.polyDividesRow = true := by
 unfold joinedFacts
 repeat' with_reducible refine both ?_ ?_
 all_goals (as_aux_lemma => kernel_rfl)

theorem over : Rows.PolyDividesSaid :=
 OpenClaim.holds_of_wide 7 Tryz.f7 rfl rfl rfl rfl rfl rfl rfl ⟨rfl, rfl, rfl, rfl, rfl⟩ rfl rfl rfl rfl rfl (by as_aux_lemma => kernel_rfl) Tryz.func7 closed
  (of_decide_eq_true (by kernel_rfl)) (by unfold Func.isWrapper; first | (rw [if_pos (by decide +kernel)]; kernel_rfl) | (rw [if_neg (by decide +kernel)]; exact ⟨rfl, rfl⟩))
  (fun os started H enc _ => lifted os started H enc)

theorem card : Rows.PolyDividesCardSaid :=
 Claim7.holds_tied_plain_at .later [] [.data] true Rows.polyDividesCard.stood.harness false over (fun _ h => by cases h) (by as_aux_lemma => kernel_rfl) (fun _ h => by cases h) polyDivides_row_tie rfl ⟨rfl, rfl⟩ (by as_aux_lemma => kernel_rfl) rfl
  (fun f fn hf hfn => by
   obtain rfl : f = 7 := Option.some.inj ((show Tryz.prog.funcNamed "dspcompiler/dspcompilerlaw05.PolyDivides" = some 7 by as_aux_lemma => kernel_rfl).symm.trans hf) |>.symm
   obtain rfl : fn = Tryz.f7 := (Option.some.inj (Tryz.func7.symm.trans hfn)).symm
   exact ⟨by as_aux_lemma => kernel_rfl, fun j t ht => by
    rw [Tryz.params7] at ht
    have hm : t ∈ [49, 49] := by simpa using Array.mem_of_getElem? ht
    have hall : ([49, 49].all fun u => !Tryz.prog.wantsStandIn u) = true := by as_aux_lemma => kernel_rfl
    exact (show Tryz.prog.wantsStandIn t = false by simpa using List.all_eq_true.1 hall t hm)⟩)
  (by as_aux_lemma => kernel_rfl)
end Go.Proofs.YtcankknlbljicaaGreatDoor.polyDivides
