/-  -/
import Derived.Test.YtcankknlbljicaaGreatDoorQfl
import Derived.Test.YtcankknlbljicaaGreatDoorTie
import Derived.Test.YtcankknlbljicaaGreatDoorCards
import Derived.SevenTiedAt

set_option linter.unusedVariables false
set_option linter.unusedSimpArgs false
set_option linter.unusedSectionVars false
set_option maxRecDepth 100000
set_option maxHeartbeats 3200000

namespace Go.Proofs.YtcankknlbljicaaGreatDoor
open Go.RowKit Num

set_option maxRecDepth 100000
set_option maxHeartbeats 2000000
theorem walkPolyCalculus {ts us : List Int} (kk : Int) {v0 : Value} {v1 : Value} {w : World} {O : Bs} (hn0 : ts.length ≤ 9223372036854775807) (hI0 : ∀ j : Nat, -9223372036854775808 ≤ ts.getD j 0 ∧ ts.getD j 0 ≤ 9223372036854775807) (hn1 : us.length ≤ 9223372036854775807) (hI1 : ∀ j : Nat, -9223372036854775808 ≤ us.getD j 0 ∧ us.getD j 0 ≤ 9223372036854775807) (hk0 : 0 ≤ kk) (hk1 : kk ≤ 255) (pf0 : (mSl 0 (lI ts 0)).S O w v0) (pf1 : (mSl 0 (lI us 0)).S O w v1) (hT : Tb w) (ho : OB O w) :
    Calls Tryz.prog 9 #[v0, v1, .int .u8 (kk)] w (RetM (mV (.bool (true))) O w) := by
 refine st_start 74 Tryz.func9 [(mSl 0 (lI ts 0)), (mSl 0 (lI us 0)), (mV (.int .u8 (kk)))] ⟨pf0, pf1, rfl, trivial⟩ ho fun a S => ?_
 have lp := polQ_len ts 5
 have lq := polQ_len us 4
 have l1 := derQ_le (polQ ts 5)
 have l2 := derQ_le (polQ us 4)
 have l3 := mulP_len (cutQ (derQ (polQ ts 5))) (polQ us 4)
 have l4 := mulP_len (polQ ts 5) (cutQ (derQ (polQ us 4)))
 have l5 := mulP_len (polQ ts 5) (polQ us 4)
 have l6 := derQ_le (mulP (polQ ts 5) (polQ us 4))
 have l7 := powP_len4 (n := ((1) + ((kk) % (4)))) lq (by omega)
 have l8 := powP_len4 (n := (((1) + ((kk) % (4))) - (1))) lq (by omega)
 have l9 := derQ_le (powP (polQ us 4) ((1) + ((kk) % (4))))
 have l10 := mulP_len (powP (polQ us 4) (((1) + ((kk) % (4))) - (1))) (cutQ (derQ (polQ us 4)))
 have l11 := cutQ_le (addQ (mulP (cutQ (derQ (polQ ts 5))) (polQ us 4)) (mulP (polQ ts 5) (cutQ (derQ (polQ us 4)))))
 have l12 := addQ_len (ps := mulP (cutQ (derQ (polQ ts 5))) (polQ us 4)) (qs := mulP (polQ ts 5) (cutQ (derQ (polQ us 4))))
 have l13 := scl_le (mulP (powP (polQ us 4) (((1) + ((kk) % (4))) - (1))) (cutQ (derQ (polQ us 4)))) (((((1) + ((kk) % (4))) : Int) : Rat))
 refine wp_seq ?_
 refine st_seq S 0 [] [(false, 0), (false, 1), (false, 2)] trivial (L' := [(0, ?_), (1, ?_), (2, ?_)]) ?_ fun a1 w2 S3 => ?_
 rotate_left 3
 · rfl
 refine t_asgC S3 fun a5 S6 => ?_
 refine wpList_nil (then_normal ?_)
 refine wp_seq ?_
 refine st_seq S6 4 [?_, ?_, ?_, ?_] [(true, 1), (true, 3), (false, 0), (false, 3)] ⟨?_, ?_, ?_, ?_, trivial⟩ (L' := [(16, ?_), (18, ?_), (6, ?_), (2, ?_)]) ?_ fun a7 w8 S9 => ?_
 rotate_left 8
 · exact opP S6.r fun c => ⟨_, run_move rfl, (c.o 1 rfl)⟩
 · exact opC S6.r rfl fun c B => ⟨_, args_2 rfl rfl, (k_poly (n := 5) (by omega) hI0 (by omega) (c.h 0 rfl) (S6.obc c.wb))⟩
 · exact opP S6.r fun c => ⟨_, run_move rfl, (c.o 2 rfl)⟩
 · exact opC S6.r rfl fun c B => ⟨_, args_2 rfl rfl, (k_poly (n := 4) (by omega) hI1 (by omega) (c.h 0 rfl) (S6.obc c.wb))⟩
 · rfl
 refine t_asg S9 0 fun a11 S12 => ?_
 refine t_asg S12 2 fun a13 S14 => ?_
 refine wpList_nil (then_normal ?_)
 refine wp_seq ?_
 refine st_seq S14 4 [?_, ?_, ?_, ?_] [(true, 3), (false, 0), (false, 1), (false, 4)] ⟨?_, ?_, ?_, ?_, trivial⟩ (L' := [(22, ?_), (8, ?_), (7, ?_), (6, ?_)]) ?_ fun a15 w16 S17 => ?_
 rotate_left 8
 · exact opV S14.r fun c => run_v (run_move rfl) (c.q 5 rfl)
 · exact opV S14.r fun c => run_conv8 rfl (c.e 0 rfl) (by omega) (by omega)
 · exact opV S14.r fun c => run_rem rfl (c.e 0 rfl) rfl (by omega) (by omega) (by decide)
 · exact opV S14.r fun c => run_add rfl rfl (c.e 0 rfl) (by omega) (by omega)
 · rfl
 refine t_asg S17 0 fun a19 S20 => ?_
 refine wpList_nil (then_normal ?_)
 refine wp_seq ?_
 refine st_seq S20 6 [?_, ?_, ?_, ?_, ?_, ?_] [(true, 4), (true, 5), (false, 0), (false, 2), (false, 3), (false, 4)] ⟨?_, ?_, ?_, ?_, ?_, ?_, trivial⟩ (L' := [(27, ?_), (28, ?_), (9, ?_), (8, ?_), (7, ?_), (6, ?_)]) ?_ fun a21 w22 S23 => ?_
 rotate_left 12
 · exact opP S20.r fun c => ⟨_, run_move rfl, (c.o 2 rfl)⟩
 · exact opV S20.r fun c => run_v (run_move rfl) (c.q 0 rfl)
 · exact opC S20.r rfl fun c B => ⟨_, args_2 rfl (c.e 1 rfl), (p_pow (L := 5) (K1 := 27) (LV := 17) (K := 2) (KP := 648) (KD := 2) (KF := 4) (by omega) (by omega) (by omega) (by omega) (by omega) (fun i hi => Nat.le_trans (pw_len (polQ_len us 4) i (Nat.le_trans hi (show ((1) + ((kk) % (4))).toNat ≤ 4 by omega))) (by decide)) (by omega) (fun i j hi => pw_z (polQ_pb us 4) (polQ_len us 4) (sgl_szs (n := 4) (f := pB 5 10080) (K := 2) (by decide +kernel)) (by decide) (show ((1) + ((kk) % (4))).toNat ≤ 4 by omega) i j hi) (fun i hi => pw_d (polQ_pb us 4) (sgl_szs (n := 4) (f := fun i => 840 ^ i) (K := 2) (by decide +kernel)) (by decide) (show ((1) + ((kk) % (4))).toNat ≤ 4 by omega) i hi) (by omega) (by omega) (by omega) (by omega) (fun j => pw_f (polQ_pb us 4) (polQ_len us 4) (sgl_szs (n := 4) (f := pB 5 10080) (K := 2) (by decide +kernel)) (by decide) (sgl_szs (n := 4) (f := fun i => 840 ^ i) (K := 2) (by decide +kernel)) (by decide) (show ((1) + ((kk) % (4))).toNat ≤ 4 by omega) j) (slC_r (c.h 0 rfl)) (hT.below B) (S20.obc c.wb))⟩
 · exact opP S20.r fun c => ⟨_, run_move rfl, (c.h 0 rfl)⟩
 · exact opP S20.r fun c => ext_0 rfl (c.h 0 rfl)
 · exact opP S20.r fun c => ext_1 rfl (c.h 0 rfl)
 · rfl
 refine t_asg S23 0 fun a25 S26 => ?_
 refine t_asg S26 2 fun a27 S28 => ?_
 refine wpList_nil (then_normal ?_)
 refine wp_seq ?_
 refine st_seq S28 7 [?_, ?_, ?_, ?_, ?_, ?_, ?_] [(true, 5), (true, 6), (false, 0), (false, 1), (false, 4), (false, 5), (false, 6), (false, 7)] ⟨?_, ?_, ?_, ?_, ?_, ?_, ?_, trivial⟩ (L' := [(34, ?_), (35, ?_), (11, ?_), (10, ?_), (9, ?_), (8, ?_), (7, ?_), (6, ?_)]) ?_ fun a29 w30 S31 => ?_
 rotate_left 15
 · exact opP S28.r fun c => ⟨_, run_move rfl, (c.o 5 rfl)⟩
 · exact opV S28.r fun c => run_v (run_move rfl) (c.q 4 rfl)
 · exact opV S28.r fun c => run_sub rfl (c.e 0 rfl) rfl (by omega) (by omega)
 · exact opC S28.r rfl fun c B => ⟨_, args_2 rfl (c.e 1 rfl), (p_pow (L := 5) (K1 := 27) (LV := 17) (K := 2) (KP := 648) (KD := 2) (KF := 4) (by omega) (by omega) (by omega) (by omega) (by omega) (fun i hi => Nat.le_trans (pw_len (polQ_len us 4) i (Nat.le_trans hi (show (((1) + ((kk) % (4))) - (1)).toNat ≤ 4 by omega))) (by decide)) (by omega) (fun i j hi => pw_z (polQ_pb us 4) (polQ_len us 4) (sgl_szs (n := 4) (f := pB 5 10080) (K := 2) (by decide +kernel)) (by decide) (show (((1) + ((kk) % (4))) - (1)).toNat ≤ 4 by omega) i j hi) (fun i hi => pw_d (polQ_pb us 4) (sgl_szs (n := 4) (f := fun i => 840 ^ i) (K := 2) (by decide +kernel)) (by decide) (show (((1) + ((kk) % (4))) - (1)).toNat ≤ 4 by omega) i hi) (by omega) (by omega) (by omega) (by omega) (fun j => pw_f (polQ_pb us 4) (polQ_len us 4) (sgl_szs (n := 4) (f := pB 5 10080) (K := 2) (by decide +kernel)) (by decide) (sgl_szs (n := 4) (f := fun i => 840 ^ i) (K := 2) (by decide +kernel)) (by decide) (show (((1) + ((kk) % (4))) - (1)).toNat ≤ 4 by omega) j) (slC_r (c.h 0 rfl)) (hT.below B) (S28.obc c.wb))⟩
 · exact opP S28.r fun c => ⟨_, run_move rfl, (c.h 0 rfl)⟩
 · exact opP S28.r fun c => ext_0 rfl (c.h 0 rfl)
 · exact opP S28.r fun c => ext_1 rfl (c.h 0 rfl)
 · rfl
 refine t_asg S31 0 fun a33 S34 => ?_
 refine t_asg S34 2 fun a35 S36 => ?_
 refine wpList_nil (then_normal ?_)
 refine wp_seq ?_
 refine st_seq S36 9 [?_, ?_, ?_, ?_, ?_, ?_, ?_, ?_, ?_] [(true, 8), (false, 0), (false, 1), (false, 4), (false, 5), (false, 6), (false, 7), (false, 8), (false, 9)] ⟨?_, ?_, ?_, ?_, ?_, ?_, ?_, ?_, ?_, trivial⟩ (L' := [(44, ?_), (13, ?_), (12, ?_), (11, ?_), (10, ?_), (9, ?_), (8, ?_), (7, ?_), (6, ?_)]) ?_ fun a37 w38 S39 => ?_
 rotate_left 18
 · exact opP S36.r fun c => ⟨_, run_move rfl, (c.o 8 rfl)⟩
 · exact opC S36.r rfl fun c B => ⟨_, args_1 rfl, (p_der (by omega) (by omega) (slC_r (c.h 0 rfl)) (hT.below B) (S36.obc c.wb))⟩
 · exact opP S36.r fun c => ⟨_, run_move rfl, (c.o 7 rfl)⟩
 · exact opC S36.r rfl fun c B => ⟨_, args_2 rfl rfl, (p_mul (L := 6) (K1 := 62) (K3 := 866) (by omega) (by omega) (by omega) (by omega) (by omega) (by omega) (by omega) (by omega) (by omega) (by omega) (slC_r (c.h 0 rfl)) (slC_r (c.h 1 rfl)) (hT.below B) (S36.obc c.wb))⟩
 · exact opP S36.r fun c => ⟨_, run_move rfl, (c.o 8 rfl)⟩
 · exact opP S36.r fun c => ⟨_, run_move rfl, (c.o 7 rfl)⟩
 · exact opC S36.r rfl fun c B => ⟨_, args_1 rfl, (p_der (by omega) (by omega) (slC_r (c.h 0 rfl)) (hT.below B) (S36.obc c.wb))⟩
 · exact opC S36.r rfl fun c B => ⟨_, args_2 rfl rfl, (p_mul (L := 6) (K1 := 62) (K3 := 866) (by omega) (by omega) (by omega) (by omega) (by omega) (by omega) (by omega) (by omega) (by omega) (by omega) (slC_r (c.h 0 rfl)) (slC_r (c.h 1 rfl)) (hT.below B) (S36.obc c.wb))⟩
 · exact opC S36.r rfl fun c B => ⟨_, args_2 rfl rfl, (p_add (by omega) (by omega) (by omega) (by omega) (slC_r (c.h 0 rfl)) (slC_r (c.h 1 rfl)) (hT.below B) (S36.obc c.wb))⟩
 · rfl
 refine t_asg S39 0 fun a41 S42 => ?_
 refine wpList_nil (then_normal ?_)
 refine wp_seq ?_
 refine st_seq S42 29 [?_, ?_, ?_, ?_, ?_, ?_, ?_, ?_, ?_, ?_, ?_, ?_, ?_, ?_, ?_, ?_, ?_, ?_, ?_, ?_, ?_, ?_, ?_, ?_, ?_, ?_, ?_, ?_, ?_] [(true, 28), (false, 9)] ⟨?_, ?_, ?_, ?_, ?_, ?_, ?_, ?_, ?_, ?_, ?_, ?_, ?_, ?_, ?_, ?_, ?_, ?_, ?_, ?_, ?_, ?_, ?_, ?_, ?_, ?_, ?_, ?_, ?_, trivial⟩ (L' := [(73, ?_), (6, ?_)]) ?_ fun a43 w44 S45 => ?_
 rotate_left 31
 · exact opC S42.r rfl fun c B => ⟨_, args_0, (l5_awake (hT.below B) (S42.obc c.wb))⟩
 · exact opV S42.r fun c => run_v (run_move rfl) (c.e 0 rfl)
 · exact opT S42.r 0 (opV S42.r fun c => run_v (run_move rfl) (c.q 4 rfl))
 · exact opT S42.r 1 (opV S42.r fun c => run_b (y := true) (run_eql rfl (c.e 0 rfl) rfl) (pow_0 lq (by omega) (by omega)))
 · exact opE S42.r fun c => ⟨_, run_pick rfl (c.e 0 rfl), pick_and (fun _ => (c.e 1 rfl))⟩
 · exact opV S42.r fun c => run_v (run_move rfl) (c.e 0 rfl)
 · exact opT S42.r 0 (opV S42.r fun c => run_v (run_move rfl) (c.q 2 rfl))
 · exact opT S42.r 1 (opV S42.r fun c => run_b (y := true) (run_eql rfl (c.e 0 rfl) rfl) (pow_0 lq (by omega) (by omega)))
 · exact opE S42.r fun c => ⟨_, run_pick rfl (c.e 0 rfl), pick_and (fun _ => (c.e 1 rfl))⟩
 · exact opV S42.r fun c => run_v (run_move rfl) (c.e 0 rfl)
 · exact opT S42.r 0 (opP S42.r fun c => ⟨_, run_move rfl, (c.o 8 rfl)⟩)
 · exact opT S42.r 0 (opP S42.r fun c => ⟨_, run_move rfl, (c.o 7 rfl)⟩)
 · exact opT S42.r 2 (opC S42.r rfl fun c B => ⟨_, args_2 rfl rfl, (p_mul (L := 6) (K1 := 32) (K3 := 476) (by omega) (by omega) (by omega) (by omega) (by omega) (by omega) (by omega) (by omega) (by omega) (by omega) (slC_r (c.h 0 rfl)) (slC_r (c.h 1 rfl)) (hT.below B) (S42.obc c.wb))⟩)
 · exact opT S42.r 2 (opC S42.r rfl fun c B => ⟨_, args_1 rfl, (p_der (by omega) (by omega) (slC_r (c.h 0 rfl)) (hT.below B) (S42.obc c.wb))⟩)
 · exact opT S42.r 0 (opP S42.r fun c => ⟨_, run_move rfl, (c.o 0 rfl)⟩)
 · exact opT S42.r 3 (opC S42.r rfl fun c B => ⟨_, args_2 rfl rfl, ret_b (y := true) (r5_equal (by first | omega | decide +kernel) (by first | omega | decide +kernel) (by omega) (by omega) (c.h 0 rfl) (c.h 1 rfl) (S42.obc c.wb)) (prod_rule _ _)⟩)
 · exact opE S42.r fun c => ⟨_, run_pick rfl (c.e 0 rfl), pick_and (fun _ => (c.e 1 rfl))⟩
 · exact opV S42.r fun c => run_v (run_move rfl) (c.e 0 rfl)
 · exact opT S42.r 0 (opP S42.r fun c => ⟨_, run_move rfl, (c.o 5 rfl)⟩)
 · exact opT S42.r 1 (opC S42.r rfl fun c B => ⟨_, args_1 rfl, (p_der (by omega) (by omega) (slC_r (c.h 0 rfl)) (hT.below B) (S42.obc c.wb))⟩)
 · exact opT S42.r 0 (opP S42.r fun c => ⟨_, run_move rfl, (c.o 3 rfl)⟩)
 · exact opT S42.r 0 (opP S42.r fun c => ⟨_, run_move rfl, (c.o 7 rfl)⟩)
 · exact opT S42.r 2 (opC S42.r rfl fun c B => ⟨_, args_1 rfl, (p_der (by omega) (by omega) (slC_r (c.h 0 rfl)) (hT.below B) (S42.obc c.wb))⟩)
 · exact opT S42.r 3 (opC S42.r rfl fun c B => ⟨_, args_2 rfl rfl, (p_mul (L := 17) (K1 := 172) (K3 := 6207) (by omega) (by omega) (by omega) (by omega) (by omega) (by omega) (by omega) (by omega) (by omega) (by omega) (slC_r (c.h 0 rfl)) (slC_r (c.h 1 rfl)) (hT.below B) (S42.obc c.wb))⟩)
 · exact opT S42.r 0 (opV S42.r fun c => run_v (run_move rfl) (c.q 6 rfl))
 · exact opT S42.r 2 (opC S42.r rfl fun c B => ⟨_, args_1 (c.e 0 rfl), (r_of ((1) + ((kk) % (4))) (by omega) (by omega))⟩)
 · exact opT S42.r 3 (opC S42.r rfl fun c B => ⟨_, args_2 rfl rfl, (p_scale (by omega) (by omega) (by omega) (slC_r (c.h 0 rfl)) (isC.r (c.h 1 rfl)) (hT.below B) (S42.obc c.wb))⟩)
 · exact opT S42.r 3 (opC S42.r rfl fun c B => ⟨_, args_2 rfl rfl, ret_b (y := true) (r5_equal (by first | omega | decide +kernel) (by first | omega | decide +kernel) (by omega) (by omega) (c.h 0 rfl) (c.h 1 rfl) (S42.obc c.wb)) (chain_rule lq (by omega) (by omega) (by omega))⟩)
 · exact opE S42.r fun c => ⟨_, run_pick rfl (c.e 0 rfl), pick_and (fun _ => (c.e 1 rfl))⟩
 · rfl
 refine t_asg S45 0 fun a47 S48 => ?_
 refine wpList_nil (then_normal ?_)
 refine wp_ret ?_
 exact st_endT S48 0 rfl fun v h => h
end Go.Proofs.YtcankknlbljicaaGreatDoor

namespace Go.Proofs.YtcankknlbljicaaGreatDoor.polyCalculus
open Go.ChangeShapes Go.WideShapes Go.ChangeAt Go.RowKit
open Go.ChangeMaps (open_string shut_string)

set_option linter.unusedVariables false
theorem lifted (os : Os) (started : os.Started) (H : Type) (enc : TypeId × Value → H) :
  ReturnsInHanded {} Tryz.checked os 9 .any (fun w args => (Rows.polyCalculusSpec.pre enc Tryz.prog Tryz.f9 Rows.polyCalculusRow.domain false w args ∧ laidMetH Tryz.prog Rows.polyCalculusRow.laid w) ∧ sizedMet enc Tryz.prog Tryz.f9 (OpenSpec.ofChange Rows.polyCalculusSpec) false w args)
   (Rows.polyCalculusSpec.post enc Tryz.prog Tryz.f9 false true false false) := by
 refine returnsInHanded_of_change_and (C := Tryz.checked) (X := fun w _ => laidMetH Tryz.prog Rows.polyCalculusRow.laid w) (fun _ _ _ hh h => h.of_heap hh) own started (by kernel_rfl) Tryz.func9
  (ChangeSpec.witness_shaped (enc := enc) (C := Tryz.checked) (os := os) (X := fun w _ => laidMetH Tryz.prog Rows.polyCalculusRow.laid w) false (World.laidAll Tryz.prog os Rows.polyCalculusRow.laid) #[.slice none 0 0, .slice none 0 0, .int .u8 0] 8 (World.laidAll_os _ _ _)
   (World.shaped_of_ZipB (by kernel_rfl) (by kernel_rfl)) (by kernel_rfl) (by kernel_rfl) (by kernel_rfl)
   (by rw [MakeChecks.laidMetH_plain _ _ _ (by kernel_rfl)]; exact laidMet_laidAll _ (by kernel_rfl) (by kernel_rfl))) ?_
 intro W base args ds gs before hval0 hW hcnd _ hL _
 have hval : ∀ (j : Nat) t v, Tryz.f9.params[j]? = some t → args[j]? = some v → Value.okWide Tryz.prog W .any base t v := hval0
 have hW' := hW
 obtain ⟨p, q, hA0, hV, rfl, hfz, hnd⟩ := hW
 have hA : DataW.TrodAll enc Tryz.prog W 0 (fun _ => true) true Tryz.f9.params.toList args.toList ds p := hA0
 rw [Tryz.params9] at hA hval
 obtain ⟨v0, vs0, d0, ds0, p0, q0, hargs, rfl, rfl, h0, r0⟩ := trodAll_cons hA
 obtain ⟨v1, vs1, d1, ds1, p1, q1, rfl, rfl, rfl, h1, r1⟩ := trodAll_cons r0
 obtain ⟨v2, vs2, d2, ds2, p2, q2, rfl, rfl, rfl, h2, r2⟩ := trodAll_cons r1
 obtain ⟨rfl, rfl, rfl⟩ := trodAll_nil r2
 obtain rfl : args = #[v0, v1, v2] := by cases args; simp_all
 obtain ⟨rfl, rfl⟩ := trodVars_none hV
 have k0 := h0
 have lt0 : ∀ x ∈ p0, x.block < W.heap.size := by obtain ⟨m, hm⟩ := k0; exact DataW.trod_lt m _ _ _ hm
 obtain ⟨t0, hf0, hl0, hr0⟩ := open_lI (hval 0 49 v0 rfl rfl) h0
 have k1 := h1
 have lt1 : ∀ x ∈ p1, x.block < W.heap.size := by obtain ⟨m, hm⟩ := k1; exact DataW.trod_lt m _ _ _ hm
 obtain ⟨t1, hf1, hl1, hr1⟩ := open_lI (hval 1 49 v1 rfl rfl) h1
 obtain ⟨a2, rfl, rfl, rfl, w2⟩ := open_int Tryz.underlying5 (hval 2 5 v2 rfl rfl) h2
 have ⟨w2a, w2b⟩ := wf_u8 w2
 clear hA0 hval0
 refine (walkPolyCalculus (O := fun _ => False) a2 hl0 hr0 hl1 hr1 w2a w2b hf0 hf1 (tb_of_met (by rw [MakeChecks.laidMetH_plain _ _ _ (by kernel_rfl)] at hL; exact hL)) (fun _ h => h.elim)).mono fun e W' hr => ?_
 obtain ⟨vr, he, hvr, bel⟩ := hr
 obtain rfl : vr = .bool true := hvr
 subst he
 exact ⟨_, rfl, _, _, _, [], _, [], hW', trodAll_mk1 (shut_bool Tryz.underlying4 _), (trodAll_cons_mk (Below.trod laidOut (by kernel_rfl) (of_decide_eq_true (by kernel_rfl)) k0 bel lt0) (trodAll_cons_mk (Below.trod laidOut (by kernel_rfl) (of_decide_eq_true (by kernel_rfl)) k1 bel lt1) (trodAll_cons_mk (shut_int Tryz.underlying5 w2) trodAll_mk0))), rfl, bel.frame _, fun h => by cases h⟩

theorem both {a b : Bool} (h1 : a = true) (h2 : b = true) : (a && b) = true := by rw [h1, h2]; rfl

theorem closed : joinedFacts Tryz.prog 9 Tryz.f9 Rows.polyCalculusSpec Rows.polyCalculusRow = true := by
 unfold joinedFacts
 repeat' with_reducible refine both ?_ ?_
 all_goals (as_aux_lemma => kernel_rfl)

theorem over : Rows.PolyCalculusSaid :=
 OpenClaim.holds_of_wide 9 Tryz.f9 rfl rfl rfl rfl rfl rfl rfl ⟨rfl, rfl, rfl, rfl, rfl⟩ rfl rfl rfl rfl rfl (by as_aux_lemma => kernel_rfl) Tryz.func9 closed
  (of_decide_eq_true (by kernel_rfl)) (by unfold Func.isWrapper; first | (rw [if_pos (by decide +kernel)]; kernel_rfl) | (rw [if_neg (by decide +kernel)]; exact ⟨rfl, rfl⟩))
  (fun os started H enc _ => lifted os started H enc)

theorem card : Rows.PolyCalculusCardSaid :=
 Claim7.holds_tied_plain_at .later [] [.data] true Rows.polyCalculusCard.stood.harness false over (fun _ h => by cases h) (by as_aux_lemma => kernel_rfl) (fun _ h => by cases h) polyCalculus_row_tie rfl ⟨rfl, rfl⟩ (by as_aux_lemma => kernel_rfl) rfl
  (fun f fn hf hfn => by
   obtain rfl : f = 9 := Option.some.inj ((show Tryz.prog.funcNamed "dspcompiler/dspcompilerlaw05.PolyCalculus" = some 9 by as_aux_lemma => kernel_rfl).symm.trans hf) |>.symm
   obtain rfl : fn = Tryz.f9 := (Option.some.inj (Tryz.func9.symm.trans hfn)).symm
   exact ⟨by as_aux_lemma => kernel_rfl, fun j t ht => by
    rw [Tryz.params9] at ht
    have hm : t ∈ [49, 49, 5] := by simpa using Array.mem_of_getElem? ht
    have hall : ([49, 49, 5].all fun u => !Tryz.prog.wantsStandIn u) = true := by as_aux_lemma => kernel_rfl
    exact (show Tryz.prog.wantsStandIn t = false by simpa using List.all_eq_true.1 hall t hm)⟩)
  (by as_aux_lemma => kernel_rfl)
end Go.Proofs.YtcankknlbljicaaGreatDoor.polyCalculus
