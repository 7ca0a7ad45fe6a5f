/-  -/
import Derived.Test.YtcankknlbljicaaGreatDoorZfl
import Derived.Test.YtcankknlbljicaaGreatDoorTie
import Derived.Test.YtcankknlbljicaaGreatDoorCards
import Derived.SevenTiedAt

set_option linter.unusedVariables false
set_option linter.unusedSimpArgs false
set_option linter.unusedSectionVars false
set_option maxRecDepth 100000
set_option maxHeartbeats 3200000

namespace Go.Proofs.YtcankknlbljicaaGreatDoor
open Go.RowKit Num

set_option maxRecDepth 100000
set_option maxHeartbeats 2000000
theorem walkPolyValues {ts us : List Int} (jj : Int) {v0 : Value} {v1 : Value} {w : World} {O : Bs} (hn0 : ts.length ≤ 9223372036854775807) (hI0 : ∀ j : Nat, -9223372036854775808 ≤ ts.getD j 0 ∧ ts.getD j 0 ≤ 9223372036854775807) (hn1 : us.length ≤ 9223372036854775807) (hI1 : ∀ j : Nat, -9223372036854775808 ≤ us.getD j 0 ∧ us.getD j 0 ≤ 9223372036854775807) (hj0 : -9223372036854775808 ≤ jj) (hj1 : jj ≤ 9223372036854775807) (pf0 : (mSl 0 (lI ts 0)).S O w v0) (pf1 : (mSl 0 (lI us 0)).S O w v1) (hT : Tb w) (ho : OB O w) :
    Calls Tryz.prog 6 #[v0, v1, .int .i64 (jj)] w (RetM (mV (.bool (true))) O w) := by
 refine st_start 71 Tryz.func6 [(mSl 0 (lI ts 0)), (mSl 0 (lI us 0)), (mV (.int .i64 (jj)))] ⟨pf0, pf1, rfl, trivial⟩ ho fun a S => ?_
 have lp := polQ_len ts 5
 have lq := polQ_len us 4
 have l1 := addQ_len (ps := (polQ ts 5)) (qs := (polQ us 4))
 have l2 := cutQ_le (addQ (polQ ts 5) (polQ us 4))
 have l3 := mulP_len (polQ ts 5) (polQ us 4)
 have l4 : (cpsP (polQ ts 5) (polQ us 4)).length ≤ 25 := cps_len lp lq (comP_len (⟨lp, lq, polQ_pb ts 5, polQ_pb us 4⟩ : PS (polQ ts 5) (polQ us 4) 6 5 10080 10080 840 840))
 refine wp_seq ?_
 refine st_seq S 0 [] [(false, 0), (false, 1), (false, 2)] trivial (L' := [(0, ?_), (1, ?_), (2, ?_)]) ?_ fun a1 w2 S3 => ?_
 rotate_left 3
 · rfl
 refine t_asgC S3 fun a5 S6 => ?_
 refine wpList_nil (then_normal ?_)
 refine wp_seq ?_
 refine st_seq S6 6 [?_, ?_, ?_, ?_, ?_, ?_] [(true, 1), (true, 3), (true, 5), (false, 0)] ⟨?_, ?_, ?_, ?_, ?_, ?_, trivial⟩ (L' := [(15, ?_), (17, ?_), (19, ?_), (6, ?_)]) ?_ fun a7 w8 S9 => ?_
 rotate_left 10
 · exact opP S6.r fun c => ⟨_, run_move rfl, (c.o 1 rfl)⟩
 · exact opC S6.r rfl fun c B => ⟨_, args_2 rfl rfl, (k_poly (n := 5) (by omega) hI0 (by omega) (c.h 0 rfl) (S6.obc c.wb))⟩
 · exact opP S6.r fun c => ⟨_, run_move rfl, (c.o 2 rfl)⟩
 · exact opC S6.r rfl fun c B => ⟨_, args_2 rfl rfl, (k_poly (n := 4) (by omega) hI1 (by omega) (c.h 0 rfl) (S6.obc c.wb))⟩
 · exact opV S6.r fun c => run_v (run_move rfl) (c.q 3 rfl)
 · exact opC S6.r rfl fun c B => ⟨_, args_1 (c.e 0 rfl), (k_rat (jj) (by omega) (by omega) (S6.obc c.wb))⟩
 · rfl
 refine t_alloc S9 zero_Rat (fun _ _ _ => bx_Rat) fun O a11 w12 g13 S14 => ?_
 refine t_asg S14 1 fun a15 S16 => ?_
 refine t_asg S16 3 fun a17 S18 => ?_
 refine t_sto S18 2 5 0 rfl isC.cv (fun w19 S20 => ?_) info_Rat
 refine wpList_nil (then_normal ?_)
 refine wp_seq ?_
 refine st_monoB S20 8 [?_, ?_, ?_, ?_, ?_, ?_, ?_, ?_] [(true, 2), (true, 5), (false, 0), (false, 1), (false, 2), (false, 6)] ⟨?_, ?_, ?_, ?_, ?_, ?_, ?_, ?_, trivial⟩ (L' := [(22, ?_), (25, ?_), (8, ?_), (7, ?_), (9, ?_), (6, ?_)]) ?_ fun O a21 w22 hw hO hX S23 A24 => ?_
 rotate_left 14
 · exact opP S20.big fun c => ⟨_, run_move rfl, (c.o 1 rfl)⟩
 · exact opL S20.big 0 Tryz.underlying26 info_Rat fun c => (c.q 2 rfl)
 · exact opC S20.big rfl fun c B => ⟨_, args_2 rfl rfl, (retC (O := fun _ => False) (p_eval (ps := (polQ ts 5)) (x := ratQ (jj)) (L := 6) (K1 := 32) (LV := 1) (K := 3) (KP := 45) (KD := 2) (KF := 6) (by omega) (by omega) (by omega) (by omega) (by omega) (by omega) (by omega) (by omega) (fun i hi => Nat.le_trans (PS.len (⟨(polQ_len ts 5), (sgl_len _), (polQ_pb ts 5), (PB.sgl (by decide) (ratQ_bi (jj)))⟩ : PS (polQ ts 5) [ratQ (jj)] 6 1 10080 10080 840 840) i hi) (by decide)) (by omega) (fun i j hi => PS.z (⟨(polQ_len ts 5), (sgl_len _), (polQ_pb ts 5), (PB.sgl (by decide) (ratQ_bi (jj)))⟩ : PS (polQ ts 5) [ratQ (jj)] 6 1 10080 10080 840 840) (sgl_szs (n := 6) (f := oB 1 10080 10080 840) (K := 3) (by decide +kernel)) (by decide) i j hi) (fun i hi => PS.d (⟨(polQ_len ts 5), (sgl_len _), (polQ_pb ts 5), (PB.sgl (by decide) (ratQ_bi (jj)))⟩ : PS (polQ ts 5) [ratQ (jj)] 6 1 10080 10080 840 840) (sgl_szs (n := 6) (f := fun i => 840 ^ i) (K := 2) (by decide +kernel)) (by decide) i hi) (by omega) (by omega) (by omega) (by omega) (by omega) (Nat.le_trans (comP_len (⟨(polQ_len ts 5), (sgl_len _), (polQ_pb ts 5), (PB.sgl (by decide) (ratQ_bi (jj)))⟩ : PS (polQ ts 5) [ratQ (jj)] 6 1 10080 10080 840 840)) (by decide)) (fun j => PS.f (⟨(polQ_len ts 5), (sgl_len _), (polQ_pb ts 5), (PB.sgl (by decide) (ratQ_bi (jj)))⟩ : PS (polQ ts 5) [ratQ (jj)] 6 1 10080 10080 840 840) (sgl_szs (n := 6) (f := oB 1 10080 10080 840) (K := 3) (by decide +kernel)) (by decide) (sgl_szs (n := 6) (f := fun i => 840 * 840 ^ i) (K := 3) (by decide +kernel)) (by decide) j) (slC_r (weak (c.h 0 rfl))) (isC.r (c.h 1 rfl)) (hT.below B) (fun _ h => h.elim)))⟩
 · exact opP S20.big fun c => ⟨_, run_move rfl, (c.o 0 rfl)⟩
 · exact opL S20.big 0 Tryz.underlying26 info_Rat fun c => (c.q 2 rfl)
 · exact opC S20.big rfl fun c B => ⟨_, args_2 rfl rfl, (retC (O := fun _ => False) (p_eval (ps := (polQ us 4)) (x := ratQ (jj)) (L := 5) (K1 := 27) (LV := 1) (K := 3) (KP := 40) (KD := 2) (KF := 5) (by omega) (by omega) (by omega) (by omega) (by omega) (by omega) (by omega) (by omega) (fun i hi => Nat.le_trans (PS.len (⟨(polQ_len us 4), (sgl_len _), (polQ_pb us 4), (PB.sgl (by decide) (ratQ_bi (jj)))⟩ : PS (polQ us 4) [ratQ (jj)] 5 1 10080 10080 840 840) i hi) (by decide)) (by omega) (fun i j hi => PS.z (⟨(polQ_len us 4), (sgl_len _), (polQ_pb us 4), (PB.sgl (by decide) (ratQ_bi (jj)))⟩ : PS (polQ us 4) [ratQ (jj)] 5 1 10080 10080 840 840) (sgl_szs (n := 5) (f := oB 1 10080 10080 840) (K := 3) (by decide +kernel)) (by decide) i j hi) (fun i hi => PS.d (⟨(polQ_len us 4), (sgl_len _), (polQ_pb us 4), (PB.sgl (by decide) (ratQ_bi (jj)))⟩ : PS (polQ us 4) [ratQ (jj)] 5 1 10080 10080 840 840) (sgl_szs (n := 5) (f := fun i => 840 ^ i) (K := 2) (by decide +kernel)) (by decide) i hi) (by omega) (by omega) (by omega) (by omega) (by omega) (Nat.le_trans (comP_len (⟨(polQ_len us 4), (sgl_len _), (polQ_pb us 4), (PB.sgl (by decide) (ratQ_bi (jj)))⟩ : PS (polQ us 4) [ratQ (jj)] 5 1 10080 10080 840 840)) (by decide)) (fun j => PS.f (⟨(polQ_len us 4), (sgl_len _), (polQ_pb us 4), (PB.sgl (by decide) (ratQ_bi (jj)))⟩ : PS (polQ us 4) [ratQ (jj)] 5 1 10080 10080 840 840) (sgl_szs (n := 5) (f := oB 1 10080 10080 840) (K := 3) (by decide +kernel)) (by decide) (sgl_szs (n := 5) (f := fun i => 840 * 840 ^ i) (K := 2) (by decide +kernel)) (by decide) j) (slC_r (weak (c.h 0 rfl))) (isC.r (c.h 1 rfl)) (hT.below B) (fun _ h => h.elim)))⟩
 · exact opA S20.big zero_Rat fun _ _ _ => bx_Rat
 · exact opA S20.big zero_Rat fun _ _ _ => bx_Rat
 · rfl
 obtain ⟨g25, e27, e27a, e27b, e27x⟩ := A24.g 6 rfl rfl
 have S26 := (S23.add (q := .box g25 26 3 mTop) (fun _ h => by cases h; exact ⟨hO _ ⟨e27a, e27b⟩, Nat.le_trans hw e27a⟩) e27x (fun p hp x h => by cases h; exact hX p hp _ e27a)).new e27
 obtain ⟨g28, e30, e30a, e30b, e30x⟩ := A24.g 7 rfl rfl
 have S29 := (S26.add (q := .box g28 26 3 mTop) (fun _ h => by cases h; exact ⟨hO _ ⟨e30a, e30b⟩, Nat.le_trans hw e30a⟩) e30x (fun p hp x h => by
   cases h
   rcases List.mem_cons.1 hp with rfl | hp
   · exact fun h => (fun h => A24.ne 7 6 rfl rfl (by decide) (by rw [e30, e27, h])) (Option.some.inj h).symm
   exact hX p hp _ e30a)).new e30
 refine t_sto S29 1 2 1 rfl isC.cv (fun w31 S32 => ?_) info_Rat
 refine t_sto S32 0 3 0 rfl isC.cv (fun w33 S34 => ?_) info_Rat
 refine wpList_nil (then_normal ?_)
 refine wp_seq ?_
 refine st_seq S34 6 [?_, ?_, ?_, ?_, ?_, ?_] [(true, 4), (true, 5), (false, 0), (false, 1), (false, 4), (false, 5), (false, 6), (false, 7)] ⟨?_, ?_, ?_, ?_, ?_, ?_, trivial⟩ (L' := [(30, ?_), (31, ?_), (11, ?_), (10, ?_), (8, ?_), (7, ?_), (9, ?_), (6, ?_)]) ?_ fun a35 w36 S37 => ?_
 rotate_left 14
 · exact opP S34.r fun c => ⟨_, run_move rfl, (c.o 5 rfl)⟩
 · exact opP S34.r fun c => ⟨_, run_move rfl, (c.o 4 rfl)⟩
 · exact opC S34.r rfl fun c B => ⟨_, args_2 rfl rfl, (p_compose (L := 6) (K1 := 32) (LV := 25) (K := 4) (KP := 1127) (KD := 2) (KF := 7) (by omega) (by omega) (by omega) (by omega) (by omega) (by omega) (by omega) (by omega) (fun i hi => Nat.le_trans (PS.len (⟨(polQ_len ts 5), (polQ_len us 4), (polQ_pb ts 5), (polQ_pb us 4)⟩ : PS (polQ ts 5) (polQ us 4) 6 5 10080 10080 840 840) i hi) (by decide)) (by omega) (fun i j hi => PS.z (⟨(polQ_len ts 5), (polQ_len us 4), (polQ_pb ts 5), (polQ_pb us 4)⟩ : PS (polQ ts 5) (polQ us 4) 6 5 10080 10080 840 840) (sgl_szs (n := 6) (f := oB 5 10080 10080 840) (K := 4) (by decide +kernel)) (by decide) i j hi) (fun i hi => PS.d (⟨(polQ_len ts 5), (polQ_len us 4), (polQ_pb ts 5), (polQ_pb us 4)⟩ : PS (polQ ts 5) (polQ us 4) 6 5 10080 10080 840 840) (sgl_szs (n := 6) (f := fun i => 840 ^ i) (K := 2) (by decide +kernel)) (by decide) i hi) (by omega) (by omega) (by omega) (by omega) (fun j => PS.f (⟨(polQ_len ts 5), (polQ_len us 4), (polQ_pb ts 5), (polQ_pb us 4)⟩ : PS (polQ ts 5) (polQ us 4) 6 5 10080 10080 840 840) (sgl_szs (n := 6) (f := oB 5 10080 10080 840) (K := 4) (by decide +kernel)) (by decide) (sgl_szs (n := 6) (f := fun i => 840 * 840 ^ i) (K := 3) (by decide +kernel)) (by decide) j) (slC_r (c.h 0 rfl)) (slC_r (c.h 1 rfl)) (hT.below B) (S34.obc c.wb))⟩
 · exact opP S34.r fun c => ⟨_, run_move rfl, (c.h 0 rfl)⟩
 · exact opP S34.r fun c => ext_0 rfl (c.h 0 rfl)
 · exact opP S34.r fun c => ext_1 rfl (c.h 0 rfl)
 · rfl
 refine t_asg S37 0 fun a39 S40 => ?_
 refine t_asg S40 2 fun a41 S42 => ?_
 refine wpList_nil (then_normal ?_)
 refine wp_seq ?_
 refine st_mono S42 40 [?_, ?_, ?_, ?_, ?_, ?_, ?_, ?_, ?_, ?_, ?_, ?_, ?_, ?_, ?_, ?_, ?_, ?_, ?_, ?_, ?_, ?_, ?_, ?_, ?_, ?_, ?_, ?_, ?_, ?_, ?_, ?_, ?_, ?_, ?_, ?_, ?_, ?_, ?_, ?_] [(true, 39)] ⟨?_, ?_, ?_, ?_, ?_, ?_, ?_, ?_, ?_, ?_, ?_, ?_, ?_, ?_, ?_, ?_, ?_, ?_, ?_, ?_, ?_, ?_, ?_, ?_, ?_, ?_, ?_, ?_, ?_, ?_, ?_, ?_, ?_, ?_, ?_, ?_, ?_, ?_, ?_, ?_, trivial⟩ (L' := [(6, ?_)]) ?_ fun a43 w44 S45 => ?_
 rotate_left 41
 · exact opC S42.r rfl fun c B => ⟨_, args_0, (l5_awake (hT.below B) (S42.obc c.wb))⟩
 · exact opV S42.r fun c => run_v (run_move rfl) (c.e 0 rfl)
 · exact opT S42.r 0 (opV S42.r fun c => run_v (run_move rfl) (c.q 0 rfl))
 · exact opT S42.r 1 (opV S42.r fun c => run_b (y := true) (run_eql rfl (c.e 0 rfl) rfl) (cps_0 lp lq))
 · exact opE S42.r fun c => ⟨_, run_pick rfl (c.e 0 rfl), pick_and (fun _ => (c.e 1 rfl))⟩
 · exact opV S42.r fun c => run_v (run_move rfl) (c.e 0 rfl)
 · exact opT S42.r 0 (opP S42.r fun c => ⟨_, run_move rfl, (c.o 7 rfl)⟩)
 · exact opT S42.r 0 (opP S42.r fun c => ⟨_, run_move rfl, (c.o 6 rfl)⟩)
 · exact opT S42.r 2 (opC S42.r rfl fun c B => ⟨_, args_2 rfl rfl, (p_add (by omega) (by omega) (by omega) (by omega) (slC_r (c.h 0 rfl)) (slC_r (c.h 1 rfl)) (hT.below B) (S42.obc c.wb))⟩)
 · exact opT S42.r 0 (opL S42.r 2 Tryz.underlying26 info_Rat fun c => (c.q 8 rfl))
 · exact opT S42.r 3 (opC S42.r rfl fun c B => ⟨_, args_2 rfl rfl, (p_eval (ps := (cutQ (addQ (polQ ts 5) (polQ us 4)))) (x := ratQ (jj)) (L := 6) (K1 := 68) (LV := 1) (K := 4) (KP := 82) (KD := 2) (KF := 7) (by omega) (by omega) (by omega) (by omega) (by omega) (by omega) (by omega) (by omega) (fun i hi => Nat.le_trans (PS.len (⟨(add_le (polQ_len ts 5) (polQ_len us 4)), (sgl_len _), (PB.cut (PB.add (polQ_pb ts 5) (polQ_pb us 4))), (PB.sgl (by decide) (ratQ_bi (jj)))⟩ : PS (cutQ (addQ (polQ ts 5) (polQ us 4))) [ratQ (jj)] 6 1 16934400 10080 705600 840) i hi) (by decide)) (by omega) (fun i j hi => PS.z (⟨(add_le (polQ_len ts 5) (polQ_len us 4)), (sgl_len _), (PB.cut (PB.add (polQ_pb ts 5) (polQ_pb us 4))), (PB.sgl (by decide) (ratQ_bi (jj)))⟩ : PS (cutQ (addQ (polQ ts 5) (polQ us 4))) [ratQ (jj)] 6 1 16934400 10080 705600 840) (sgl_szs (n := 6) (f := oB 1 16934400 10080 840) (K := 4) (by decide +kernel)) (by decide) i j hi) (fun i hi => PS.d (⟨(add_le (polQ_len ts 5) (polQ_len us 4)), (sgl_len _), (PB.cut (PB.add (polQ_pb ts 5) (polQ_pb us 4))), (PB.sgl (by decide) (ratQ_bi (jj)))⟩ : PS (cutQ (addQ (polQ ts 5) (polQ us 4))) [ratQ (jj)] 6 1 16934400 10080 705600 840) (sgl_szs (n := 6) (f := fun i => 840 ^ i) (K := 2) (by decide +kernel)) (by decide) i hi) (by omega) (by omega) (by omega) (by omega) (by omega) (Nat.le_trans (comP_len (⟨(add_le (polQ_len ts 5) (polQ_len us 4)), (sgl_len _), (PB.cut (PB.add (polQ_pb ts 5) (polQ_pb us 4))), (PB.sgl (by decide) (ratQ_bi (jj)))⟩ : PS (cutQ (addQ (polQ ts 5) (polQ us 4))) [ratQ (jj)] 6 1 16934400 10080 705600 840)) (by decide)) (fun j => PS.f (⟨(add_le (polQ_len ts 5) (polQ_len us 4)), (sgl_len _), (PB.cut (PB.add (polQ_pb ts 5) (polQ_pb us 4))), (PB.sgl (by decide) (ratQ_bi (jj)))⟩ : PS (cutQ (addQ (polQ ts 5) (polQ us 4))) [ratQ (jj)] 6 1 16934400 10080 705600 840) (sgl_szs (n := 6) (f := oB 1 16934400 10080 840) (K := 4) (by decide +kernel)) (by decide) (sgl_szs (n := 6) (f := fun i => 705600 * 840 ^ i) (K := 3) (by decide +kernel)) (by decide) j) (slC_r (c.h 0 rfl)) (isC.r (c.h 1 rfl)) (hT.below B) (S42.obc c.wb))⟩)
 · exact opT S42.r 0 (opL S42.r 1 Tryz.underlying26 info_Rat fun c => (c.q 5 rfl))
 · exact opT S42.r 0 (opL S42.r 0 Tryz.underlying26 info_Rat fun c => (c.q 4 rfl))
 · exact opT S42.r 3 (opC S42.r rfl fun c B => ⟨_, args_2 rfl rfl, (r_add (by omega) (by omega) (isC.r (c.h 0 rfl)) (isC.r (c.h 1 rfl)))⟩)
 · exact opT S42.r 3 (opC S42.r rfl fun c B => ⟨_, args_2 rfl rfl, (r_cmp (by omega) (by omega) (isC.r (c.h 0 rfl)) (isC.r (c.h 1 rfl)))⟩)
 · exact opT S42.r 1 (opV S42.r fun c => run_b (y := true) (run_eql rfl (c.e 0 rfl) rfl) (val_add _ _ _))
 · exact opE S42.r fun c => ⟨_, run_pick rfl (c.e 0 rfl), pick_and (fun _ => (c.e 1 rfl))⟩
 · exact opV S42.r fun c => run_v (run_move rfl) (c.e 0 rfl)
 · exact opT S42.r 0 (opP S42.r fun c => ⟨_, run_move rfl, (c.o 7 rfl)⟩)
 · exact opT S42.r 0 (opP S42.r fun c => ⟨_, run_move rfl, (c.o 6 rfl)⟩)
 · exact opT S42.r 2 (opC S42.r rfl fun c B => ⟨_, args_2 rfl rfl, (p_mul (L := 6) (K1 := 32) (K3 := 476) (by omega) (by omega) (by omega) (by omega) (by omega) (by omega) (by omega) (by omega) (by omega) (by omega) (slC_r (c.h 0 rfl)) (slC_r (c.h 1 rfl)) (hT.below B) (S42.obc c.wb))⟩)
 · exact opT S42.r 0 (opL S42.r 2 Tryz.underlying26 info_Rat fun c => (c.q 8 rfl))
 · exact opT S42.r 3 (opC S42.r rfl fun c B => ⟨_, args_2 rfl rfl, (p_eval (ps := (mulP (polQ ts 5) (polQ us 4))) (x := ratQ (jj)) (L := 11) (K1 := 640) (LV := 1) (K := 6) (KP := 656) (KD := 4) (KF := 10) (by omega) (by omega) (by omega) (by omega) (by omega) (by omega) (by omega) (by omega) (fun i hi => Nat.le_trans (PS.len (⟨(mulP_le (polQ_len ts 5) (polQ_len us 4)), (sgl_len _), (PB.mul (polQ_pb ts 5) (polQ_pb us 4) (polQ_len ts 5)), (PB.sgl (by decide) (ratQ_bi (jj)))⟩ : PS (mulP (polQ ts 5) (polQ us 4)) [ratQ (jj)] 11 1 609638400 10080 705600 840) i hi) (by decide)) (by omega) (fun i j hi => PS.z (⟨(mulP_le (polQ_len ts 5) (polQ_len us 4)), (sgl_len _), (PB.mul (polQ_pb ts 5) (polQ_pb us 4) (polQ_len ts 5)), (PB.sgl (by decide) (ratQ_bi (jj)))⟩ : PS (mulP (polQ ts 5) (polQ us 4)) [ratQ (jj)] 11 1 609638400 10080 705600 840) (sgl_szs (n := 11) (f := oB 1 609638400 10080 840) (K := 6) (by decide +kernel)) (by decide) i j hi) (fun i hi => PS.d (⟨(mulP_le (polQ_len ts 5) (polQ_len us 4)), (sgl_len _), (PB.mul (polQ_pb ts 5) (polQ_pb us 4) (polQ_len ts 5)), (PB.sgl (by decide) (ratQ_bi (jj)))⟩ : PS (mulP (polQ ts 5) (polQ us 4)) [ratQ (jj)] 11 1 609638400 10080 705600 840) (sgl_szs (n := 11) (f := fun i => 840 ^ i) (K := 4) (by decide +kernel)) (by decide) i hi) (by omega) (by omega) (by omega) (by omega) (by omega) (Nat.le_trans (comP_len (⟨(mulP_le (polQ_len ts 5) (polQ_len us 4)), (sgl_len _), (PB.mul (polQ_pb ts 5) (polQ_pb us 4) (polQ_len ts 5)), (PB.sgl (by decide) (ratQ_bi (jj)))⟩ : PS (mulP (polQ ts 5) (polQ us 4)) [ratQ (jj)] 11 1 609638400 10080 705600 840)) (by decide)) (fun j => PS.f (⟨(mulP_le (polQ_len ts 5) (polQ_len us 4)), (sgl_len _), (PB.mul (polQ_pb ts 5) (polQ_pb us 4) (polQ_len ts 5)), (PB.sgl (by decide) (ratQ_bi (jj)))⟩ : PS (mulP (polQ ts 5) (polQ us 4)) [ratQ (jj)] 11 1 609638400 10080 705600 840) (sgl_szs (n := 11) (f := oB 1 609638400 10080 840) (K := 6) (by decide +kernel)) (by decide) (sgl_szs (n := 11) (f := fun i => 705600 * 840 ^ i) (K := 4) (by decide +kernel)) (by decide) j) (slC_r (c.h 0 rfl)) (isC.r (c.h 1 rfl)) (hT.below B) (S42.obc c.wb))⟩)
 · exact opT S42.r 0 (opL S42.r 1 Tryz.underlying26 info_Rat fun c => (c.q 5 rfl))
 · exact opT S42.r 0 (opL S42.r 0 Tryz.underlying26 info_Rat fun c => (c.q 4 rfl))
 · exact opT S42.r 3 (opC S42.r rfl fun c B => ⟨_, args_2 rfl rfl, (r_mul (by omega) (by omega) (isC.r (c.h 0 rfl)) (isC.r (c.h 1 rfl)))⟩)
 · exact opT S42.r 3 (opC S42.r rfl fun c B => ⟨_, args_2 rfl rfl, (r_cmp (by omega) (by omega) (isC.r (c.h 0 rfl)) (isC.r (c.h 1 rfl)))⟩)
 · exact opT S42.r 1 (opV S42.r fun c => run_b (y := true) (run_eql rfl (c.e 0 rfl) rfl) (val_mul _ _ _))
 · exact opE S42.r fun c => ⟨_, run_pick rfl (c.e 0 rfl), pick_and (fun _ => (c.e 1 rfl))⟩
 · exact opV S42.r fun c => run_v (run_move rfl) (c.e 0 rfl)
 · exact opT S42.r 0 (opP S42.r fun c => ⟨_, run_move rfl, (c.o 1 rfl)⟩)
 · exact opT S42.r 0 (opL S42.r 2 Tryz.underlying26 info_Rat fun c => (c.q 8 rfl))
 · exact opT S42.r 2 (opC S42.r rfl fun c B => ⟨_, args_2 rfl rfl, (p_eval (ps := (cpsP (polQ ts 5) (polQ us 4))) (x := ratQ (jj)) (L := 25) (K1 := 227) (LV := 1) (K := 14) (KP := 251) (KD := 8) (KF := 24) (by omega) (by omega) (by omega) (by omega) (by omega) (by omega) (by omega) (by omega) (fun i hi => Nat.le_trans (PS.len (⟨(cps_len (polQ_len ts 5) (polQ_len us 4) (comP_len (⟨(polQ_len ts 5), (polQ_len us 4), (polQ_pb ts 5), (polQ_pb us 4)⟩ : PS (polQ ts 5) (polQ us 4) 6 5 10080 10080 840 840))), (sgl_len _), (cps_pb (polQ_len ts 5) (polQ_len us 4) (comP_pb (⟨(polQ_len ts 5), (polQ_len us 4), (polQ_pb ts 5), (polQ_pb us 4)⟩ : PS (polQ ts 5) (polQ us 4) 6 5 10080 10080 840 840) (le_all (n := 6) (f := oB 5 10080 10080 840) (X := 187116242243570518234890240000000) (by decide +kernel)))), (PB.sgl (by decide) (ratQ_bi (jj)))⟩ : PS (cpsP (polQ ts 5) (polQ us 4)) [ratQ (jj)] 25 1 187116242243570518234890240000000 10080 295090346557440000000 840) i hi) (by decide)) (by omega) (fun i j hi => PS.z (⟨(cps_len (polQ_len ts 5) (polQ_len us 4) (comP_len (⟨(polQ_len ts 5), (polQ_len us 4), (polQ_pb ts 5), (polQ_pb us 4)⟩ : PS (polQ ts 5) (polQ us 4) 6 5 10080 10080 840 840))), (sgl_len _), (cps_pb (polQ_len ts 5) (polQ_len us 4) (comP_pb (⟨(polQ_len ts 5), (polQ_len us 4), (polQ_pb ts 5), (polQ_pb us 4)⟩ : PS (polQ ts 5) (polQ us 4) 6 5 10080 10080 840 840) (le_all (n := 6) (f := oB 5 10080 10080 840) (X := 187116242243570518234890240000000) (by decide +kernel)))), (PB.sgl (by decide) (ratQ_bi (jj)))⟩ : PS (cpsP (polQ ts 5) (polQ us 4)) [ratQ (jj)] 25 1 187116242243570518234890240000000 10080 295090346557440000000 840) (sgl_szs (n := 25) (f := oB 1 187116242243570518234890240000000 10080 840) (K := 14) (by decide +kernel)) (by decide) i j hi) (fun i hi => PS.d (⟨(cps_len (polQ_len ts 5) (polQ_len us 4) (comP_len (⟨(polQ_len ts 5), (polQ_len us 4), (polQ_pb ts 5), (polQ_pb us 4)⟩ : PS (polQ ts 5) (polQ us 4) 6 5 10080 10080 840 840))), (sgl_len _), (cps_pb (polQ_len ts 5) (polQ_len us 4) (comP_pb (⟨(polQ_len ts 5), (polQ_len us 4), (polQ_pb ts 5), (polQ_pb us 4)⟩ : PS (polQ ts 5) (polQ us 4) 6 5 10080 10080 840 840) (le_all (n := 6) (f := oB 5 10080 10080 840) (X := 187116242243570518234890240000000) (by decide +kernel)))), (PB.sgl (by decide) (ratQ_bi (jj)))⟩ : PS (cpsP (polQ ts 5) (polQ us 4)) [ratQ (jj)] 25 1 187116242243570518234890240000000 10080 295090346557440000000 840) (sgl_szs (n := 25) (f := fun i => 840 ^ i) (K := 8) (by decide +kernel)) (by decide) i hi) (by omega) (by omega) (by omega) (by omega) (by omega) (Nat.le_trans (comP_len (⟨(cps_len (polQ_len ts 5) (polQ_len us 4) (comP_len (⟨(polQ_len ts 5), (polQ_len us 4), (polQ_pb ts 5), (polQ_pb us 4)⟩ : PS (polQ ts 5) (polQ us 4) 6 5 10080 10080 840 840))), (sgl_len _), (cps_pb (polQ_len ts 5) (polQ_len us 4) (comP_pb (⟨(polQ_len ts 5), (polQ_len us 4), (polQ_pb ts 5), (polQ_pb us 4)⟩ : PS (polQ ts 5) (polQ us 4) 6 5 10080 10080 840 840) (le_all (n := 6) (f := oB 5 10080 10080 840) (X := 187116242243570518234890240000000) (by decide +kernel)))), (PB.sgl (by decide) (ratQ_bi (jj)))⟩ : PS (cpsP (polQ ts 5) (polQ us 4)) [ratQ (jj)] 25 1 187116242243570518234890240000000 10080 295090346557440000000 840)) (by decide)) (fun j => PS.f (⟨(cps_len (polQ_len ts 5) (polQ_len us 4) (comP_len (⟨(polQ_len ts 5), (polQ_len us 4), (polQ_pb ts 5), (polQ_pb us 4)⟩ : PS (polQ ts 5) (polQ us 4) 6 5 10080 10080 840 840))), (sgl_len _), (cps_pb (polQ_len ts 5) (polQ_len us 4) (comP_pb (⟨(polQ_len ts 5), (polQ_len us 4), (polQ_pb ts 5), (polQ_pb us 4)⟩ : PS (polQ ts 5) (polQ us 4) 6 5 10080 10080 840 840) (le_all (n := 6) (f := oB 5 10080 10080 840) (X := 187116242243570518234890240000000) (by decide +kernel)))), (PB.sgl (by decide) (ratQ_bi (jj)))⟩ : PS (cpsP (polQ ts 5) (polQ us 4)) [ratQ (jj)] 25 1 187116242243570518234890240000000 10080 295090346557440000000 840) (sgl_szs (n := 25) (f := oB 1 187116242243570518234890240000000 10080 840) (K := 14) (by decide +kernel)) (by decide) (sgl_szs (n := 25) (f := fun i => 295090346557440000000 * 840 ^ i) (K := 10) (by decide +kernel)) (by decide) j) (slC_r (c.h 0 rfl)) (isC.r (c.h 1 rfl)) (hT.below B) (S42.obc c.wb))⟩)
 · exact opT S42.r 0 (opP S42.r fun c => ⟨_, run_move rfl, (c.o 7 rfl)⟩)
 · exact opT S42.r 0 (opL S42.r 0 Tryz.underlying26 info_Rat fun c => (c.q 4 rfl))
 · exact opT S42.r 3 (opC S42.r rfl fun c B => ⟨_, args_2 rfl rfl, (p_eval (ps := (polQ ts 5)) (x := (comP (polQ us 4) [ratQ (jj)]).getD 0 0) (L := 6) (K1 := 50) (LV := 1) (K := 15) (KP := 79) (KD := 11) (KF := 27) (by omega) (by omega) (by omega) (by omega) (by omega) (by omega) (by omega) (by omega) (fun i hi => Nat.le_trans (PS.len (⟨(polQ_len ts 5), (sgl_len _), (polQ_pb ts 5), (PB.one (comP_pb (⟨(polQ_len us 4), (sgl_len _), (polQ_pb us 4), (PB.sgl (by decide) (ratQ_bi (jj)))⟩ : PS (polQ us 4) [ratQ (jj)] 5 1 10080 10080 840 840) (le_all (n := 5) (f := oB 1 10080 10080 840) (X := 95360553278226432000000) (by decide +kernel))) 0)⟩ : PS (polQ ts 5) [(comP (polQ us 4) [ratQ (jj)]).getD 0 0] 6 1 10080 95360553278226432000000 840 351298031616000000) i hi) (by decide)) (by omega) (fun i j hi => PS.z (⟨(polQ_len ts 5), (sgl_len _), (polQ_pb ts 5), (PB.one (comP_pb (⟨(polQ_len us 4), (sgl_len _), (polQ_pb us 4), (PB.sgl (by decide) (ratQ_bi (jj)))⟩ : PS (polQ us 4) [ratQ (jj)] 5 1 10080 10080 840 840) (le_all (n := 5) (f := oB 1 10080 10080 840) (X := 95360553278226432000000) (by decide +kernel))) 0)⟩ : PS (polQ ts 5) [(comP (polQ us 4) [ratQ (jj)]).getD 0 0] 6 1 10080 95360553278226432000000 840 351298031616000000) (sgl_szs (n := 6) (f := oB 1 10080 95360553278226432000000 351298031616000000) (K := 15) (by decide +kernel)) (by decide) i j hi) (fun i hi => PS.d (⟨(polQ_len ts 5), (sgl_len _), (polQ_pb ts 5), (PB.one (comP_pb (⟨(polQ_len us 4), (sgl_len _), (polQ_pb us 4), (PB.sgl (by decide) (ratQ_bi (jj)))⟩ : PS (polQ us 4) [ratQ (jj)] 5 1 10080 10080 840 840) (le_all (n := 5) (f := oB 1 10080 10080 840) (X := 95360553278226432000000) (by decide +kernel))) 0)⟩ : PS (polQ ts 5) [(comP (polQ us 4) [ratQ (jj)]).getD 0 0] 6 1 10080 95360553278226432000000 840 351298031616000000) (sgl_szs (n := 6) (f := fun i => 351298031616000000 ^ i) (K := 11) (by decide +kernel)) (by decide) i hi) (by omega) (by omega) (by omega) (by omega) (by omega) (Nat.le_trans (comP_len (⟨(polQ_len ts 5), (sgl_len _), (polQ_pb ts 5), (PB.one (comP_pb (⟨(polQ_len us 4), (sgl_len _), (polQ_pb us 4), (PB.sgl (by decide) (ratQ_bi (jj)))⟩ : PS (polQ us 4) [ratQ (jj)] 5 1 10080 10080 840 840) (le_all (n := 5) (f := oB 1 10080 10080 840) (X := 95360553278226432000000) (by decide +kernel))) 0)⟩ : PS (polQ ts 5) [(comP (polQ us 4) [ratQ (jj)]).getD 0 0] 6 1 10080 95360553278226432000000 840 351298031616000000)) (by decide)) (fun j => PS.f (⟨(polQ_len ts 5), (sgl_len _), (polQ_pb ts 5), (PB.one (comP_pb (⟨(polQ_len us 4), (sgl_len _), (polQ_pb us 4), (PB.sgl (by decide) (ratQ_bi (jj)))⟩ : PS (polQ us 4) [ratQ (jj)] 5 1 10080 10080 840 840) (le_all (n := 5) (f := oB 1 10080 10080 840) (X := 95360553278226432000000) (by decide +kernel))) 0)⟩ : PS (polQ ts 5) [(comP (polQ us 4) [ratQ (jj)]).getD 0 0] 6 1 10080 95360553278226432000000 840 351298031616000000) (sgl_szs (n := 6) (f := oB 1 10080 95360553278226432000000 351298031616000000) (K := 15) (by decide +kernel)) (by decide) (sgl_szs (n := 6) (f := fun i => 840 * 351298031616000000 ^ i) (K := 12) (by decide +kernel)) (by decide) j) (slC_r (c.h 0 rfl)) (isC.r (c.h 1 rfl)) (hT.below B) (S42.obc c.wb))⟩)
 · exact opT S42.r 3 (opC S42.r rfl fun c B => ⟨_, args_2 rfl rfl, (r_cmp (by omega) (by omega) (isC.r (c.h 0 rfl)) (isC.r (c.h 1 rfl)))⟩)
 · exact opT S42.r 1 (opV S42.r fun c => run_b (y := true) (run_eql rfl (c.e 0 rfl) rfl) (val_com lp lq _))
 · exact opE S42.r fun c => ⟨_, run_pick rfl (c.e 0 rfl), pick_and (fun _ => (c.e 1 rfl))⟩
 · exact opV S42.r fun c => run_v (run_assign rfl) (c.e 0 rfl)
 · rfl
 refine wpList_nil (then_normal ?_)
 refine wp_ret ?_
 exact st_endT S45 0 rfl fun v h => h
end Go.Proofs.YtcankknlbljicaaGreatDoor

namespace Go.Proofs.YtcankknlbljicaaGreatDoor.polyValues
open Go.ChangeShapes Go.WideShapes Go.ChangeAt Go.RowKit
open Go.ChangeMaps (open_string shut_string)

set_option linter.unusedVariables false
theorem lifted (os : Os) (started : os.Started) (H : Type) (enc : TypeId × Value → H) :
  ReturnsInHanded {} Tryz.checked os 6 .any (fun w args => (Rows.polyValuesSpec.pre enc Tryz.prog Tryz.f6 Rows.polyValuesRow.domain false w args ∧ laidMetH Tryz.prog Rows.polyValuesRow.laid w) ∧ sizedMet enc Tryz.prog Tryz.f6 (OpenSpec.ofChange Rows.polyValuesSpec) false w args)
   (Rows.polyValuesSpec.post enc Tryz.prog Tryz.f6 false true false false) := by
 refine returnsInHanded_of_change_and (C := Tryz.checked) (X := fun w _ => laidMetH Tryz.prog Rows.polyValuesRow.laid w) (fun _ _ _ hh h => h.of_heap hh) own started (by kernel_rfl) Tryz.func6
  (ChangeSpec.witness_shaped (enc := enc) (C := Tryz.checked) (os := os) (X := fun w _ => laidMetH Tryz.prog Rows.polyValuesRow.laid w) false (World.laidAll Tryz.prog os Rows.polyValuesRow.laid) #[.slice none 0 0, .slice none 0 0, .int .i64 0] 8 (World.laidAll_os _ _ _)
   (World.shaped_of_ZipB (by kernel_rfl) (by kernel_rfl)) (by kernel_rfl) (by kernel_rfl) (by kernel_rfl)
   (by rw [MakeChecks.laidMetH_plain _ _ _ (by kernel_rfl)]; exact laidMet_laidAll _ (by kernel_rfl) (by kernel_rfl))) ?_
 intro W base args ds gs before hval0 hW hcnd _ hL _
 have hval : ∀ (j : Nat) t v, Tryz.f6.params[j]? = some t → args[j]? = some v → Value.okWide Tryz.prog W .any base t v := hval0
 have hW' := hW
 obtain ⟨p, q, hA0, hV, rfl, hfz, hnd⟩ := hW
 have hA : DataW.TrodAll enc Tryz.prog W 0 (fun _ => true) true Tryz.f6.params.toList args.toList ds p := hA0
 rw [Tryz.params6] at hA hval
 obtain ⟨v0, vs0, d0, ds0, p0, q0, hargs, rfl, rfl, h0, r0⟩ := trodAll_cons hA
 obtain ⟨v1, vs1, d1, ds1, p1, q1, rfl, rfl, rfl, h1, r1⟩ := trodAll_cons r0
 obtain ⟨v2, vs2, d2, ds2, p2, q2, rfl, rfl, rfl, h2, r2⟩ := trodAll_cons r1
 obtain ⟨rfl, rfl, rfl⟩ := trodAll_nil r2
 obtain rfl : args = #[v0, v1, v2] := by cases args; simp_all
 obtain ⟨rfl, rfl⟩ := trodVars_none hV
 have k0 := h0
 have lt0 : ∀ x ∈ p0, x.block < W.heap.size := by obtain ⟨m, hm⟩ := k0; exact DataW.trod_lt m _ _ _ hm
 obtain ⟨t0, hf0, hl0, hr0⟩ := open_lI (hval 0 49 v0 rfl rfl) h0
 have k1 := h1
 have lt1 : ∀ x ∈ p1, x.block < W.heap.size := by obtain ⟨m, hm⟩ := k1; exact DataW.trod_lt m _ _ _ hm
 obtain ⟨t1, hf1, hl1, hr1⟩ := open_lI (hval 1 49 v1 rfl rfl) h1
 obtain ⟨a2, rfl, rfl, rfl, w2⟩ := open_int Tryz.underlying3 (hval 2 3 v2 rfl rfl) h2
 have ⟨w2a, w2b⟩ := Go.Joins.in64_of_wf w2
 clear hA0 hval0
 refine (walkPolyValues (O := fun _ => False) a2 hl0 hr0 hl1 hr1 w2a w2b hf0 hf1 (tb_of_met (by rw [MakeChecks.laidMetH_plain _ _ _ (by kernel_rfl)] at hL; exact hL)) (fun _ h => h.elim)).mono fun e W' hr => ?_
 obtain ⟨vr, he, hvr, bel⟩ := hr
 obtain rfl : vr = .bool true := hvr
 subst he
 exact ⟨_, rfl, _, _, _, [], _, [], hW', trodAll_mk1 (shut_bool Tryz.underlying4 _), (trodAll_cons_mk (Below.trod laidOut (by kernel_rfl) (of_decide_eq_true (by kernel_rfl)) k0 bel lt0) (trodAll_cons_mk (Below.trod laidOut (by kernel_rfl) (of_decide_eq_true (by kernel_rfl)) k1 bel lt1) (trodAll_cons_mk (shut_int Tryz.underlying3 w2) trodAll_mk0))), rfl, bel.frame _, fun h => by cases h⟩

theorem both {a b : Bool} (h1 : a = true) (h2 : b = true) : (a && b) = true := by rw [h1, h2]; rfl

theorem closed : joinedFacts Tryz.prog 6 Tryz.f6 Rows.polyValuesSpec Rows.polyValuesRow = true := by
 unfold joinedFacts
 repeat' with_reducible refine both ?_ ?_
 all_goals (as_aux_lemma => kernel_rfl)

theorem over : Rows.PolyValuesSaid :=
 OpenClaim.holds_of_wide 6 Tryz.f6 rfl rfl rfl rfl rfl rfl rfl ⟨rfl, rfl, rfl, rfl, rfl⟩ rfl rfl rfl rfl rfl (by as_aux_lemma => kernel_rfl) Tryz.func6 closed
  (of_decide_eq_true (by kernel_rfl)) (by unfold Func.isWrapper; first | (rw [if_pos (by decide +kernel)]; kernel_rfl) | (rw [if_neg (by decide +kernel)]; exact ⟨rfl, rfl⟩))
  (fun os started H enc _ => lifted os started H enc)

theorem card : Rows.PolyValuesCardSaid :=
 Claim7.holds_tied_plain_at .later [] [.data] true Rows.polyValuesCard.stood.harness false over (fun _ h => by cases h) (by as_aux_lemma => kernel_rfl) (fun _ h => by cases h) polyValues_row_tie rfl ⟨rfl, rfl⟩ (by as_aux_lemma => kernel_rfl) rfl
  (fun f fn hf hfn => by
   obtain rfl : f = 6 := Option.some.inj ((show Tryz.prog.funcNamed "dspcompiler/dspcompilerlaw05.PolyValues" = some 6 by as_aux_lemma => kernel_rfl).symm.trans hf) |>.symm
   obtain rfl : fn = Tryz.f6 := (Option.some.inj (Tryz.func6.symm.trans hfn)).symm
   exact ⟨by as_aux_lemma => kernel_rfl, fun j t ht => by
    rw [Tryz.params6] at ht
    have hm : t ∈ [49, 49, 3] := by simpa using Array.mem_of_getElem? ht
    have hall : ([49, 49, 3].all fun u => !Tryz.prog.wantsStandIn u) = true := by as_aux_lemma => kernel_rfl
    exact (show Tryz.prog.wantsStandIn t = false by simpa using List.all_eq_true.1 hall t hm)⟩)
  (by as_aux_lemma => kernel_rfl)
end Go.Proofs.YtcankknlbljicaaGreatDoor.polyValues
