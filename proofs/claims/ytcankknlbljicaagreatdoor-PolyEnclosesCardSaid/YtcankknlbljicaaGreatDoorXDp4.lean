/-  -/
import Derived.Test.YtcankknlbljicaaGreatDoorXfl
import Derived.Test.YtcankknlbljicaaGreatDoorTie
import Derived.Test.YtcankknlbljicaaGreatDoorCards
import Derived.SevenTiedAt

set_option linter.unusedVariables false
set_option linter.unusedSimpArgs false
set_option linter.unusedSectionVars false
set_option maxRecDepth 100000
set_option maxHeartbeats 3200000

namespace Go.Proofs.YtcankknlbljicaaGreatDoor
open Go.RowKit Num

set_option maxRecDepth 100000
set_option maxHeartbeats 2000000
theorem walkPolyEncloses {ts : List Int} (ja jb jn : Int) {v0 : Value} {w : World} {O : Bs} (hn0 : ts.length ≤ 9223372036854775807) (hI0 : ∀ j : Nat,-9223372036854775808 ≤ ts.getD j 0 ∧ ts.getD j 0 ≤ 9223372036854775807) (hja0 : -9223372036854775808 ≤ ja) (hja1 : ja ≤ 9223372036854775807) (hjb0 : -9223372036854775808 ≤ jb) (hjb1 : jb ≤ 9223372036854775807) (hjn0 : -9223372036854775808 ≤ jn) (hjn1 : jn ≤ 9223372036854775807) (pf0 : (mSl 0 (lI ts 0)).S O w v0) (hT : Tb w) (ho : OB O w) :
    Calls Tryz.prog 10 #[v0,.int .i64 (ja),.int .i64 (jb),.int .i64 (jn)] w (RetM (mV (.bool (true))) O w) := by
 refine st_start 38 Tryz.func10 [(mSl 0 (lI ts 0)),(mV (.int .i64 (ja))),(mV (.int .i64 (jb))),(mV (.int .i64 (jn)))] ⟨pf0,rfl,rfl,rfl,trivial⟩ ho fun a S => ?_
 have lp := polQ_len ts 6
 have hsz : ∀ j : Nat,Sz ((polQ ts 6).getD j 0) 1 := fun j => (polQ_pb ts 6).sz (by decide) (by decide) j
 have hlo := mnQ_sz (ratQ_sz (ja)) (ratQ_sz (jb))
 have hhi := mxQ_sz (ratQ_sz (ja)) (ratQ_sz (jb))
 have hbt := btwQ_sz (ratQ_sz (ja)) (ratQ_sz (jb)) (jn)
 refine wp_seq ?_
 refine st_seq S 0 [] [(false,0),(false,1),(false,2),(false,3)] trivial (L' := [(0,?_),(1,?_),(2,?_),(3,?_)]) ?_ fun a1 w2 S3 => ?_
 rotate_left 4
 · rfl
 refine t_asgC S3 fun a5 S6 => ?_
 refine wpList_nil (then_normal ?_)
 refine wp_seq ?_
 refine st_seq S6 7 [?_,?_,?_,?_,?_,?_,?_] [(true,1),(true,6),(false,0),(false,4)] ⟨?_,?_,?_,?_,?_,?_,?_,trivial⟩ (L' := [(13,?_),(18,?_),(8,?_),(3,?_)]) ?_ fun a7 w8 S9 => ?_
 rotate_left 11
 · exact opP S6.r fun c => ⟨_,run_move rfl,(c.o 1 rfl)⟩
 · exact opC S6.r rfl fun c B => ⟨_,args_2 rfl rfl,(k_poly (n := 6) (by omega) hI0 (by omega) (c.h 0 rfl) (S6.obc c.wb))⟩
 · exact opV S6.r fun c => run_v (run_move rfl) (c.q 2 rfl)
 · exact opC S6.r rfl fun c B => ⟨_,args_1 (c.e 0 rfl),(k_rat (ja) (by omega) (by omega) (S6.obc c.wb))⟩
 · exact opV S6.r fun c => run_v (run_move rfl) (c.q 3 rfl)
 · exact opC S6.r rfl fun c B => ⟨_,args_1 (c.e 0 rfl),(k_rat (jb) (by omega) (by omega) (S6.obc c.wb))⟩
 · exact opC S6.r rfl fun c B => ⟨_,args_2 rfl rfl,(r4_make (by omega) (by omega) (isC.r (c.h 0 rfl)) (isC.r (c.h 1 rfl)) (S6.obc c.wb))⟩
 · rfl
 refine t_alloc S9 zero_Interval (fun _ _ _ => bx_Interval) fun O a11 w12 g13 S14 => ?_
 refine t_asg S14 1 fun a15 S16 => ?_
 refine t_sto S16 1 3 0 rfl (fun h => (mP.cv (fun _ h => (isC.cv h)) (fun _ h => (isC.cv h)) h)) (fun w17 S18 => ?_) info_Interval
 refine wpList_nil (then_normal ?_)
 refine wp_seq ?_
 refine st_monoA S18 10 [?_,?_,?_,?_,?_,?_,?_,?_,?_,?_] [(true,8),(false,0),(false,1),(false,4)] ⟨?_,?_,?_,?_,?_,?_,?_,?_,?_,?_,trivial⟩ (L' := [(27,?_),(9,?_),(10,?_),(8,?_)]) ?_ fun O a19 w20 hw hO hX S21 A22 => ?_
 rotate_left 14
 · exact opV S18.r fun c => fa_Interval_0 rfl (c.q 1 rfl)
 · exact opP S18.r fun c => ld_part rfl (c.e 0 rfl) (c.bx 0 rfl).lo Tryz.underlying26 info_Rat
 · exact opL S18.r 0 Tryz.underlying39 info_Interval fun c => (c.q 1 rfl)
 · exact opC S18.r rfl fun c B => ⟨_,args_1 rfl,(r4_width (by omega) (prC (c.h 0 rfl)) (S18.obc c.wb))⟩
 · exact opV S18.r fun c => run_v (run_move rfl) (c.q 5 rfl)
 · exact opC S18.r rfl fun c B => ⟨_,args_2 (c.e 0 rfl) rfl,(k_mod (jn) (13) (by omega) (by omega) (by omega) (by omega))⟩
 · exact opC S18.r rfl fun c B => ⟨_,args_2 (c.e 0 rfl) rfl,(r_frac ((jn) % (13)) (12) (by omega) (by omega) (by omega) (by omega))⟩
 · exact opC S18.r rfl fun c B => ⟨_,args_2 rfl rfl,(r_mul (by omega) (by omega) (isC.r (c.h 0 rfl)) (isC.r (c.h 1 rfl)))⟩
 · exact opC S18.r rfl fun c B => ⟨_,args_2 rfl rfl,(r_add (by omega) (by omega) (isC.r (c.h 0 rfl)) (isC.r (c.h 1 rfl)))⟩
 · exact opA S18.r zero_Rat fun _ _ _ => bx_Rat
 · exact ⟨by rfl,by rfl⟩
 obtain ⟨g23,e25,e25a,e25b,e25x⟩ := A22.g 9 rfl rfl
 have S24 := (S21.add (q := .box g23 26 3 mTop) (fun _ h => by cases h; exact ⟨hO _ ⟨e25a,e25b⟩,Nat.le_trans hw e25a⟩) e25x (fun p hp x h => by cases h; exact hX p hp _ e25a)).new e25
 refine t_sto S24 0 1 0 rfl isC.cv (fun w26 S27 => ?_) info_Rat
 refine wpList_nil (then_normal ?_)
 refine wp_seq ?_
 refine st_mono S27 11 [?_,?_,?_,?_,?_,?_,?_,?_,?_,?_,?_] [(true,10)] ⟨?_,?_,?_,?_,?_,?_,?_,?_,?_,?_,?_,trivial⟩ (L' := [(8,?_)]) ?_ fun a28 w29 S30 => ?_
 rotate_left 12
 · exact opC S27.r rfl fun c B => ⟨_,args_0,(l5_awake (hT.below B) (S27.obc c.wb))⟩
 · exact opV S27.r fun c => run_v (run_move rfl) (c.e 0 rfl)
 · exact opT S27.r 0 (opP S27.r fun c => ⟨_,run_move rfl,(c.o 2 rfl)⟩)
 · exact opT S27.r 0 (opL S27.r 1 Tryz.underlying39 info_Interval fun c => (c.q 3 rfl))
 · exact opT S27.r 2 (opC S27.r rfl fun c B => ⟨_,args_2 rfl rfl,(p_enclose (K := 22) (by omega) (by omega) (by omega) (by omega) (fun i hi => ⟨((encN_sz hsz hlo hhi i).1).mono (by omega),((encN_sz hsz hlo hhi i).2).mono (by omega)⟩) (slC_r (c.h 0 rfl)) (prC (c.h 1 rfl)) (hT.below B) (S27.obc c.wb))⟩)
 · exact opT S27.r 0 (opP S27.r fun c => ⟨_,run_move rfl,(c.o 2 rfl)⟩)
 · exact opT S27.r 0 (opL S27.r 0 Tryz.underlying26 info_Rat fun c => (c.q 0 rfl))
 · exact opT S27.r 3 (opC S27.r rfl fun c B => ⟨_,args_2 rfl rfl,(r5_eval (K := 57) (by omega) (by omega) (by omega) (by omega) (fun t ht => (evN_sz hsz hbt t).mono (by omega)) (slC_r (c.h 0 rfl)) (isC.r (c.h 1 rfl)) (S27.obc c.wb))⟩)
 · exact opT S27.r 3 (opC S27.r rfl fun c B => ⟨_,args_2 rfl rfl,ret_b (y := true) (r4_contains (by omega) (by omega) (prC (c.h 0 rfl)) (isC.r (c.h 1 rfl)) (S27.obc c.wb)) (enc_ok _ _ _ _)⟩)
 · exact opE S27.r fun c => ⟨_,run_pick rfl (c.e 0 rfl),pick_and (fun _ => (c.e 1 rfl))⟩
 · exact opV S27.r fun c => run_v (run_assign rfl) (c.e 0 rfl)
 · rfl
 refine wpList_nil (then_normal ?_)
 refine wp_ret ?_
 exact st_endT S30 0 rfl fun v h => h
end Go.Proofs.YtcankknlbljicaaGreatDoor

namespace Go.Proofs.YtcankknlbljicaaGreatDoor.polyEncloses
open Go.ChangeShapes Go.WideShapes Go.ChangeAt Go.RowKit
open Go.ChangeMaps (open_string shut_string)

set_option linter.unusedVariables false
theorem lifted (os : Os) (started : os.Started) (H : Type) (enc : TypeId × Value → H) :
  ReturnsInHanded {} Tryz.checked os 10 .any (fun w args => (Rows.polyEnclosesSpec.pre enc Tryz.prog Tryz.f10 Rows.polyEnclosesRow.domain false w args ∧ laidMetH Tryz.prog Rows.polyEnclosesRow.laid w) ∧ sizedMet enc Tryz.prog Tryz.f10 (OpenSpec.ofChange Rows.polyEnclosesSpec) false w args)
   (Rows.polyEnclosesSpec.post enc Tryz.prog Tryz.f10 false true false false) := by
 refine returnsInHanded_of_change_and (C := Tryz.checked) (X := fun w _ => laidMetH Tryz.prog Rows.polyEnclosesRow.laid w) (fun _ _ _ hh h => h.of_heap hh) own started (by kernel_rfl) Tryz.func10
  (ChangeSpec.witness_shaped (enc := enc) (C := Tryz.checked) (os := os) (X := fun w _ => laidMetH Tryz.prog Rows.polyEnclosesRow.laid w) false (World.laidAll Tryz.prog os Rows.polyEnclosesRow.laid) #[.slice none 0 0,.int .i64 0,.int .i64 0,.int .i64 0] 8 (World.laidAll_os _ _ _)
   (World.shaped_of_ZipB (by kernel_rfl) (by kernel_rfl)) (by kernel_rfl) (by kernel_rfl) (by kernel_rfl)
   (by rw [MakeChecks.laidMetH_plain _ _ _ (by kernel_rfl)]; exact laidMet_laidAll _ (by kernel_rfl) (by kernel_rfl))) ?_
 intro W base args ds gs before hval0 hW hcnd _ hL _
 have hval : ∀ (j : Nat) t v,Tryz.f10.params[j]? = some t → args[j]? = some v → Value.okWide Tryz.prog W .any base t v := hval0
 have hW' := hW
 obtain ⟨p,q,hA0,hV,rfl,hfz,hnd⟩ := hW
 have hA : DataW.TrodAll enc Tryz.prog W 0 (fun _ => true) true Tryz.f10.params.toList args.toList ds p := hA0
 rw [Tryz.params10] at hA hval
 obtain ⟨v0,vs0,d0,ds0,p0,q0,hargs,rfl,rfl,h0,r0⟩ := trodAll_cons hA
 obtain ⟨v1,vs1,d1,ds1,p1,q1,rfl,rfl,rfl,h1,r1⟩ := trodAll_cons r0
 obtain ⟨v2,vs2,d2,ds2,p2,q2,rfl,rfl,rfl,h2,r2⟩ := trodAll_cons r1
 obtain ⟨v3,vs3,d3,ds3,p3,q3,rfl,rfl,rfl,h3,r3⟩ := trodAll_cons r2
 obtain ⟨rfl,rfl,rfl⟩ := trodAll_nil r3
 obtain rfl : args = #[v0,v1,v2,v3] := by cases args; simp_all
 obtain ⟨rfl,rfl⟩ := trodVars_none hV
 have k0 := h0
 have lt0 : ∀ x ∈ p0,x.block < W.heap.size := by obtain ⟨m,hm⟩ := k0; exact DataW.trod_lt m _ _ _ hm
 obtain ⟨t0,hf0,hl0,hr0⟩ := open_lI (hval 0 49 v0 rfl rfl) h0
 obtain ⟨a1,rfl,rfl,rfl,w1⟩ := open_int Tryz.underlying3 (hval 1 3 v1 rfl rfl) h1
 have ⟨w1a,w1b⟩ := Go.Joins.in64_of_wf w1
 obtain ⟨a2,rfl,rfl,rfl,w2⟩ := open_int Tryz.underlying3 (hval 2 3 v2 rfl rfl) h2
 have ⟨w2a,w2b⟩ := Go.Joins.in64_of_wf w2
 obtain ⟨a3,rfl,rfl,rfl,w3⟩ := open_int Tryz.underlying3 (hval 3 3 v3 rfl rfl) h3
 have ⟨w3a,w3b⟩ := Go.Joins.in64_of_wf w3
 clear hA0 hval0
 refine (walkPolyEncloses (O := fun _ => False) a1 a2 a3 hl0 hr0 w1a w1b w2a w2b w3a w3b hf0 (tb_of_met (by rw [MakeChecks.laidMetH_plain _ _ _ (by kernel_rfl)] at hL; exact hL)) (fun _ h => h.elim)).mono fun e W' hr => ?_
 obtain ⟨vr,he,hvr,bel⟩ := hr
 obtain rfl : vr = .bool true := hvr
 subst he
 exact ⟨_,rfl,_,_,_,[],_,[],hW',trodAll_mk1 (shut_bool Tryz.underlying4 _),(trodAll_cons_mk (Below.trod laidOut (by kernel_rfl) (of_decide_eq_true (by kernel_rfl)) k0 bel lt0) (trodAll_cons_mk (shut_int Tryz.underlying3 w1) (trodAll_cons_mk (shut_int Tryz.underlying3 w2) (trodAll_cons_mk (shut_int Tryz.underlying3 w3) trodAll_mk0)))),rfl,bel.frame _,fun h => by cases h⟩

theorem both {a b : Bool} (h1 : a = true) (h2 : b = true) : (a && b) = true := by rw [h1,h2]; rfl

theorem closed : joinedFacts Tryz.prog 10 Tryz.f10 Rows.polyEnclosesSpec Rows.polyEnclosesRow = true := by
 unfold joinedFacts
 repeat' with_reducible refine both ?_ ?_
 all_goals (as_aux_lemma => kernel_rfl)

theorem over : Rows.PolyEnclosesSaid :=
 OpenClaim.holds_of_wide 10 Tryz.f10 rfl rfl rfl rfl rfl rfl rfl ⟨rfl,rfl,rfl,rfl,rfl⟩ rfl rfl rfl rfl rfl (by as_aux_lemma => kernel_rfl) Tryz.func10 closed
  (of_decide_eq_true (by kernel_rfl)) (by unfold Func.isWrapper; first | (rw [if_pos (by decide +kernel)]; kernel_rfl) | (rw [if_neg (by decide +kernel)]; exact ⟨rfl,rfl⟩))
  (fun os started H enc _ => lifted os started H enc)

theorem card : Rows.PolyEnclosesCardSaid :=
 Claim7.holds_tied_plain_at .later [] [.data] true Rows.polyEnclosesCard.stood.harness false over (fun _ h => by cases h) (by as_aux_lemma => kernel_rfl) (fun _ h => by cases h) polyEncloses_row_tie rfl ⟨rfl,rfl⟩ (by as_aux_lemma => kernel_rfl) rfl
  (fun f fn hf hfn => by
   obtain rfl : f = 10 := Option.some.inj ((show Tryz.prog.funcNamed "dspcompiler/dspcompilerlaw05.PolyEncloses" = some 10 by as_aux_lemma => kernel_rfl).symm.trans hf) |>.symm
   obtain rfl : fn = Tryz.f10 := (Option.some.inj (Tryz.func10.symm.trans hfn)).symm
   exact ⟨by as_aux_lemma => kernel_rfl,fun j t ht => by
    rw [Tryz.params10] at ht
    have hm : t ∈ [49,3,3,3] := by simpa using Array.mem_of_getElem? ht
    have hall : ([49,3,3,3].all fun u => !Tryz.prog.wantsStandIn u) = true := by as_aux_lemma => kernel_rfl
    exact (show Tryz.prog.wantsStandIn t = false by simpa using List.all_eq_true.1 hall t hm)⟩)
  (by as_aux_lemma => kernel_rfl)
end Go.Proofs.YtcankknlbljicaaGreatDoor.polyEncloses
