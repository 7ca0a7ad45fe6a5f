/-  -/
import Derived.Test.YtcankknlbljicaaGreatDoorYfb

set_option linter.unusedVariables false
set_option linter.unusedSimpArgs false
set_option linter.unusedSectionVars false
set_option maxRecDepth 100000
set_option maxHeartbeats 3200000

namespace Go.Proofs.YtcankknlbljicaaGreatDoor
open Go.RowKit Num

set_option maxRecDepth 100000
set_option maxHeartbeats 2000000
theorem p_one   {w:World} {O:Bs}   (ho:OB O w) :
    Calls Tryz.prog 110 #[] w (RetM (mC (((1:Int):Rat)) 2) O w):=by
 refine st_start 2 Tryz.func110 [] trivial ho fun a S=>?_
 refine wp_seq ?_
 refine st_seq S 0 [] [] trivial (L':=[]) ?_ fun a1 w2 S3=>?_
 · rfl
 refine t_alloc S3 zero_Rat (fun _ _ _=>bx_Rat) fun O a5 w6 g7 S8=>?_
 refine wpList_nil (then_normal ?_)
 refine wp_seq ?_
 refine st_seq S8 1 [?_] [(true,0),(false,0)] ⟨?_,trivial⟩ (L':=[(1,?_),(0,?_)]) ?_ fun a9 w10 S11=>?_
 rotate_left 3
 · exact opC S8.r rfl fun c B=>⟨_,args_1 rfl,(c_of (1) (by omega) (by omega))⟩
 · rfl
 refine t_sto S11 1 0 0 rfl isC.cv (fun w13 S14=>?_) info_Rat
 refine wpList_nil (then_normal ?_)
 refine wp_ret ?_
 exact st_end S14 1 0 rfl Tryz.underlying26 info_Rat fun v h=>(isC.mono h (by omega))

theorem p_degree {qs:List Rat} {k:Nat} {v0:Value} {w:World} {O:Bs} (hn:qs.length≤1000000) (hk:k≤999990000) (pf0:(mSl 3 (lR qs (k))).S O w v0) (ho:OB O w) :
    Calls Tryz.prog 25 #[v0] w (RetM (mV (.int .i64 (((cutn qs:Nat):Int) - 1))) O w):=by
 refine st_start 20 Tryz.func25 [(mSl 3 (lR qs (k)))] ⟨pf0,trivial⟩ ho fun a S=>?_
 refine wp_seq ?_
 refine st_seq S 0 [] [(false,0)] trivial (L':=[(0,?_)]) ?_ fun a1 w2 S3=>?_
 rotate_left 1
 · rfl
 refine t_asgC S3 fun a5 S6=>?_
 refine wpList_nil (then_normal ?_)
 refine wp_seq ?_
 refine st_seq S6 3 [?_,?_,?_] [(true,2),(false,0),(false,1)] ⟨?_,?_,?_,trivial⟩ (L':=[(6,?_),(2,?_),(0,?_)]) ?_ fun a7 w8 S9=>?_
 rotate_left 6
 · exact opP S6.r fun c=>⟨_,run_move rfl,(c.o 1 rfl)⟩
 · exact opV S6.r fun c=>len_L qs.length Tryz.underlying37 (c.h 0 rfl) (lR_len _ _)
 · exact opV S6.r fun c=>run_sub rfl (c.e 0 rfl) rfl (by omega) (by omega)
 · rfl
 refine t_asg S9 0 fun a11 S12=>?_
 refine wpList_nil (then_normal ?_)
 refine wp_seq ?_
 refine wp_block ?_
 refine st_loop (τ:=Nat) (fun n=>[(3,(mV (.int .i64 (((n:Nat):Int) - 1)))),(2,(mV (.int .i64 (0)))),(0,(mSl 3 (lR qs (k))))]) (fun n=>[]) (fun n=>n≤qs.length∧cutn qs=cutn (qs.take n)) (fun n=>n) qs.length ⟨Nat.le_refl _,by rw [List.take_length]⟩ (S12.toX ⟨S12.sl 0 rfl,S12.sl 2 rfl,S12.sl 3 rfl,trivial⟩ trivial) ?_
 rintro n O a15 w16 hp17 S18
 try dsimp only at hp17 S18
 have hn1:=hp17.1
 refine wp_seq ?_
 refine wp_seq ?_
 refine st_seq S18 10 [?_,?_,?_,?_,?_,?_,?_,?_,?_,?_] [(true,9),(false,0),(false,1),(false,2)] ⟨?_,?_,?_,?_,?_,?_,?_,?_,?_,?_,trivial⟩ (L':=[(16,?_),(3,?_),(2,?_),(0,?_)]) ?_ fun a19 w20 S21=>?_
 rotate_left 14
 · exact opV S18.r fun c=>run_v (run_move rfl) (c.q 0 rfl)
 · exact opV S18.r fun c=>run_geq rfl (c.e 0 rfl) rfl
 · exact opV S18.r fun c=>run_v (run_move rfl) (c.e 0 rfl)
 · exact opG S18.r 0 (fun hγ=>opP S18.r fun c=>⟨_,run_move rfl,(c.o 2 rfl)⟩) gT
 · exact opG S18.r 0 (fun hγ=>opV S18.r fun c=>run_v (run_move rfl) (c.q 0 rfl)) gT
 · exact opG S18.r 2 (fun hγ=>opP S18.r fun c=>ix_sl Tryz.underlying37 infoRz (c.h 0 rfl hγ) (ev (c.h 1 rfl hγ)) (i:=n - 1) (by have:=of_decide_eq_true hγ; omega) (lR_get (by have:=of_decide_eq_true hγ; omega))) gT
 · exact opG S18.r 1 (fun hγ=>opP S18.r fun c=>ld_pt (c.h 0 rfl hγ) Tryz.underlying26 info_Rat) gT
 · exact opG S18.r 1 (fun hγ=>opC S18.r rfl fun c B=>⟨_,args_1 rfl,(c_sign (by have:=of_decide_eq_true hγ; omega) (c.h 0 rfl hγ))⟩) gT
 · exact opG S18.r 1 (fun hγ=>opV S18.r fun c=>run_eql rfl (ev (c.h 0 rfl hγ)) rfl) gT
 · exact opE S18.r fun c=>⟨_,run_pick rfl (c.e 0 rfl),pick_and (c.h 1 rfl)⟩
 · rfl
 refine wpList_nil (then_normal ?_)
 refine cond_b _ (ev (S21.sl 0 rfl)) (fun hb23=>?_) (fun hb23=>?_)
 ·obtain ⟨hd1,hd2⟩:=deg_t hb23
  refine wp_skip (then_normal ?_)
  refine wp_block ?_
  refine st_seq S21 2 [?_,?_] [(true,1),(false,1),(false,2),(false,3)] ⟨?_,?_,trivial⟩ (L':=[(18,?_),(3,?_),(2,?_),(0,?_)]) ?_ fun a24 w25 S26=>?_
  rotate_left 6
  · exact opV S21.r fun c=>run_v (run_move rfl) (c.q 1 rfl)
  · exact opV S21.r fun c=>run_sub rfl (c.e 0 rfl) rfl (by omega) (by omega)
  · rfl
  refine t_asg S26 0 fun a28 S29=>?_
  refine wpList_nil (in_normal (then_normal ?_))
  exact ⟨n - 1,(by first | omega | (dsimp only; omega)),(deg_next hp17 hd1 hd2),_,S29.toX ⟨(S29.sl 0 rfl).trans (by first | rfl | exact congrArg _ (by omega)),S29.sl 2 rfl,S29.sl 3 rfl,trivial⟩ trivial⟩
 ·refine wp_exit ?_
  repeat (first | refine exit_in ?_ | refine exit_then ?_ | refine exit_out (by decide) ?_)
  refine (then_normal ?_)
  refine wp_seq ?_
  refine st_seq S21 1 [?_] [(true,0),(false,2)] ⟨?_,trivial⟩ (L':=[(19,?_),(2,?_)]) ?_ fun a30 w31 S32=>?_
  rotate_left 3
  · exact opV S21.r fun c=>run_v (run_move rfl) (c.q 1 rfl)
  · rfl
  refine t_asg S32 0 fun a34 S35=>?_
  refine wpList_nil (then_normal ?_)
  refine wp_ret ?_
  exact st_endT S35 0 rfl fun v h=>(h).trans (deg_end hp17 hb23)
end Go.Proofs.YtcankknlbljicaaGreatDoor

namespace Go.Proofs.YtcankknlbljicaaGreatDoor
open Go.RowKit Num

set_option maxRecDepth 100000
set_option maxHeartbeats 2000000
theorem p_cut {qs:List Rat} {k:Nat} {v0:Value} {w:World} {O:Bs} (hn:qs.length≤1000000) (hk:k≤999990000)  (pf0:(mSl 3 (lR qs (k))).S O w v0) (ho:OB O w) :
    Calls Tryz.prog 97 #[v0] w (RetM (mSl 3 (lR (cutQ qs) (k))) O w):=by
 refine st_start 8 Tryz.func97 [(mSl 3 (lR qs (k)))] ⟨pf0,trivial⟩ ho fun a S=>?_
 have hcl:=cutn_le qs
 refine wp_seq ?_
 refine st_seq S 0 [] [(false,0)] trivial (L':=[(0,?_)]) ?_ fun a1 w2 S3=>?_
 rotate_left 1
 · rfl
 refine t_asgC S3 fun a5 S6=>?_
 refine wpList_nil (then_normal ?_)
 refine wp_seq ?_
 refine st_seq S6 5 [?_,?_,?_,?_,?_] [(true,4),(false,0)] ⟨?_,?_,?_,?_,?_,trivial⟩ (L':=[(7,?_),(2,?_)]) ?_ fun a7 w8 S9=>?_
 rotate_left 7
 · exact opP S6.r fun c=>⟨_,run_move rfl,(c.o 1 rfl)⟩
 · exact opP S6.r fun c=>⟨_,run_move rfl,(c.o 1 rfl)⟩
 · exact opC S6.r rfl fun c B=>⟨_,args_1 rfl,(p_degree (by omega) (by omega) (c.h 0 rfl) (S6.obc c.wb))⟩
 · exact opV S6.r fun c=>run_add rfl (c.e 0 rfl) rfl (by omega) (by omega)
 · exact opP S6.r fun c=>sl_hR ((cutn qs)) (c.h 0 rfl) (c.e 1 rfl) (by omega) (by omega)
 · rfl
 refine t_asg S9 0 fun a11 S12=>?_
 refine wpList_nil (then_normal ?_)
 refine wp_ret ?_
 exact st_endT S12 0 rfl fun v h=>h

theorem p_cutC {qs:List Rat} {k:Nat} {v0:Value} {w:World} {O:Bs} (hn:qs.length≤1000000) (hk:k≤999990000)  (pf0:(mSl 3 (lC qs (k))).S O w v0) (ho:OB O w) :
    Calls Tryz.prog 97 #[v0] w (RetM (mSl 3 (lC (cutQ qs) (k))) O w):=by
 refine st_start 8 Tryz.func97 [(mSl 3 (lC qs (k)))] ⟨pf0,trivial⟩ ho fun a S=>?_
 have hcl:=cutn_le qs
 refine wp_seq ?_
 refine st_seq S 0 [] [(false,0)] trivial (L':=[(0,?_)]) ?_ fun a1 w2 S3=>?_
 rotate_left 1
 · rfl
 refine t_asgC S3 fun a5 S6=>?_
 refine wpList_nil (then_normal ?_)
 refine wp_seq ?_
 refine st_seq S6 5 [?_,?_,?_,?_,?_] [(true,4),(false,0)] ⟨?_,?_,?_,?_,?_,trivial⟩ (L':=[(7,?_),(2,?_)]) ?_ fun a7 w8 S9=>?_
 rotate_left 7
 · exact opP S6.r fun c=>⟨_,run_move rfl,(c.o 1 rfl)⟩
 · exact opP S6.r fun c=>⟨_,run_move rfl,(c.o 1 rfl)⟩
 · exact opC S6.r rfl fun c B=>⟨_,args_1 rfl,(p_degree (by omega) (by omega) (slC_r (c.h 0 rfl)) (S6.obc c.wb))⟩
 · exact opV S6.r fun c=>run_add rfl (c.e 0 rfl) rfl (by omega) (by omega)
 · exact opP S6.r fun c=>sl_hC ((cutn qs)) (c.h 0 rfl) (c.e 1 rfl) (by omega) (by omega)
 · rfl
 refine t_asg S9 0 fun a11 S12=>?_
 refine wpList_nil (then_normal ?_)
 refine wp_ret ?_
 exact st_endT S12 0 rfl fun v h=>h

theorem p_coef {qs:List Rat} {k:Nat} {i:Nat} {v0:Value} {w:World} {O:Bs} (hn:qs.length≤1000000) (hk:k≤999990000) (hi:i≤1000000) (pf0:(mSl 3 (lR qs (k))).S O w v0) (ho:OB O w) :
    Calls Tryz.prog 101 #[v0,.int .i64 ((i:Nat):Int)] w (RetM (mR (qs.getD i 0) (k)) O w):=by
 refine st_start 14 Tryz.func101 [(mSl 3 (lR qs (k))),(mV (.int .i64 ((i:Nat):Int)))] ⟨pf0,rfl,trivial⟩ ho fun a S=>?_
 refine wp_seq ?_
 refine st_seq S 0 [] [(false,0),(false,1)] trivial (L':=[(0,?_),(1,?_)]) ?_ fun a1 w2 S3=>?_
 rotate_left 2
 · rfl
 refine t_alloc S3 zero_Rat (fun _ _ _=>bx_Rat) fun O a5 w6 g7 S8=>?_
 refine wpList_nil (then_normal ?_)
 refine wp_seq ?_
 refine wp_seq ?_
 refine st_seq S8 4 [?_,?_,?_,?_] [(true,3),(false,0),(false,1),(false,2)] ⟨?_,?_,?_,?_,trivial⟩ (L':=[(8,?_),(4,?_),(0,?_),(1,?_)]) ?_ fun a9 w10 S11=>?_
 rotate_left 8
 · exact opV S8.r fun c=>run_v (run_move rfl) (c.q 2 rfl)
 · exact opP S8.r fun c=>⟨_,run_move rfl,(c.o 1 rfl)⟩
 · exact opV S8.r fun c=>len_L qs.length Tryz.underlying37 (c.h 0 rfl) (lR_len _ _)
 · exact opV S8.r fun c=>run_geq rfl (c.e 0 rfl) (c.e 1 rfl)
 · rfl
 refine wpList_nil (then_normal ?_)
 refine cond_b _ (ev (S11.sl 0 rfl)) (fun hb13=>?_) (fun hb13=>?_)
 ·have hb13p:=of_decide_eq_true hb13
  refine wp_seq ?_
  refine st_seq S11 1 [?_] [(true,0),(false,1),(false,2),(false,3)] ⟨?_,trivial⟩ (L':=[(9,?_),(4,?_),(0,?_),(1,?_)]) ?_ fun a14 w15 S16=>?_
  rotate_left 5
  · exact opP S11.r fun c=>bld_z3 rfl
  · rfl
  refine t_sto S16 1 0 0 rfl isZ.cv (fun w18 S19=>?_) info_Rat
  refine wpList_nil (then_normal ?_)
  refine wp_ret ?_
  exact st_end S19 1 0 rfl Tryz.underlying26 info_Rat fun v h=>(isZ.r0 (getQ_out (by have:=hb13p; omega)) h)
 ·have hb13p:=of_decide_eq_false hb13
  refine wp_skip (then_normal ?_)
  refine wp_seq ?_
  refine st_seq S11 4 [?_,?_,?_,?_] [(true,3),(false,1)] ⟨?_,?_,?_,?_,trivial⟩ (L':=[(13,?_),(4,?_)]) ?_ fun a20 w21 S22=>?_
  rotate_left 6
  · exact opP S11.r fun c=>⟨_,run_move rfl,(c.o 2 rfl)⟩
  · exact opV S11.r fun c=>run_v (run_move rfl) (c.q 3 rfl)
  · exact opP S11.r fun c=>ix_sl Tryz.underlying37 infoRz (c.h 0 rfl) (c.e 1 rfl) (i:=i) (by omega) (lR_get (by omega))
  · exact opP S11.r fun c=>ld_pt (c.h 0 rfl) Tryz.underlying26 info_Rat
  · rfl
  refine t_sto S22 1 0 0 rfl isR.cv (fun w24 S25=>?_) info_Rat
  refine wpList_nil (then_normal ?_)
  refine wp_ret ?_
  exact st_end S25 1 0 rfl Tryz.underlying26 info_Rat fun v h=>h

theorem p_zeros {n:Nat}  {w:World} {O:Bs} (hn:n≤1000000)  (ho:OB O w) :
    Calls Tryz.prog 108 #[.int .i64 ((n:Nat):Int)] w (RetF 26 3 (lC (List.replicate n 0) 2) O w):=by
 refine st_start 18 Tryz.func108 [(mV (.int .i64 ((n:Nat):Int)))] ⟨rfl,trivial⟩ ho fun a S=>?_
 refine wp_seq ?_
 refine st_seq S 0 [] [(false,0)] trivial (L':=[(0,?_)]) ?_ fun a1 w2 S3=>?_
 rotate_left 1
 · rfl
 refine t_asgC S3 fun a5 S6=>?_
 refine wpList_nil (then_normal ?_)
 refine wp_seq ?_
 refine st_seq S6 1 [?_] [(true,0),(false,0)] ⟨?_,trivial⟩ (L':=[(5,?_),(2,?_)]) ?_ fun a7 w8 S9=>?_
 rotate_left 3
 · exact opV S6.r fun c=>run_v (run_move rfl) (c.q 1 rfl)
 · rfl
 refine t_makeI S9 (fun _=>mC 0 2) (S9.e 0 rfl) (n:=n) (by omega) (by omega) fun O a11 w12 v13 S14=>?_
 refine t_asg S14 0 fun a15 S16=>?_
 refine wpList_nil (then_normal ?_)
 refine wp_seq ?_
 refine wp_seq ?_
 refine st_seq S16 3 [?_,?_,?_] [(true,1),(true,2),(false,0),(false,3)] ⟨?_,?_,?_,trivial⟩ (L':=[(8,?_),(9,?_),(3,?_),(2,?_)]) ?_ fun a17 w18 S19=>?_
 rotate_left 7
 · exact opV S16.r fun c=>run_v (run_move rfl) (c.q 0 rfl)
 · exact opV S16.r fun c=>len_own n Tryz.underlying37 (c.own 0 rfl) (c.e 0 rfl) (rowI_len _ _ _ _)
 · exact opV S16.r fun c=>run_moveC rfl
 · rfl
 refine wpList_nil (then_normal ?_)
 refine wp_block ?_
 refine st_loop (τ:=Nat) (fun i=>[(8,(mV (.int .i64 ((n:Nat):Int)))),(9,(mV (.int .i64 ((i:Nat):Int)))),(3,(mV (v13))),(2,(mV (.slice none 0 0)))]) (fun i=>[.own v13 26 3 (rowI n i (fun _=>mC 0 2) (fun _=>mZ))]) (fun i=>i≤n) (fun i=>n - i) 0 (by omega) (S19.toX ⟨S19.sl 0 rfl,S19.sl 1 rfl,S19.sl 2 rfl,S19.sl 3 rfl,trivial⟩ ⟨S19.f 0 rfl,trivial⟩) ?_
 rintro i O a23 w24 hp25 S26
 try dsimp only at hp25 S26
 refine wp_seq ?_
 refine st_seq S26 1 [?_] [(true,0),(false,0),(false,1),(false,2),(false,3)] ⟨?_,trivial⟩ (L':=[(10,?_),(8,?_),(9,?_),(3,?_),(2,?_)]) ?_ fun a27 w28 S29=>?_
 rotate_left 6
 · exact opV S26.r fun c=>run_lss rfl (c.q 1 rfl) (c.q 0 rfl)
 · rfl
 refine wpList_nil (then_normal ?_)
 refine wp_seq ?_
 refine cond_b _ (ev (S29.sl 0 rfl)) (fun hb31=>?_) (fun hb31=>?_)
 ·have hb31p:=of_decide_eq_true hb31
  refine wp_skip (then_normal ?_)
  refine wp_seq ?_
  refine wp_block ?_
  refine wp_seq ?_
  refine st_seq S29 1 [?_] [(true,0),(false,1),(false,2),(false,3),(false,4)] ⟨?_,trivial⟩ (L':=[(11,?_),(8,?_),(9,?_),(3,?_),(2,?_)]) ?_ fun a32 w33 S34=>?_
  rotate_left 6
  · exact opV S29.r fun c=>run_v (run_move rfl) (c.q 2 rfl)
  · rfl
  refine t_asg S34 0 fun a36 S37=>?_
  refine wpList_nil (then_normal ?_)
  refine st_seq S37 4 [?_,?_,?_,?_] [(true,2),(true,3),(false,2),(false,3),(false,4),(false,5)] ⟨?_,?_,?_,?_,trivial⟩ (L':=[(14,?_),(15,?_),(8,?_),(9,?_),(3,?_),(2,?_)]) ?_ fun a38 w39 S40=>?_
  rotate_left 10
  · exact opV S37.r fun c=>run_v (run_move rfl) (c.q 4 rfl)
  · exact opV S37.r fun c=>run_v (run_move rfl) (c.q 0 rfl)
  · exact opC S37.r rfl fun c B=>⟨_,args_1 rfl,(c_of (0) (by omega) (by omega))⟩
  · exact opV S37.r fun c=>ix_own Tryz.underlying37 infoRz (c.own 0 rfl) (c.e 0 rfl) (c.e 1 rfl) (i:=i) (by omega) (by rw [rowI_len]; omega)
  · rfl
  refine t_stoI S40 1 0 0 rfl rfl rfl (by omega) isC.cv (fun _ _ h=>isC.of h (by simp)) fun w42 S43=>?_
  refine wpList_nil (in_normal (then_normal ?_))
  refine st_seq S43 1 [?_] [(true,0),(false,2),(false,3),(false,4),(false,5)] ⟨?_,trivial⟩ (L':=[(16,?_),(8,?_),(9,?_),(3,?_),(2,?_)]) ?_ fun a44 w45 S46=>?_
  rotate_left 6
  · exact opV S43.r fun c=>run_add rfl (c.q 3 rfl) rfl (by omega) (by omega)
  · rfl
  refine t_val S46 (run_v (run_move rfl) (S46.e 0 rfl)) fun a48 S49=>?_
  refine wpList_nil (then_normal ?_)
  exact ⟨i + 1,(by first | omega | (dsimp only; omega)),(by first | omega | (dsimp only; omega)),_,S49.toX ⟨S49.sl 2 rfl,(S49.sl 0 rfl).trans (by first | rfl | exact congrArg _ (by omega)),S49.sl 3 rfl,S49.sl 4 rfl,trivial⟩ ⟨S49.f 0 rfl,trivial⟩⟩
 ·have hb31p:=of_decide_eq_false hb31
  refine wp_exit ?_
  repeat (first | refine exit_in ?_ | refine exit_then ?_ | refine exit_out (by decide) ?_)
  refine (then_normal ?_)
  refine wp_seq ?_
  refine st_seq S29 1 [?_] [(true,0),(false,4)] ⟨?_,trivial⟩ (L':=[(17,?_),(2,?_)]) ?_ fun a50 w51 S52=>?_
  rotate_left 3
  · exact opV S29.r fun c=>run_v (run_move rfl) (c.q 3 rfl)
  · rfl
  refine t_asg S52 0 fun a54 S55=>?_
  refine wpList_nil (then_normal ?_)
  refine wp_ret ?_
  exact st_endF S55 0 0 rfl rfl (by rw [lC_len,rowI_len,List.length_replicate]) fun _ _ _ h1 h2 _ _ _ h=>rowC_end (f:=fun _=>0) (by omega) h1 h2 (by rw [List.length_replicate]) (fun j hj=>by simp [List.getElem?_replicate,hj]) h

theorem p_scaled1 {q p:Rat} {k m:Nat} {v0:Value} {v1:Value} {w:World} {O:Bs} (hk:k≤9999990000) (hm:m≤9999990000) (pf0:(mR (q) (k)).S O w v0) (pf1:(mPt 3 (mR (p) (m))).S O w v1) (hT:Tb w) (ho:OB O w) :
    Calls Tryz.prog 179 #[v0,v1] w (RetM (mC (q * p) (k + m + 3)) O w):=by
 refine st_start 7 Tryz.func179 [(mR (q) (k)),(mPt 3 (mR (p) (m)))] ⟨pf0,pf1,trivial⟩ ho fun a S=>?_
 refine wp_seq ?_
 refine st_seq S 0 [] [(false,0),(false,1)] trivial (L':=[(0,?_),(1,?_)]) ?_ fun a1 w2 S3=>?_
 rotate_left 2
 · rfl
 refine t_box S3 0 rfl isR.cv fun O a5 w6 g7 S8=>?_
 refine t_alloc S8 zero_Rat (fun _ _ _=>bx_Rat) fun O a9 w10 g11 S12=>?_
 refine wpList_nil (then_normal ?_)
 refine wp_seq ?_
 refine st_seq S12 3 [?_,?_,?_] [(true,2),(false,0)] ⟨?_,?_,?_,trivial⟩ (L':=[(6,?_),(3,?_)]) ?_ fun a13 w14 S15=>?_
 rotate_left 5
 · exact opL S12.r 1 Tryz.underlying26 info_Rat fun c=>(c.q 1 rfl)
 · exact opP S12.r fun c=>ld_pt (c.o 3 rfl) Tryz.underlying26 info_Rat
 · exact opC S12.r rfl fun c B=>⟨_,args_2 rfl rfl,(c_mul (by omega) (by omega) (c.h 0 rfl) (c.h 1 rfl) (hT.below B))⟩
 · rfl
 refine t_sto S15 1 0 0 rfl isC.cv (fun w17 S18=>?_) info_Rat
 refine wpList_nil (then_normal ?_)
 refine wp_ret ?_
 exact st_end S18 1 0 rfl Tryz.underlying26 info_Rat fun v h=>(isC.mono h (by omega))

theorem p_ratio {q p:Rat} {k m:Nat} {v0:Value} {v1:Value} {w:World} {O:Bs} (hk:k≤9999990000) (hm:m≤9999990000) (hp:p≠0) (pf0:(mR (q) (k)).S O w v0) (pf1:(mR (p) (m)).S O w v1) (hT:Tb w) (ho:OB O w) :
    Calls Tryz.prog 119 #[v0,v1] w (RetM (mC (q / p) (k + m + 3)) O w):=by
 refine st_start 14 Tryz.func119 [(mR (q) (k)),(mR (p) (m))] ⟨pf0,pf1,trivial⟩ ho fun a S=>?_
 refine wp_seq ?_
 refine st_seq S 0 [] [(false,0),(false,1)] trivial (L':=[(0,?_),(1,?_)]) ?_ fun a1 w2 S3=>?_
 rotate_left 2
 · rfl
 refine t_box S3 0 rfl isR.cv fun O a5 w6 g7 S8=>?_
 refine t_box S8 2 rfl isR.cv fun O a9 w10 g11 S12=>?_
 refine t_alloc S12 zero_Rat (fun _ _ _=>bx_Rat) fun O a13 w14 g15 S16=>?_
 refine wpList_nil (then_normal ?_)
 refine wp_seq ?_
 refine st_seq S16 6 [?_,?_,?_,?_,?_,?_] [(true,4),(true,5),(false,0)] ⟨?_,?_,?_,?_,?_,?_,trivial⟩ (L':=[(11,?_),(12,?_),(4,?_)]) ?_ fun a17 w18 S19=>?_
 rotate_left 9
 · exact opL S16.r 2 Tryz.underlying26 info_Rat fun c=>(c.q 2 rfl)
 · exact opL S16.r 1 Tryz.underlying26 info_Rat fun c=>(c.q 1 rfl)
 · exact opC S16.r rfl fun c B=>⟨_,args_2 rfl rfl,(c_div (by omega) (by omega) (c.h 0 rfl) (c.h 1 rfl) (hT.below B))⟩
 · exact opP S16.r fun c=>⟨_,run_move rfl,(c.h 0 rfl)⟩
 · exact opP S16.r fun c=>ext_0 rfl (c.h 0 rfl)
 · exact opP S16.r fun c=>ext_1 rfl (c.h 0 rfl)
 · rfl
 refine t_alloc S19 zero_Rat (fun _ _ _=>bx_Rat) fun O a21 w22 g23 S24=>?_
 refine t_sto S24 0 1 0 rfl isE.cv (fun w25 S26=>?_) info_Rat
 refine t_asg S26 2 fun a27 S28=>?_
 refine wpList_nil (then_normal ?_)
 refine wp_seq ?_
 refine st_seq S28 1 [?_] [(true,0),(false,4)] ⟨?_,trivial⟩ (L':=[(13,?_),(4,?_)]) ?_ fun a29 w30 S31=>?_
 rotate_left 3
 · exact opL S28.r 0 Tryz.underlying26 info_Rat fun c=>(c.q 1 rfl)
 · rfl
 refine t_sto S31 1 0 1 rfl isE.cv (fun w33 S34=>?_) info_Rat
 refine wpList_nil (then_normal ?_)
 refine wp_ret ?_
 exact st_end S34 1 1 rfl Tryz.underlying26 info_Rat fun v h=>(isE.ok (zeq_ne hp ▸ h))

theorem p_divided1 {q p:Rat} {k m:Nat} {v0:Value} {v1:Value} {w:World} {O:Bs} (hk:k≤9999990000) (hm:m≤9999990000) (hp:p≠0) (pf0:(mR (q) (k)).S O w v0) (pf1:(mPt 3 (mR (p) (m))).S O w v1) (hT:Tb w) (ho:OB O w) :
    Calls Tryz.prog 186 #[v0,v1] w (RetM (mC (q / p) (k + m + 3)) O w):=by
 refine st_start 7 Tryz.func186 [(mR (q) (k)),(mPt 3 (mR (p) (m)))] ⟨pf0,pf1,trivial⟩ ho fun a S=>?_
 refine wp_seq ?_
 refine st_seq S 0 [] [(false,0),(false,1)] trivial (L':=[(0,?_),(1,?_)]) ?_ fun a1 w2 S3=>?_
 rotate_left 2
 · rfl
 refine t_box S3 0 rfl isR.cv fun O a5 w6 g7 S8=>?_
 refine t_alloc S8 zero_Rat (fun _ _ _=>bx_Rat) fun O a9 w10 g11 S12=>?_
 refine wpList_nil (then_normal ?_)
 refine wp_seq ?_
 refine st_seq S12 3 [?_,?_,?_] [(true,2),(false,0)] ⟨?_,?_,?_,trivial⟩ (L':=[(6,?_),(3,?_)]) ?_ fun a13 w14 S15=>?_
 rotate_left 5
 · exact opL S12.r 1 Tryz.underlying26 info_Rat fun c=>(c.q 1 rfl)
 · exact opP S12.r fun c=>ld_pt (c.o 3 rfl) Tryz.underlying26 info_Rat
 · exact opC S12.r rfl fun c B=>⟨_,args_2 rfl rfl,(p_ratio (by omega) (by omega) (by assumption) (c.h 0 rfl) (c.h 1 rfl) (hT.below B) (S12.obc c.wb))⟩
 · rfl
 refine t_sto S15 1 0 0 rfl isC.cv (fun w17 S18=>?_) info_Rat
 refine wpList_nil (then_normal ?_)
 refine wp_ret ?_
 exact st_end S18 1 0 rfl Tryz.underlying26 info_Rat fun v h=>(isC.mono h (by omega))

theorem p_mapped {qs:List Rat} {k:Nat} {F:Rat→Rat} {K:Nat} {f:FuncId} {cap:Array Value} {v0:Value} {w:World} {O:Bs} (hn:qs.length≤1000000) (hc:∀ vs w,(callFunc f vs).run Tryz.prog w = .ok (.enter f vs) w) (hf:∀ w',Below w.heap.size w w'→∀ i v,i < qs.length→isR (qs.getD i 0) k w' v→Calls Tryz.prog f (#[v] ++ cap) w' (RetM (mC (F (qs.getD i 0)) K) (fun _=>False) w')) (pf0:(mSl 3 (lR qs (k))).S O w v0) (ho:OB O w) :
    Calls Tryz.prog 100 #[v0,.func (.func f) #[] cap] w (RetF 26 3 (lC (qs.map F) K) O w):=by
 refine st_start 26 Tryz.func100 [(mSl 3 (lR qs (k))),(mV (.func (.func f) #[] cap))] ⟨pf0,rfl,trivial⟩ ho fun a S=>?_
 refine wp_seq ?_
 refine st_seq S 0 [] [(false,0),(false,1)] trivial (L':=[(0,?_),(1,?_)]) ?_ fun a1 w2 S3=>?_
 rotate_left 2
 · rfl
 refine t_asgC S3 fun a5 S6=>?_
 refine wpList_nil (then_normal ?_)
 refine wp_seq ?_
 refine st_seq S6 2 [?_,?_] [(true,1),(false,0),(false,1),(false,2)] ⟨?_,?_,trivial⟩ (L':=[(9,?_),(4,?_),(0,?_),(1,?_)]) ?_ fun a7 w8 S9=>?_
 rotate_left 6
 · exact opP S6.r fun c=>⟨_,run_move rfl,(c.o 1 rfl)⟩
 · exact opV S6.r fun c=>len_L qs.length Tryz.underlying37 (c.h 0 rfl) (lR_len _ _)
 · rfl
 refine t_makeI S9 (fun j=>mC (F (qs.getD j 0)) K) (S9.e 0 rfl) (n:=qs.length) (by omega) (by omega) fun O a11 w12 v13 S14=>?_
 refine t_asg S14 0 fun a15 S16=>?_
 refine wpList_nil (then_normal ?_)
 refine wp_seq ?_
 refine wp_seq ?_
 refine st_seq S16 3 [?_,?_,?_] [(true,0),(true,1),(true,2),(false,0),(false,3),(false,5)] ⟨?_,?_,?_,trivial⟩ (L':=[(11,?_),(12,?_),(13,?_),(5,?_),(4,?_),(1,?_)]) ?_ fun a17 w18 S19=>?_
 rotate_left 9
 · exact opP S16.r fun c=>⟨_,run_move rfl,(c.o 4 rfl)⟩
 · exact opV S16.r fun c=>len_L qs.length Tryz.underlying37 (c.h 0 rfl) (lR_len _ _)
 · exact opV S16.r fun c=>run_moveC rfl
 · rfl
 refine wpList_nil (then_normal ?_)
 refine wp_block ?_
 refine st_loop (τ:=Nat) (fun i=>[(11,(mSl 3 (lR qs (k)))),(12,(mV (.int .i64 ((qs.length:Nat):Int)))),(13,(mV (.int .i64 ((i:Nat):Int)))),(5,(mV (v13))),(4,(mV (.slice none 0 0))),(1,(mV (.func (.func f) #[] cap)))]) (fun i=>[.own v13 26 3 (rowI qs.length i (fun j=>mC (F (qs.getD j 0)) K) (fun _=>mZ))]) (fun i=>i≤qs.length) (fun i=>qs.length - i) 0 (by omega) (S19.toX ⟨S19.sl 0 rfl,S19.sl 1 rfl,S19.sl 2 rfl,S19.sl 3 rfl,S19.sl 4 rfl,S19.sl 5 rfl,trivial⟩ ⟨S19.f 0 rfl,trivial⟩) ?_
 rintro i O a23 w24 hp25 S26
 try dsimp only at hp25 S26
 refine wp_seq ?_
 refine st_seq S26 1 [?_] [(true,0),(false,0),(false,1),(false,2),(false,3),(false,4),(false,5)] ⟨?_,trivial⟩ (L':=[(14,?_),(11,?_),(12,?_),(13,?_),(5,?_),(4,?_),(1,?_)]) ?_ fun a27 w28 S29=>?_
 rotate_left 8
 · exact opV S26.r fun c=>run_lss rfl (c.q 2 rfl) (c.q 1 rfl)
 · rfl
 refine wpList_nil (then_normal ?_)
 refine wp_seq ?_
 refine cond_b _ (ev (S29.sl 0 rfl)) (fun hb31=>?_) (fun hb31=>?_)
 ·have hb31p:=of_decide_eq_true hb31
  refine wp_skip (then_normal ?_)
  refine wp_seq ?_
  refine wp_block ?_
  refine wp_seq ?_
  refine st_seq S29 3 [?_,?_,?_] [(true,0),(true,2),(false,1),(false,2),(false,3),(false,4),(false,5),(false,6)] ⟨?_,?_,?_,trivial⟩ (L':=[(15,?_),(17,?_),(11,?_),(12,?_),(13,?_),(5,?_),(4,?_),(1,?_)]) ?_ fun a32 w33 S34=>?_
  rotate_left 11
  · exact opV S29.r fun c=>run_v (run_move rfl) (c.q 3 rfl)
  · exact opP S29.r fun c=>ix_sl Tryz.underlying37 infoRz (c.o 1 rfl) (c.q 3 rfl) (i:=i) (by omega) (lR_get (by omega))
  · exact opP S29.r fun c=>ld_pt (c.h 0 rfl) Tryz.underlying26 info_Rat
  · rfl
  refine t_alloc S34 zero_Rat (fun _ _ _=>bx_Rat) fun O a36 w37 g38 S39=>?_
  refine t_asg S39 1 fun a40 S41=>?_
  refine t_sto S41 1 3 0 rfl isR.cv (fun w42 S43=>?_) info_Rat
  refine wpList_nil (then_normal ?_)
  refine st_seq S43 6 [?_,?_,?_,?_,?_,?_] [(true,4),(true,5),(false,4),(false,5),(false,6),(false,7),(false,8),(false,9)] ⟨?_,?_,?_,?_,?_,?_,trivial⟩ (L':=[(22,?_),(23,?_),(11,?_),(12,?_),(13,?_),(5,?_),(4,?_),(1,?_)]) ?_ fun a44 w45 S46=>?_
  rotate_left 14
  · exact opV S43.r fun c=>run_v (run_move rfl) (c.q 7 rfl)
  · exact opV S43.r fun c=>run_v (run_move rfl) (c.q 0 rfl)
  · exact opV S43.r fun c=>run_v (run_move rfl) (c.q 9 rfl)
  · exact opL S43.r 0 Tryz.underlying26 info_Rat fun c=>(c.q 1 rfl)
  · exact opF S43.r rfl hc fun c B=>⟨(c.e 0 rfl),_,args_1 rfl,(retC (hf _ B i _ (by omega) (c.h 1 rfl)))⟩
  · exact opV S43.r fun c=>ix_own Tryz.underlying37 infoRz (c.own 1 rfl) (c.e 0 rfl) (c.e 1 rfl) (i:=i) (by omega) (by rw [rowI_len]; omega)
  · rfl
  refine t_stoI S46 1 0 1 rfl rfl rfl (by omega) isC.cv (fun _ _ h=>h) fun w48 S49=>?_
  refine wpList_nil (in_normal (then_normal ?_))
  refine st_seq S49 1 [?_] [(true,0),(false,2),(false,3),(false,4),(false,5),(false,6),(false,7)] ⟨?_,trivial⟩ (L':=[(24,?_),(11,?_),(12,?_),(13,?_),(5,?_),(4,?_),(1,?_)]) ?_ fun a50 w51 S52=>?_
  rotate_left 8
  · exact opV S49.r fun c=>run_add rfl (c.q 4 rfl) rfl (by omega) (by omega)
  · rfl
  refine t_val S52 (run_v (run_move rfl) (S52.e 0 rfl)) fun a54 S55=>?_
  refine wpList_nil (then_normal ?_)
  exact ⟨i + 1,(by first | omega | (dsimp only; omega)),(by first | omega | (dsimp only; omega)),_,(S55.dropN 1).toX ⟨S55.sl 2 rfl,S55.sl 3 rfl,(S55.sl 0 rfl).trans (by first | rfl | exact congrArg _ (by omega)),S55.sl 4 rfl,S55.sl 5 rfl,S55.sl 6 rfl,trivial⟩ ⟨S55.f 1 rfl,trivial⟩⟩
 ·have hb31p:=of_decide_eq_false hb31
  refine wp_exit ?_
  repeat (first | refine exit_in ?_ | refine exit_then ?_ | refine exit_out (by decide) ?_)
  refine (then_normal ?_)
  refine wp_seq ?_
  refine st_seq S29 1 [?_] [(true,0),(false,5)] ⟨?_,trivial⟩ (L':=[(25,?_),(4,?_)]) ?_ fun a56 w57 S58=>?_
  rotate_left 3
  · exact opV S29.r fun c=>run_v (run_move rfl) (c.q 4 rfl)
  · rfl
  refine t_asg S58 0 fun a60 S61=>?_
  refine wpList_nil (then_normal ?_)
  refine wp_ret ?_
  exact st_endF S61 0 0 rfl rfl (by rw [lC_len,rowI_len,List.length_map]) fun _ _ _ h1 h2 _ _ _ h=>rowC_end (by omega) h1 h2 (by rw [List.length_map]) (fun j hj=>getD_map hj) h
end Go.Proofs.YtcankknlbljicaaGreatDoor

namespace Go.Proofs.YtcankknlbljicaaGreatDoor
open Go.RowKit Num

set_option maxRecDepth 100000
set_option maxHeartbeats 2000000
theorem p_scaled {qs:List Rat} {k:Nat} {p:Rat} {m:Nat} {v0:Value} {v1:Value} {w:World} {O:Bs} (hn:qs.length≤1000000) (hk:k≤999990000) (hm:m≤999990000) (pf0:(mSl 3 (lR qs (k))).S O w v0) (pf1:(mR (p) (m)).S O w v1) (hT:Tb w) (ho:OB O w) :
    Calls Tryz.prog 116 #[v0,v1] w (RetF 26 3 (lC (qs.map fun q=>q * p) (k + m + 3)) O w):=by
 refine st_start 8 Tryz.func116 [(mSl 3 (lR qs (k))),(mR (p) (m))] ⟨pf0,pf1,trivial⟩ ho fun a S=>?_
 refine wp_seq ?_
 refine st_seq S 0 [] [(false,0),(false,1)] trivial (L':=[(0,?_),(1,?_)]) ?_ fun a1 w2 S3=>?_
 rotate_left 2
 · rfl
 refine t_box S3 1 rfl isR.cv fun O a5 w6 g7 S8=>?_
 refine t_asgC S8 fun a9 S10=>?_
 refine wpList_nil (then_normal ?_)
 refine wp_seq ?_
 refine st_seq S10 2 [?_,?_] [(true,0),(true,1),(false,0)] ⟨?_,?_,trivial⟩ (L':=[(5,?_),(6,?_),(4,?_)]) ?_ fun a11 w12 S13=>?_
 rotate_left 5
 · exact opP S10.r fun c=>⟨_,run_move rfl,(c.o 2 rfl)⟩
 · exact opV S10.r fun c=>run_makeFunc rfl (args_1 (c.q 1 rfl))
 · rfl
 refine t_callF S13 rfl (args_2 rfl (S13.e 1 rfl)) (p_mapped (F:=fun q=>q * p) (by omega) (by intro _ _; kernel_rfl) (fun w' hb i v hi hv=>p_scaled1 (by omega) (by omega) hv (bx_pt (S13.bx 0 rfl) hb) (hT.below (S13.B.trans (hb.mono S13.B.size))) fun _ h=>h.elim) (S13.sl 0 rfl) S13.ob) fun O a15 w17 v18 S16=>?_
 refine t_asg S16 0 fun a19 S20=>?_
 refine wpList_nil (then_normal ?_)
 refine wp_ret ?_
 exact st_endF S20 0 0 rfl rfl rfl fun _ _ _ h1 h2 _ _ _ h=>by rw [h1] at h2; exact Option.some.inj h2 ▸ h

theorem p_divided {qs:List Rat} {k:Nat} {p:Rat} {m:Nat} {v0:Value} {v1:Value} {w:World} {O:Bs} (hn:qs.length≤1000000) (hk:k≤999990000) (hm:m≤999990000) (hp:p≠0) (pf0:(mSl 3 (lR qs (k))).S O w v0) (pf1:(mR (p) (m)).S O w v1) (hT:Tb w) (ho:OB O w) :
    Calls Tryz.prog 123 #[v0,v1] w (RetF 26 3 (lC (qs.map fun q=>q / p) (k + m + 3)) O w):=by
 refine st_start 8 Tryz.func123 [(mSl 3 (lR qs (k))),(mR (p) (m))] ⟨pf0,pf1,trivial⟩ ho fun a S=>?_
 refine wp_seq ?_
 refine st_seq S 0 [] [(false,0),(false,1)] trivial (L':=[(0,?_),(1,?_)]) ?_ fun a1 w2 S3=>?_
 rotate_left 2
 · rfl
 refine t_box S3 1 rfl isR.cv fun O a5 w6 g7 S8=>?_
 refine t_asgC S8 fun a9 S10=>?_
 refine wpList_nil (then_normal ?_)
 refine wp_seq ?_
 refine st_seq S10 2 [?_,?_] [(true,0),(true,1),(false,0)] ⟨?_,?_,trivial⟩ (L':=[(5,?_),(6,?_),(4,?_)]) ?_ fun a11 w12 S13=>?_
 rotate_left 5
 · exact opP S10.r fun c=>⟨_,run_move rfl,(c.o 2 rfl)⟩
 · exact opV S10.r fun c=>run_makeFunc rfl (args_1 (c.q 1 rfl))
 · rfl
 refine t_callF S13 rfl (args_2 rfl (S13.e 1 rfl)) (p_mapped (F:=fun q=>q / p) (by omega) (by intro _ _; kernel_rfl) (fun w' hb i v hi hv=>p_divided1 (by omega) (by omega) hp hv (bx_pt (S13.bx 0 rfl) hb) (hT.below (S13.B.trans (hb.mono S13.B.size))) fun _ h=>h.elim) (S13.sl 0 rfl) S13.ob) fun O a15 w17 v18 S16=>?_
 refine t_asg S16 0 fun a19 S20=>?_
 refine wpList_nil (then_normal ?_)
 refine wp_ret ?_
 exact st_endF S20 0 0 rfl rfl rfl fun _ _ _ h1 h2 _ _ _ h=>by rw [h1] at h2; exact Option.some.inj h2 ▸ h
end Go.Proofs.YtcankknlbljicaaGreatDoor

namespace Go.Proofs.YtcankknlbljicaaGreatDoor
open Go.RowKit Num

set_option maxRecDepth 100000
set_option maxHeartbeats 2000000
theorem p_sum {ps qs:List Rat} {k m:Nat} {v0:Value} {v1:Value} {w:World} {O:Bs} (hn:ps.length≤99999) (hl:qs.length≤99999) (hk:k≤333330000) (hm:m≤333330000) (pf0:(mSl 3 (lR ps (k))).S O w v0) (pf1:(mSl 3 (lR qs (m))).S O w v1) (hT:Tb w) (ho:OB O w) :
    Calls Tryz.prog 113 #[v0,v1] w (RetF 26 3 (lC (addQ ps qs) (k + m + 3)) O w):=by
 refine st_start 30 Tryz.func113 [(mSl 3 (lR ps (k))),(mSl 3 (lR qs (m)))] ⟨pf0,pf1,trivial⟩ ho fun a S=>?_
 refine wp_seq ?_
 refine st_seq S 0 [] [(false,0),(false,1)] trivial (L':=[(0,?_),(1,?_)]) ?_ fun a1 w2 S3=>?_
 rotate_left 2
 · rfl
 refine t_asgC S3 fun a5 S6=>?_
 refine wpList_nil (then_normal ?_)
 refine wp_seq ?_
 refine st_seq S6 5 [?_,?_,?_,?_,?_] [(true,4),(false,0),(false,1),(false,2)] ⟨?_,?_,?_,?_,?_,trivial⟩ (L':=[(11,?_),(4,?_),(0,?_),(1,?_)]) ?_ fun a7 w8 S9=>?_
 rotate_left 9
 · exact opP S6.r fun c=>⟨_,run_move rfl,(c.o 1 rfl)⟩
 · exact opV S6.r fun c=>len_L ps.length Tryz.underlying37 (c.h 0 rfl) (lR_len _ _)
 · exact opP S6.r fun c=>⟨_,run_move rfl,(c.o 2 rfl)⟩
 · exact opV S6.r fun c=>len_L qs.length Tryz.underlying37 (c.h 0 rfl) (lR_len _ _)
 · exact opV S6.r fun c=>run_max rfl (c.e 0 rfl) (c.e 1 rfl)
 · rfl
 refine t_makeI S9 (fun j=>mC (ps.getD j 0 + qs.getD j 0) (k + m + 3)) (S9.e 0 rfl) (n:=max (ps.length) (qs.length)) (by omega) (by omega) fun O a11 w12 v13 S14=>?_
 refine t_asg S14 0 fun a15 S16=>?_
 refine wpList_nil (then_normal ?_)
 refine wp_seq ?_
 refine wp_seq ?_
 refine st_seq S16 3 [?_,?_,?_] [(true,1),(true,2),(false,0),(false,3),(false,4),(false,5)] ⟨?_,?_,?_,trivial⟩ (L':=[(14,?_),(15,?_),(5,?_),(4,?_),(0,?_),(1,?_)]) ?_ fun a17 w18 S19=>?_
 rotate_left 9
 · exact opV S16.r fun c=>run_v (run_move rfl) (c.q 0 rfl)
 · exact opV S16.r fun c=>len_own (max (ps.length) (qs.length)) Tryz.underlying37 (c.own 0 rfl) (c.e 0 rfl) (rowI_len _ _ _ _)
 · exact opV S16.r fun c=>run_moveC rfl
 · rfl
 refine wpList_nil (then_normal ?_)
 refine wp_block ?_
 refine st_loop (τ:=Nat) (fun i=>[(14,(mV (.int .i64 ((max (ps.length) (qs.length):Nat):Int)))),(15,(mV (.int .i64 ((i:Nat):Int)))),(5,(mV (v13))),(4,(mV (.slice none 0 0))),(0,(mSl 3 (lR ps (k)))),(1,(mSl 3 (lR qs (m))))]) (fun i=>[.own v13 26 3 (rowI (max ps.length qs.length) i (fun j=>mC (ps.getD j 0 + qs.getD j 0) (k + m + 3)) (fun _=>mZ))]) (fun i=>i≤max ps.length qs.length) (fun i=>max ps.length qs.length - i) 0 (by omega) (S19.toX ⟨S19.sl 0 rfl,S19.sl 1 rfl,S19.sl 2 rfl,S19.sl 3 rfl,S19.sl 4 rfl,S19.sl 5 rfl,trivial⟩ ⟨S19.f 0 rfl,trivial⟩) ?_
 rintro i O a23 w24 hp25 S26
 try dsimp only at hp25 S26
 refine wp_seq ?_
 refine st_seq S26 1 [?_] [(true,0),(false,0),(false,1),(false,2),(false,3),(false,4),(false,5)] ⟨?_,trivial⟩ (L':=[(16,?_),(14,?_),(15,?_),(5,?_),(4,?_),(0,?_),(1,?_)]) ?_ fun a27 w28 S29=>?_
 rotate_left 8
 · exact opV S26.r fun c=>run_lss rfl (c.q 1 rfl) (c.q 0 rfl)
 · rfl
 refine wpList_nil (then_normal ?_)
 refine wp_seq ?_
 refine cond_b _ (ev (S29.sl 0 rfl)) (fun hb31=>?_) (fun hb31=>?_)
 ·have hb31p:=of_decide_eq_true hb31
  refine wp_skip (then_normal ?_)
  refine wp_seq ?_
  refine wp_block ?_
  refine wp_seq ?_
  refine st_seq S29 1 [?_] [(true,0),(false,1),(false,2),(false,3),(false,4),(false,5),(false,6)] ⟨?_,trivial⟩ (L':=[(17,?_),(14,?_),(15,?_),(5,?_),(4,?_),(0,?_),(1,?_)]) ?_ fun a32 w33 S34=>?_
  rotate_left 8
  · exact opV S29.r fun c=>run_v (run_move rfl) (c.q 2 rfl)
  · rfl
  refine t_asg S34 0 fun a36 S37=>?_
  refine wpList_nil (then_normal ?_)
  refine st_seq S37 10 [?_,?_,?_,?_,?_,?_,?_,?_,?_,?_] [(true,8),(true,9),(false,2),(false,3),(false,4),(false,5),(false,6),(false,7)] ⟨?_,?_,?_,?_,?_,?_,?_,?_,?_,?_,trivial⟩ (L':=[(26,?_),(27,?_),(14,?_),(15,?_),(5,?_),(4,?_),(0,?_),(1,?_)]) ?_ fun a38 w39 S40=>?_
  rotate_left 18
  · exact opV S37.r fun c=>run_v (run_move rfl) (c.q 4 rfl)
  · exact opV S37.r fun c=>run_v (run_move rfl) (c.q 0 rfl)
  · exact opP S37.r fun c=>⟨_,run_move rfl,(c.o 6 rfl)⟩
  · exact opV S37.r fun c=>run_v (run_move rfl) (c.q 0 rfl)
  · exact opC S37.r rfl fun c B=>⟨_,args_2 rfl (c.e 1 rfl),(p_coef (i:=i) (by omega) (by omega) (by omega) (c.h 0 rfl) (S37.obc c.wb))⟩
  · exact opP S37.r fun c=>⟨_,run_move rfl,(c.o 7 rfl)⟩
  · exact opV S37.r fun c=>run_v (run_move rfl) (c.q 0 rfl)
  · exact opC S37.r rfl fun c B=>⟨_,args_2 rfl (c.e 1 rfl),(p_coef (i:=i) (by omega) (by omega) (by omega) (c.h 0 rfl) (S37.obc c.wb))⟩
  · exact opC S37.r rfl fun c B=>⟨_,args_2 rfl rfl,(c_add (by omega) (by omega) (c.h 0 rfl) (c.h 1 rfl) (hT.below B))⟩
  · exact opV S37.r fun c=>ix_own Tryz.underlying37 infoRz (c.own 0 rfl) (c.e 0 rfl) (c.e 1 rfl) (i:=i) (by omega) (by rw [rowI_len]; omega)
  · rfl
  refine t_stoI S40 1 0 0 rfl rfl rfl (by omega) isC.cv (fun _ _ h=>isC.mono h (by omega)) fun w42 S43=>?_
  refine wpList_nil (in_normal (then_normal ?_))
  refine st_seq S43 1 [?_] [(true,0),(false,2),(false,3),(false,4),(false,5),(false,6),(false,7)] ⟨?_,trivial⟩ (L':=[(28,?_),(14,?_),(15,?_),(5,?_),(4,?_),(0,?_),(1,?_)]) ?_ fun a44 w45 S46=>?_
  rotate_left 8
  · exact opV S43.r fun c=>run_add rfl (c.q 3 rfl) rfl (by omega) (by omega)
  · rfl
  refine t_val S46 (run_v (run_move rfl) (S46.e 0 rfl)) fun a48 S49=>?_
  refine wpList_nil (then_normal ?_)
  exact ⟨i + 1,(by first | omega | (dsimp only; omega)),(by first | omega | (dsimp only; omega)),_,S49.toX ⟨S49.sl 2 rfl,(S49.sl 0 rfl).trans (by first | rfl | exact congrArg _ (by omega)),S49.sl 3 rfl,S49.sl 4 rfl,S49.sl 5 rfl,S49.sl 6 rfl,trivial⟩ ⟨S49.f 0 rfl,trivial⟩⟩
 ·have hb31p:=of_decide_eq_false hb31
  refine wp_exit ?_
  repeat (first | refine exit_in ?_ | refine exit_then ?_ | refine exit_out (by decide) ?_)
  refine (then_normal ?_)
  refine wp_seq ?_
  refine st_seq S29 1 [?_] [(true,0),(false,4)] ⟨?_,trivial⟩ (L':=[(29,?_),(4,?_)]) ?_ fun a50 w51 S52=>?_
  rotate_left 3
  · exact opV S29.r fun c=>run_v (run_move rfl) (c.q 3 rfl)
  · rfl
  refine t_asg S52 0 fun a54 S55=>?_
  refine wpList_nil (then_normal ?_)
  refine wp_ret ?_
  exact st_endF S55 0 0 rfl rfl (by rw [lC_len,rowI_len,addQ_len]) fun _ _ _ h1 h2 _ _ _ h=>rowC_end (by omega) h1 h2 addQ_len (fun j hj=>addQ_get) h

end Go.Proofs.YtcankknlbljicaaGreatDoor

namespace Go.Proofs.YtcankknlbljicaaGreatDoor
open Go.RowKit Num

set_option maxRecDepth 100000
set_option maxHeartbeats 2000000
theorem p_der {qs:List Rat} {k:Nat} {v0:Value} {w:World} {O:Bs} (hn:qs.length≤99999) (hk:k≤333330000) (pf0:(mSl 3 (lR qs (k))).S O w v0) (hT:Tb w) (ho:OB O w) :
    Calls Tryz.prog 56 #[v0] w (RetM (mSl 3 (lC (cutQ (derQ qs)) (k + 5))) O w):=by
 refine st_start 25 Tryz.func56 [(mSl 3 (lR qs (k)))] ⟨pf0,trivial⟩ ho fun a S=>?_
 refine wp_seq ?_
 refine st_seq S 0 [] [(false,0)] trivial (L':=[(0,?_)]) ?_ fun a1 w2 S3=>?_
 rotate_left 1
 · rfl
 refine t_asgC S3 fun a5 S6=>?_
 refine wpList_nil (then_normal ?_)
 refine wp_seq ?_
 refine st_seq S6 0 [] [(false,0),(false,1)] trivial (L':=[(2,?_),(0,?_)]) ?_ fun a7 w8 S9=>?_
 rotate_left 2
 · rfl
 refine t_asgC S9 fun a11 S12=>?_
 have S13:=S12.nil 26 3
 refine wpList_nil (then_normal ?_)
 refine wp_seq ?_
 refine wp_seq ?_
 refine st_seq S13 3 [?_,?_,?_] [(true,0),(true,1),(true,2),(false,0),(false,1)] ⟨?_,?_,?_,trivial⟩ (L':=[(6,?_),(7,?_),(8,?_),(3,?_),(2,?_)]) ?_ fun a14 w15 S16=>?_
 rotate_left 8
 · exact opP S13.r fun c=>⟨_,run_move rfl,(c.o 2 rfl)⟩
 · exact opV S13.r fun c=>len_L qs.length Tryz.underlying37 (c.h 0 rfl) (lR_len _ _)
 · exact opV S13.r fun c=>run_moveC rfl
 · rfl
 refine wpList_nil (then_normal ?_)
 refine wp_block ?_
 refine st_loop (τ:=Nat × Value) (fun ⟨i,v⟩=>[(6,(mSl 3 (lR qs (k)))),(7,(mV (.int .i64 ((qs.length:Nat):Int)))),(8,(mV (.int .i64 ((i:Nat):Int)))),(3,(mV (v))),(2,(mV (.slice none 0 0)))]) (fun ⟨i,v⟩=>[.own v 26 3 (lC (dQ qs i) (k + 5))]) (fun ⟨i,v⟩=>i≤qs.length) (fun ⟨i,v⟩=>qs.length - i) (0,.slice none 0 0) (by omega) (S16.toX ⟨S16.sl 0 rfl,S16.sl 1 rfl,S16.sl 2 rfl,S16.sl 3 rfl,S16.sl 4 rfl,trivial⟩ ⟨S16.f 0 rfl,trivial⟩) ?_
 rintro ⟨i,v⟩ O a20 w21 hp22 S23
 try dsimp only at hp22 S23
 have hdl:=dQ_len qs i
 refine wp_seq ?_
 refine st_seq S23 1 [?_] [(true,0),(false,0),(false,1),(false,2),(false,3),(false,4)] ⟨?_,trivial⟩ (L':=[(9,?_),(6,?_),(7,?_),(8,?_),(3,?_),(2,?_)]) ?_ fun a24 w25 S26=>?_
 rotate_left 7
 · exact opV S23.r fun c=>run_lss rfl (c.q 2 rfl) (c.q 1 rfl)
 · rfl
 refine wpList_nil (then_normal ?_)
 refine wp_seq ?_
 refine cond_b _ (ev (S26.sl 0 rfl)) (fun hb28=>?_) (fun hb28=>?_)
 ·have hb28p:=of_decide_eq_true hb28
  refine wp_skip (then_normal ?_)
  refine wp_seq ?_
  refine wp_block ?_
  refine wp_seq ?_
  refine st_seq S26 3 [?_,?_,?_] [(true,0),(true,2),(false,1),(false,2),(false,3),(false,4),(false,5)] ⟨?_,?_,?_,trivial⟩ (L':=[(10,?_),(12,?_),(6,?_),(7,?_),(8,?_),(3,?_),(2,?_)]) ?_ fun a29 w30 S31=>?_
  rotate_left 10
  · exact opV S26.r fun c=>run_v (run_move rfl) (c.q 3 rfl)
  · exact opP S26.r fun c=>ix_sl Tryz.underlying37 infoRz (c.o 1 rfl) (c.q 3 rfl) (i:=i) (by omega) (lR_get (by omega))
  · exact opP S26.r fun c=>ld_pt (c.h 0 rfl) Tryz.underlying26 info_Rat
  · rfl
  refine t_alloc S31 zero_Rat (fun _ _ _=>bx_Rat) fun O a33 w34 g35 S36=>?_
  refine t_asg S36 1 fun a37 S38=>?_
  refine t_sto S38 1 3 0 rfl isR.cv (fun w39 S40=>?_) info_Rat
  refine wpList_nil (then_normal ?_)
  refine wp_seq ?_
  refine st_seq S40 2 [?_,?_] [(true,1),(false,0),(false,1),(false,4),(false,5),(false,6),(false,7),(false,8)] ⟨?_,?_,trivial⟩ (L':=[(14,?_),(4,?_),(5,?_),(6,?_),(7,?_),(8,?_),(3,?_),(2,?_)]) ?_ fun a41 w42 S43=>?_
  rotate_left 10
  · exact opV S40.r fun c=>run_v (run_move rfl) (c.q 0 rfl)
  · exact opV S40.r fun c=>run_gtr rfl (c.e 0 rfl) rfl
  · rfl
  refine wpList_nil (then_normal ?_)
  refine cond_b _ (ev (S43.sl 0 rfl)) (fun hb45=>?_) (fun hb45=>?_)
  ·have hb45p:=of_decide_eq_true hb45
   refine st_mono S43 6 [?_,?_,?_,?_,?_,?_] [(true,0),(true,5),(false,3),(false,4),(false,5),(false,6),(false,7)] ⟨?_,?_,?_,?_,?_,?_,trivial⟩ (L':=[(15,?_),(20,?_),(6,?_),(7,?_),(8,?_),(3,?_),(2,?_)]) ?_ fun a46 w47 S48=>?_
   rotate_left 13
   · exact opV S43.r fun c=>run_v (run_move rfl) (c.q 6 rfl)
   · exact opV S43.r fun c=>run_v (run_move rfl) (c.q 1 rfl)
   · exact opC S43.r rfl fun c B=>⟨_,args_1 (c.e 0 rfl),(c_of (((i:Nat):Int)) (by omega) (by omega))⟩
   · exact opL S43.r 0 Tryz.underlying26 info_Rat fun c=>(c.q 2 rfl)
   · exact opC S43.r rfl fun c B=>⟨_,args_2 rfl rfl,(c_mul (by omega) (by omega) (isC.r (c.h 0 rfl)) (c.h 1 rfl) (hT.below B))⟩
   · exact opN S43.r fun c=>lit1C (S43.obc c.wb) (c.h 0 rfl)
   · rfl
   refine t_appQ S48 0 1 rfl rfl (slC_mono ((S48.sl 1 rfl)) (by omega)) (by simp; omega) fun O a50 w51 v52 S53=>?_
   refine t_asg S53 0 fun a54 S55=>?_
   refine wpList_nil (in_normal (then_normal ?_))
   refine st_seq S55 1 [?_] [(true,0),(false,0),(false,4),(false,5),(false,6),(false,7)] ⟨?_,trivial⟩ (L':=[(22,?_),(3,?_),(6,?_),(7,?_),(8,?_),(2,?_)]) ?_ fun a56 w57 S58=>?_
   rotate_left 7
   · exact opV S55.r fun c=>run_add rfl (c.q 6 rfl) rfl (by omega) (by omega)
   · rfl
   refine t_val S58 (run_v (run_move rfl) (S58.e 0 rfl)) fun a60 S61=>?_
   refine wpList_nil (then_normal ?_)
   exact ⟨(i + 1,v52),(by first | omega | (dsimp only; omega)),(by first | omega | (dsimp only; omega)),_,(S61.dropN 1).toX ⟨S61.sl 3 rfl,S61.sl 4 rfl,(S61.sl 0 rfl).trans (by first | rfl | exact congrArg _ (by omega)),(S61.sl 2 rfl).trans (by first | rfl | exact congrArg _ (by omega)),S61.sl 5 rfl,trivial⟩ ⟨(by rw [← dQ_next (qs:=qs) (i:=i) (by omega)]; exact S61.f 1 rfl),trivial⟩⟩
  ·have hb45p:=of_decide_eq_false hb45
   refine wp_skip (in_normal (then_normal ?_))
   refine st_seq S43 1 [?_] [(true,0),(false,3),(false,4),(false,5),(false,6),(false,7)] ⟨?_,trivial⟩ (L':=[(22,?_),(6,?_),(7,?_),(8,?_),(3,?_),(2,?_)]) ?_ fun a62 w63 S64=>?_
   rotate_left 7
   · exact opV S43.r fun c=>run_add rfl (c.q 5 rfl) rfl (by omega) (by omega)
   · rfl
   refine t_val S64 (run_v (run_move rfl) (S64.e 0 rfl)) fun a66 S67=>?_
   refine wpList_nil (then_normal ?_)
   exact ⟨(i + 1,v),(by first | omega | (dsimp only; omega)),(by first | omega | (dsimp only; omega)),_,(S67.dropN 1).toX ⟨S67.sl 2 rfl,S67.sl 3 rfl,(S67.sl 0 rfl).trans (by first | rfl | exact congrArg _ (by omega)),(S67.sl 4 rfl).trans (by first | rfl | exact congrArg _ (by omega)),S67.sl 5 rfl,trivial⟩ ⟨(by rw [← dQ_zero (qs:=qs) (i:=i) (by omega)]; exact S67.f 1 rfl),trivial⟩⟩
 ·have hb28p:=of_decide_eq_false hb28
  refine wp_exit ?_
  repeat (first | refine exit_in ?_ | refine exit_then ?_ | refine exit_out (by decide) ?_)
  refine (then_normal ?_)
  refine wp_seq ?_
  obtain ⟨O,S68⟩:=S26.frz 4 0
  refine st_seq S68 2 [?_,?_] [(true,1),(false,5)] ⟨?_,?_,trivial⟩ (L':=[(24,?_),(2,?_)]) ?_ fun a69 w70 S71=>?_
  rotate_left 4
  · exact opP S68.r fun c=>⟨_,run_move rfl,(c.o 0 rfl)⟩
  · exact opC S68.r rfl fun c B=>⟨_,args_1 rfl,(p_cutC (by omega) (by omega) (c.h 0 rfl) (S68.obc c.wb))⟩
  · rfl
  refine t_asg S71 0 fun a73 S74=>?_
  refine wpList_nil (then_normal ?_)
  refine wp_ret ?_
  exact st_endT S74 0 rfl fun v h=>(by rw [← derQ_of (qs:=qs) (i:=i) (by omega)]; exact slC_mono h (by omega))
end Go.Proofs.YtcankknlbljicaaGreatDoor

namespace Go.Proofs.YtcankknlbljicaaGreatDoor
open Go.RowKit Num
variable {O : Bs}

def isD (xs:List Nat) (w:World) (v:Value):Prop:=∃ ao c,v = .slice ao xs.length c∧Rd w ao c xs
def mD (xs:List Nat):MP:=MP.of (isD xs) fun _ _ _ he ⟨ao,c,h1,h2⟩=>⟨ao,c,h1,h2.ext he⟩
def isJ (xs:List Nat) (w:World) (v:Value):Prop:=∃ ao c,v = .agg #[.bool false,.slice ao xs.length c]∧Rd w ao c xs
def mJ (xs:List Nat):MP:=MP.of (isJ xs) fun _ _ _ he ⟨ao,c,h1,h2⟩=>⟨ao,c,h1,h2.ext he⟩
theorem info_U:(Tryz.prog.info? 22).map (·.size)=some 1:=by kernel_rfl
theorem fa_Rat_1 {ρ:Operand→Value} {o:Oper} {w:World} {x:Operand} {g:Nat} (ho:o.op = .fieldAddr 26 x 1) (hx : ρ x = .pointer (some ⟨g,0,none⟩)):(execOp ρ o).run Tryz.prog w = .ok (.value (.pointer (some ⟨g,2,none⟩))) w:=run_fieldAddr ho hx Tryz.underlying26 rfl info_U
theorem ld_den {ρ:Operand→Value} {o:Oper} {w:World} {x:Operand} {g:Nat} {T:TypeId} {q:Rat} {k:Nat} (h:bx O T 3 (mC q k) w g) (hx : ρ x = .pointer (some ⟨g,2,none⟩)) (ho:o.op = .load 22 x:=by rfl):∃ v,(execOp ρ o).run Tryz.prog w = .ok (.value v) w∧(mD (nd q.den)).S O w v:=by
 obtain ⟨cs,h1,h2,h3,h4,ao,c,ad,d,e,k1,k2,k3⟩:=h
 obtain rfl:=Value.agg.inj e
 have hc:w.cell? ⟨g,2,none⟩=some (.slice ad (nd q.den).length d):=by rw [cell_of_row w g 2 _ T (0,0) h1]; rfl
 refine ⟨_,?_,ad,d,rfl,k2⟩
 unfold execOp
 simp [ho,hx,Instr.loadAt,Instr.sureAddr,go_sem,loadVar,isAgg,run_underlying Tryz.underlying22,hc]
theorem built_J0 (ao:Option Addr) (n c:Nat):Tryz.prog.built 24 [(1,.slice ao n c)]=some #[.bool false,.slice ao n c]:=by kernel_rfl
theorem bld_J {a:Act} {w:World} {o:Oper} {t:Tmp} {xs:List Nat} (ho:o.op = .build 24 #[(1,Operand.tmp t)]) (h:(mD xs).S O w (sl a t)):∃ v,(execOp a.eval o).run Tryz.prog w = .ok (.value v) w∧(mJ xs).S O w v:=by
 obtain ⟨ao,c,q1,h1⟩:=h
 have e1:a.eval (.tmp t)=_:=q1
 refine ⟨_,run_build_op _ _ ho (cells:=#[.bool false,.slice ao xs.length c]) ?_,ao,c,rfl,h1⟩
 simp only [List.map_toArray,List.map_cons,List.map_nil,e1]
 exact built_J0 _ _ _
theorem lit_U1 {a:Act} {w:World} {o:Oper} (ho:o.op = .buildSlice 22 1 #[(0,.const (.int .u32 1))]:=by rfl):∃ v w',(execOp a.eval o).run Tryz.prog w = .ok (.value v) w'∧Below w.heap.size w w'∧(mD [1]).S O w' v:=by
 refine ⟨_,_,run_buildSliceR ho Tryz.underlying22 (cells:=#[.int .u32 1]) ?_,below_alloc _ _,some ⟨w.heap.size,0,none⟩,1,rfl,Nat.le_refl _,by omega,fun h=>(by cases h),(fun d hd=>by simp at hd; omega),Or.inr ⟨_,0,rfl,fun i hi=>?_⟩⟩
 ·simp only [List.map_toArray,List.map_cons,List.map_nil]
  kernel_rfl
 ·rw [Nat.zero_add,cell_of_row _ _ i _ _ (0,0) (heap_alloc_at _ _)]
  match i with
  | 0=>rfl
  | i + 1=>simp at hi
theorem built_R0 (ao ad:Option Addr) (n c m d:Nat):Tryz.prog.built 26 [(0,.agg #[.bool false,.slice ao n c]),(1,.slice ad m d)]=some #[.bool false,.slice ao n c,.slice ad m d]:=by kernel_rfl
theorem Sz.den {q:Rat} {k:Nat} (h:Sz q k):Sz (((q.den:Nat):Int):Rat) k:=by
 refine ⟨?_,?_⟩
 ·exact h.2
 ·have h1:=h.2
  have h2 : 0 < (nd q.den).length:=by
   refine Nat.pos_of_ne_zero fun e=>?_
   have h3:=val_nd q.den
   rw [List.eq_nil_of_length_eq_zero e] at h3
   exact q.den_nz h3.symm
  show (nd 1).length≤k
  have h4:(nd 1).length≤1:=nd_length_le (show (1:Nat) < 4294967296 ^ 1 by omega)
  omega
theorem bld_den {a:Act} {w:World} {o:Oper} {t u:Tmp} {q:Rat} {k:Nat} (hs:Sz q k) (ho:o.op = .build 26 #[(0,Operand.tmp t),(1,Operand.tmp u)]) (h:(mJ (nd q.den)).S O w (sl a t)) (g:(mD [1]).S O w (sl a u)):∃ v,(execOp a.eval o).run Tryz.prog w = .ok (.value v) w∧(mC (((q.den:Nat):Int):Rat) k).S O w v:=by
 obtain ⟨ao,c,q1,h1⟩:=h
 obtain ⟨ad,d,q2,h2⟩:=g
 have e1:a.eval (.tmp t)=_:=q1
 have e2:a.eval (.tmp u)=_:=q2
 have en:nd 1 = [1]:=by decide +kernel
 refine ⟨_,run_build_op _ _ ho (cells:=#[.bool false,.slice ao (nd q.den).length c,.slice ad ([1]:List Nat).length d]) ?_,ao,c,ad,d,?_,h1,by show Rd w ad d (nd 1); rw [en]; exact h2,Sz.den hs⟩
 ·simp only [List.map_toArray,List.map_cons,List.map_nil,e1,e2]
  exact built_R0 _ _ _ _ _ _
 ·have e3:decide (((((q.den:Nat):Int):Rat)).num < 0)=false:=decide_eq_false (by show ¬ ((q.den:Nat):Int) < 0; omega)
  rw [e3]
  show _=Value.agg #[.bool false,.slice ao (nd q.den).length c,.slice ad (nd 1).length d]
  rw [en]
end Go.Proofs.YtcankknlbljicaaGreatDoor

namespace Go.Proofs.YtcankknlbljicaaGreatDoor
open Go.RowKit Num

set_option maxRecDepth 100000
set_option maxHeartbeats 2000000
theorem p_den {q:Rat} {k:Nat} {v0:Value} {w:World} {O:Bs} (hs:Sz q k) (pf0:(mC (q) (k)).S O w v0) (ho:OB O w) :
    Calls Tryz.prog 176 #[v0] w (RetM (mC (((((q).den:Nat):Int):Rat)) (k)) O w):=by
 refine st_start 8 Tryz.func176 [(mC (q) (k))] ⟨pf0,trivial⟩ ho fun a S=>?_
 refine wp_seq ?_
 refine st_seq S 0 [] [(false,0)] trivial (L':=[(0,?_)]) ?_ fun a1 w2 S3=>?_
 rotate_left 1
 · rfl
 refine t_box S3 0 rfl isC.cv fun O a5 w6 g7 S8=>?_
 refine t_alloc S8 zero_Rat (fun _ _ _=>bx_Rat) fun O a9 w10 g11 S12=>?_
 refine wpList_nil (then_normal ?_)
 refine wp_seq ?_
 refine st_seq S12 5 [?_,?_,?_,?_,?_] [(true,4),(false,0)] ⟨?_,?_,?_,?_,?_,trivial⟩ (L':=[(7,?_),(2,?_)]) ?_ fun a13 w14 S15=>?_
 rotate_left 7
 · exact opV S12.r fun c=>fa_Rat_1 rfl (c.q 1 rfl)
 · exact opP S12.r fun c=>ld_den (c.bx 1 rfl) (c.e 0 rfl)
 · exact opP S12.r fun c=>bld_J rfl (c.h 0 rfl)
 · exact opN S12.r fun c=>lit_U1
 · exact opP S12.r fun c=>bld_den hs rfl (c.h 0 rfl) (c.h 1 rfl)
 · rfl
 refine t_sto S15 1 0 0 rfl isC.cv (fun w17 S18=>?_) info_Rat
 refine wpList_nil (then_normal ?_)
 refine wp_ret ?_
 exact st_end S18 1 0 rfl Tryz.underlying26 info_Rat fun v h=>(isC.mono h (by omega))

theorem p_cleared {qs:List Rat} {k:Nat} {L K:Nat} {v0:Value} {w:World} {O:Bs} (hn:qs.length≤L) (hL:L≤9999) (hk:k≤99990000) (hK:L * (k + 2) + 2≤K) (hK2:K≤333330000) (pf0:(mSl 3 (lR qs (k))).S O w v0) (hT:Tb w) (ho:OB O w) :
    Calls Tryz.prog 109 #[v0] w (RetM (mI (lC (clq qs) (k + (K) + 3)) (mC (clr qs) (K))) O w):=by
 refine st_start 26 Tryz.func109 [(mSl 3 (lR qs (k)))] ⟨pf0,trivial⟩ ho fun a S=>?_
 have hsz:=lR_sz pf0
 have hcl2:=cutQ_le qs
 refine wp_seq ?_
 refine st_seq S 0 [] [(false,0)] trivial (L':=[(0,?_)]) ?_ fun a1 w2 S3=>?_
 rotate_left 1
 · rfl
 refine t_alloc S3 zero_integral (fun _ _ _=>bx_integral) fun O a5 w6 g7 S8=>?_
 refine wpList_nil (then_normal ?_)
 refine wp_seq ?_
 refine st_seq S8 1 [?_] [(true,0),(false,0),(false,1)] ⟨?_,trivial⟩ (L':=[(6,?_),(2,?_),(0,?_)]) ?_ fun a9 w10 S11=>?_
 rotate_left 4
 · exact opC S8.r rfl fun c B=>⟨_,args_0,(p_one (S8.obc c.wb))⟩
 · rfl
 refine t_alloc S11 zero_Rat (fun _ _ _=>bx_Rat) fun O a13 w14 g15 S16=>?_
 refine t_sto S16 0 1 0 rfl isC.cv (fun w17 S18=>?_) info_Rat
 refine wpList_nil (then_normal ?_)
 refine wp_seq ?_
 refine wp_seq ?_
 refine st_seq S18 3 [?_,?_,?_] [(true,0),(true,1),(true,2),(false,0),(false,2),(false,3)] ⟨?_,?_,?_,trivial⟩ (L':=[(7,?_),(8,?_),(9,?_),(3,?_),(2,?_),(0,?_)]) ?_ fun a19 w20 S21=>?_
 rotate_left 9
 · exact opP S18.r fun c=>⟨_,run_move rfl,(c.o 3 rfl)⟩
 · exact opV S18.r fun c=>len_L qs.length Tryz.underlying37 (c.h 0 rfl) (lR_len _ _)
 · exact opV S18.r fun c=>run_moveC rfl
 · rfl
 refine wpList_nil (then_normal ?_)
 refine wp_block ?_
 refine st_loop (τ:=Nat) (fun i=>[(7,(mSl 3 (lR qs (k)))),(8,(mV (.int .i64 ((qs.length:Nat):Int)))),(9,(mV (.int .i64 ((i:Nat):Int)))),(3,(mV (.pointer (some ⟨g15,0,none⟩)))),(2,(mV (.pointer (some ⟨g7,0,none⟩)))),(0,(mSl 3 (lR qs (k))))]) (fun i=>[.box g15 26 3 (mC (clr (qs.take i)) (K)),.box g7 102 4 mTop]) (fun i=>i≤qs.length) (fun i=>qs.length - i) 0 (by omega) (S21.toX ⟨S21.sl 0 rfl,S21.sl 1 rfl,S21.sl 2 rfl,S21.sl 3 rfl,S21.sl 4 rfl,S21.sl 5 rfl,trivial⟩ ⟨(bx.imp (fun _ h=>isC.mono h (by omega)) (S21.f 0 rfl)),S21.f 1 rfl,trivial⟩) ?_
 rintro i O a25 w26 hp27 S28
 try dsimp only at hp27 S28
 refine wp_seq ?_
 refine st_seq S28 1 [?_] [(true,0),(false,0),(false,1),(false,2),(false,3),(false,4),(false,5)] ⟨?_,trivial⟩ (L':=[(10,?_),(7,?_),(8,?_),(9,?_),(3,?_),(2,?_),(0,?_)]) ?_ fun a29 w30 S31=>?_
 rotate_left 8
 · exact opV S28.r fun c=>run_lss rfl (c.q 2 rfl) (c.q 1 rfl)
 · rfl
 refine wpList_nil (then_normal ?_)
 refine wp_seq ?_
 refine cond_b _ (ev (S31.sl 0 rfl)) (fun hb33=>?_) (fun hb33=>?_)
 ·have hb33p:=of_decide_eq_true hb33
  refine wp_skip (then_normal ?_)
  refine wp_seq ?_
  refine wp_block ?_
  refine wp_seq ?_
  refine st_seq S31 2 [?_,?_] [(true,1),(false,1),(false,2),(false,3),(false,4),(false,5),(false,6)] ⟨?_,?_,trivial⟩ (L':=[(12,?_),(7,?_),(8,?_),(9,?_),(3,?_),(2,?_),(0,?_)]) ?_ fun a34 w35 S36=>?_
  rotate_left 9
  · exact opP S31.r fun c=>ix_sl Tryz.underlying37 infoRz (c.o 1 rfl) (c.q 3 rfl) (i:=i) (by omega) (lR_get (by omega))
  · exact opP S31.r fun c=>ld_pt (c.h 0 rfl) Tryz.underlying26 info_Rat
  · rfl
  refine t_alloc S36 zero_Rat (fun _ _ _=>bx_Rat) fun O a38 w39 g40 S41=>?_
  refine t_sto S41 0 1 0 rfl isR.cv (fun w42 S43=>?_) info_Rat
  refine wpList_nil (then_normal ?_)
  refine st_mono S43 6 [?_,?_,?_,?_,?_,?_] [(true,5),(false,2),(false,3),(false,4),(false,5),(false,6),(false,7)] ⟨?_,?_,?_,?_,?_,?_,trivial⟩ (L':=[(18,?_),(7,?_),(8,?_),(9,?_),(3,?_),(2,?_),(0,?_)]) ?_ fun a44 w45 S46=>?_
  rotate_left 13
  · exact opL S43.r 1 Tryz.underlying26 info_Rat fun c=>(c.q 5 rfl)
  · exact opL S43.r 0 Tryz.underlying26 info_Rat fun c=>(c.q 0 rfl)
  · exact opL S43.r 1 Tryz.underlying26 info_Rat fun c=>(c.q 5 rfl)
  · exact opC S43.r rfl fun c B=>⟨_,args_2 rfl rfl,(c_mul (by omega) (by omega) (c.h 0 rfl) (isC.r (c.h 1 rfl)) (hT.below B))⟩
  · exact opC S43.r rfl fun c B=>⟨_,args_1 rfl,(p_den (isC.szC (c.h 0 rfl)) (c.h 0 rfl) (S43.obc c.wb))⟩
  · exact opC S43.r rfl fun c B=>⟨_,args_2 rfl rfl,(c_mul (by omega) (by omega) (isC.r (c.h 0 rfl)) (isC.r (c.h 1 rfl)) (hT.below B))⟩
  · rfl
  refine t_sto S46 4 0 1 rfl isC.cv (fun w48 S49=>?_) info_Rat
  refine wpList_nil (in_normal (then_normal ?_))
  refine st_seq S49 1 [?_] [(true,0),(false,1),(false,2),(false,3),(false,4),(false,5),(false,6)] ⟨?_,trivial⟩ (L':=[(19,?_),(7,?_),(8,?_),(9,?_),(3,?_),(2,?_),(0,?_)]) ?_ fun a50 w51 S52=>?_
  rotate_left 8
  · exact opV S49.r fun c=>run_add rfl (c.q 3 rfl) rfl (by omega) (by omega)
  · rfl
  refine t_val S52 (run_v (run_move rfl) (S52.e 0 rfl)) fun a54 S55=>?_
  refine wpList_nil (then_normal ?_)
  exact ⟨i + 1,(by first | omega | (dsimp only; omega)),(by first | omega | (dsimp only; omega)),_,(S55.dropN 1).toX ⟨S55.sl 2 rfl,S55.sl 3 rfl,(S55.sl 0 rfl).trans (by first | rfl | exact congrArg _ (by omega)),S55.sl 4 rfl,S55.sl 5 rfl,S55.sl 6 rfl,trivial⟩ ⟨(bx.imp (fun _ h=>isC.re (isC.of h (clr_succ (by omega)).symm) ((clr_sz hsz (by omega) hn).mono hK)) (S55.f 1 rfl)),S55.f 2 rfl,trivial⟩⟩
 ·have hb33p:=of_decide_eq_false hb33
  refine wp_exit ?_
  repeat (first | refine exit_in ?_ | refine exit_then ?_ | refine exit_out (by decide) ?_)
  refine (then_normal ?_)
  refine wp_seq ?_
  refine st_mono S31 6 [?_,?_,?_,?_,?_,?_] [(true,5),(false,5)] ⟨?_,?_,?_,?_,?_,?_,trivial⟩ (L':=[(25,?_),(2,?_)]) ?_ fun a56 w57 S58=>?_
  rotate_left 8
  · exact opP S31.r fun c=>⟨_,run_move rfl,(c.o 6 rfl)⟩
  · exact opC S31.r rfl fun c B=>⟨_,args_1 rfl,(p_cut (by omega) (by omega) (c.h 0 rfl) (S31.obc c.wb))⟩
  · exact opL S31.r 0 Tryz.underlying26 info_Rat fun c=>(c.q 4 rfl)
  · exact opC S31.r rfl fun c B=>⟨_,args_2 rfl rfl,(retL (p_scaled (by omega) (by omega) (by omega) (c.h 0 rfl) (isC.r (c.h 1 rfl)) (hT.below B) (S31.obc c.wb)) (S31.obc c.wb))⟩
  · exact opL S31.r 0 Tryz.underlying26 info_Rat fun c=>(c.q 4 rfl)
  · exact opP S31.r fun c=>bld_I rfl (c.h 0 rfl) (c.h 1 rfl) (isC.cv (c.h 1 rfl))
  · rfl
  refine t_sto S58 1 0 1 rfl (fun h=>(mI_cv (fun _ h=>(isC.cv h)) h)) (fun w60 S61=>?_) info_integral
  refine wpList_nil (then_normal ?_)
  refine wp_ret ?_
  exact st_end S61 1 1 rfl Tryz.underlying102 info_integral fun v h=>(mI_imp (fun _ h=>by rw [clr_all (qs:=qs) (i:=i) (by omega)] at h; exact slC_mono h (by omega)) (fun _ h=>isC.of h (clr_all (by omega))) h)
end Go.Proofs.YtcankknlbljicaaGreatDoor
