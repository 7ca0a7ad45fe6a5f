/-  -/
import Derived.Test.YtcankknlbljicaaGreatDoorYfc

set_option linter.unusedVariables false
set_option linter.unusedSimpArgs false
set_option linter.unusedSectionVars false
set_option maxRecDepth 100000
set_option maxHeartbeats 3200000

namespace Go.Proofs.YtcankknlbljicaaGreatDoor
open Go.RowKit Num

set_option maxRecDepth 100000
set_option maxHeartbeats 2000000
theorem p_prod {ps qs:List Rat} {k m:Nat} {L K:Nat} {v0:Value} {v1:Value} {w:World} {O:Bs} (hn:ps.length≤L) (hL:L≤9999) (hl:qs.length≤9999) (hk:k≤99990000) (hm:m≤99990000) (hK:L * (k + m + 3) + 2≤K) (hK2:K≤999990000) (pf0:(mSl 3 (lR ps (k))).S O w v0) (pf1:(mSl 3 (lR qs (m))).S O w v1) (hT:Tb w) (ho:OB O w) :
    Calls Tryz.prog 177 #[v0,v1] w (RetM (mSl 3 (lC (mulQ ps qs) (K))) O w):=by
 refine st_start 57 Tryz.func177 [(mSl 3 (lR ps (k))),(mSl 3 (lR qs (m)))] ⟨pf0,pf1,trivial⟩ ho fun a S=>?_
 have hsp:=lR_sz pf0
 have hsq:=lR_sz pf1
 refine wp_seq ?_
 refine st_seq S 0 [] [(false,0),(false,1)] trivial (L':=[(0,?_),(1,?_)]) ?_ fun a1 w2 S3=>?_
 rotate_left 2
 · rfl
 refine t_asgC S3 fun a5 S6=>?_
 refine wpList_nil (then_normal ?_)
 refine wp_seq ?_
 refine wp_seq ?_
 refine st_seq S6 8 [?_,?_,?_,?_,?_,?_,?_,?_] [(true,7),(false,0),(false,1),(false,2)] ⟨?_,?_,?_,?_,?_,?_,?_,?_,trivial⟩ (L':=[(17,?_),(4,?_),(0,?_),(1,?_)]) ?_ fun a7 w8 S9=>?_
 rotate_left 12
 · exact opP S6.r fun c=>⟨_,run_move rfl,(c.o 1 rfl)⟩
 · exact opV S6.r fun c=>len_L ps.length Tryz.underlying37 (c.h 0 rfl) (lR_len _ _)
 · exact opV S6.r fun c=>run_eql rfl (c.e 0 rfl) rfl
 · exact opV S6.r fun c=>run_v (run_move rfl) (c.e 0 rfl)
 · exact opG S6.r 0 (fun hγ=>opP S6.r fun c=>⟨_,run_move rfl,(c.o 2 rfl)⟩) gF
 · exact opG S6.r 1 (fun hγ=>opV S6.r fun c=>len_L qs.length Tryz.underlying37 (c.h 0 rfl hγ) (lR_len _ _)) gF
 · exact opG S6.r 1 (fun hγ=>opV S6.r fun c=>run_eql rfl (ev (c.h 0 rfl hγ)) rfl) gF
 · exact opE S6.r fun c=>⟨_,run_pick rfl (c.e 0 rfl),pick_or fun h=>(c.h 1 rfl) (by rw [h]; rfl)⟩
 · rfl
 refine wpList_nil (then_normal ?_)
 refine cond_b _ (ev (S9.sl 0 rfl)) (fun hb11=>?_) (fun hb11=>?_)
 ·refine wp_seq ?_
  refine st_seq S9 0 [] [(false,1),(false,2),(false,3)] trivial (L':=[(4,?_),(0,?_),(1,?_)]) ?_ fun a12 w13 S14=>?_
  rotate_left 3
  · rfl
  refine t_asgC S14 fun a16 S17=>?_
  refine wpList_nil (then_normal ?_)
  refine wp_ret ?_
  exact st_endT S17 0 rfl fun v h=>(nil_L (mulQ_nil hb11) h)
 ·obtain ⟨hp1,hq1⟩:=or0 hb11
  refine wp_skip (then_normal ?_)
  refine wp_seq ?_
  refine st_seq S9 6 [?_,?_,?_,?_,?_,?_] [(true,5),(false,1),(false,2),(false,3)] ⟨?_,?_,?_,?_,?_,?_,trivial⟩ (L':=[(23,?_),(4,?_),(0,?_),(1,?_)]) ?_ fun a18 w19 S20=>?_
  rotate_left 10
  · exact opP S9.r fun c=>⟨_,run_move rfl,(c.o 2 rfl)⟩
  · exact opV S9.r fun c=>len_L ps.length Tryz.underlying37 (c.h 0 rfl) (lR_len _ _)
  · exact opP S9.r fun c=>⟨_,run_move rfl,(c.o 3 rfl)⟩
  · exact opV S9.r fun c=>len_L qs.length Tryz.underlying37 (c.h 0 rfl) (lR_len _ _)
  · exact opV S9.r fun c=>run_add rfl (c.e 0 rfl) (c.e 1 rfl) (by omega) (by omega)
  · exact opV S9.r fun c=>run_sub rfl (c.e 0 rfl) rfl (by omega) (by omega)
  · rfl
  refine t_callF S20 rfl (args_1 (intN (n:=(ps.length + qs.length) - 1) (S20.e 0 rfl) (by omega))) (p_zeros (by omega) S20.ob) fun O a22 w24 v25 S23=>?_
  refine t_asg S23 0 fun a26 S27=>?_
  refine wpList_nil (then_normal ?_)
  refine wp_seq ?_
  refine wp_seq ?_
  refine st_seq S27 3 [?_,?_,?_] [(true,0),(true,1),(true,2),(false,0),(false,3),(false,5)] ⟨?_,?_,?_,trivial⟩ (L':=[(25,?_),(26,?_),(27,?_),(5,?_),(4,?_),(1,?_)]) ?_ fun a28 w29 S30=>?_
  rotate_left 9
  · exact opP S27.r fun c=>⟨_,run_move rfl,(c.o 4 rfl)⟩
  · exact opV S27.r fun c=>len_L ps.length Tryz.underlying37 (c.h 0 rfl) (lR_len _ _)
  · exact opV S27.r fun c=>run_moveC rfl
  · rfl
  refine wpList_nil (then_normal ?_)
  refine wp_block ?_
  refine st_loop (τ:=Nat) (fun i=>[(25,(mSl 3 (lR ps (k)))),(26,(mV (.int .i64 ((ps.length:Nat):Int)))),(27,(mV (.int .i64 ((i:Nat):Int)))),(5,(mV (v25))),(4,(mV (.slice none 0 0))),(1,(mSl 3 (lR qs (m))))]) (fun i=>[.own v25 26 3 (lC (outQ ps qs i) (K))]) (fun i=>i≤ps.length) (fun i=>ps.length - i) 0 (by omega) (S30.toX ⟨S30.sl 0 rfl,S30.sl 1 rfl,S30.sl 2 rfl,S30.sl 3 rfl,S30.sl 4 rfl,S30.sl 5 rfl,trivial⟩ ⟨(own_up (by omega) (S30.f 0 rfl)),trivial⟩) ?_
  rintro i O a34 w35 hp36 S37
  try dsimp only at hp36 S37
  have hol:=outQ_len ps qs i
  refine wp_seq ?_
  refine st_seq S37 1 [?_] [(true,0),(false,0),(false,1),(false,2),(false,3),(false,4),(false,5)] ⟨?_,trivial⟩ (L':=[(28,?_),(25,?_),(26,?_),(27,?_),(5,?_),(4,?_),(1,?_)]) ?_ fun a38 w39 S40=>?_
  rotate_left 8
  · exact opV S37.r fun c=>run_lss rfl (c.q 2 rfl) (c.q 1 rfl)
  · rfl
  refine wpList_nil (then_normal ?_)
  refine wp_seq ?_
  refine cond_b _ (ev (S40.sl 0 rfl)) (fun hb42=>?_) (fun hb42=>?_)
  ·have hb42p:=of_decide_eq_true hb42
   refine wp_skip (then_normal ?_)
   refine wp_seq ?_
   refine wp_block ?_
   refine wp_seq ?_
   refine st_seq S40 3 [?_,?_,?_] [(true,0),(true,2),(false,1),(false,2),(false,3),(false,4),(false,5),(false,6)] ⟨?_,?_,?_,trivial⟩ (L':=[(29,?_),(31,?_),(25,?_),(26,?_),(27,?_),(5,?_),(4,?_),(1,?_)]) ?_ fun a43 w44 S45=>?_
   rotate_left 11
   · exact opV S40.r fun c=>run_v (run_move rfl) (c.q 3 rfl)
   · exact opP S40.r fun c=>ix_sl Tryz.underlying37 infoRz (c.o 1 rfl) (c.q 3 rfl) (i:=i) (by omega) (lR_get (by omega))
   · exact opP S40.r fun c=>ld_pt (c.h 0 rfl) Tryz.underlying26 info_Rat
   · rfl
   refine t_alloc S45 zero_Rat (fun _ _ _=>bx_Rat) fun O a47 w48 g49 S50=>?_
   refine t_asg S50 1 fun a51 S52=>?_
   refine t_sto S52 1 3 0 rfl isR.cv (fun w53 S54=>?_) info_Rat
   refine wpList_nil (then_normal ?_)
   refine wp_seq ?_
   refine st_seq S54 3 [?_,?_,?_] [(true,0),(true,1),(true,2),(false,0),(false,1),(false,4),(false,5),(false,6),(false,7),(false,8),(false,9)] ⟨?_,?_,?_,trivial⟩ (L':=[(32,?_),(33,?_),(34,?_),(6,?_),(7,?_),(25,?_),(26,?_),(27,?_),(5,?_),(4,?_),(1,?_)]) ?_ fun a55 w56 S57=>?_
   rotate_left 14
   · exact opP S54.r fun c=>⟨_,run_move rfl,(c.o 9 rfl)⟩
   · exact opV S54.r fun c=>len_L qs.length Tryz.underlying37 (c.h 0 rfl) (lR_len _ _)
   · exact opV S54.r fun c=>run_moveC rfl
   · rfl
   refine wpList_nil (then_normal ?_)
   refine wp_block ?_
   refine st_loop (τ:=Nat) (fun j=>[(32,(mSl 3 (lR qs (m)))),(33,(mV (.int .i64 ((qs.length:Nat):Int)))),(34,(mV (.int .i64 ((j:Nat):Int)))),(6,(mV (.int .i64 ((i:Nat):Int)))),(7,(mV (.pointer (some ⟨g49,0,none⟩)))),(25,(mSl 3 (lR ps (k)))),(26,(mV (.int .i64 ((ps.length:Nat):Int)))),(27,(mV (.int .i64 ((i:Nat):Int)))),(5,(mV (v25))),(4,(mV (.slice none 0 0))),(1,(mSl 3 (lR qs (m))))]) (fun j=>[.box g49 26 3 (mR (ps.getD i 0) (k)),.own v25 26 3 (lC (inQ ps qs i j (outQ ps qs i)) (K))]) (fun j=>j≤qs.length) (fun j=>qs.length - j) 0 (by omega) (S57.toX ⟨S57.sl 0 rfl,S57.sl 1 rfl,S57.sl 2 rfl,S57.sl 3 rfl,S57.sl 4 rfl,S57.sl 5 rfl,S57.sl 6 rfl,S57.sl 7 rfl,S57.sl 8 rfl,S57.sl 9 rfl,S57.sl 10 rfl,trivial⟩ ⟨S57.f 0 rfl,S57.f 1 rfl,trivial⟩) ?_
   rintro j O a61 w62 hp63 S64
   try dsimp only at hp63 S64
   have hil:=inQ_len ps qs i j (outQ ps qs i)
   refine wp_seq ?_
   refine st_seq S64 1 [?_] [(true,0),(false,0),(false,1),(false,2),(false,3),(false,4),(false,5),(false,6),(false,7),(false,8),(false,9),(false,10)] ⟨?_,trivial⟩ (L':=[(35,?_),(32,?_),(33,?_),(34,?_),(6,?_),(7,?_),(25,?_),(26,?_),(27,?_),(5,?_),(4,?_),(1,?_)]) ?_ fun a65 w66 S67=>?_
   rotate_left 13
   · exact opV S64.r fun c=>run_lss rfl (c.q 2 rfl) (c.q 1 rfl)
   · rfl
   refine wpList_nil (then_normal ?_)
   refine wp_seq ?_
   refine cond_b _ (ev (S67.sl 0 rfl)) (fun hb69=>?_) (fun hb69=>?_)
   ·have hb69p:=of_decide_eq_true hb69
    refine wp_skip (then_normal ?_)
    refine wp_seq ?_
    refine wp_block ?_
    refine wp_seq ?_
    refine st_seq S67 3 [?_,?_,?_] [(true,0),(true,2),(false,1),(false,2),(false,3),(false,4),(false,5),(false,6),(false,7),(false,8),(false,9),(false,10),(false,11)] ⟨?_,?_,?_,trivial⟩ (L':=[(36,?_),(38,?_),(32,?_),(33,?_),(34,?_),(6,?_),(7,?_),(25,?_),(26,?_),(27,?_),(5,?_),(4,?_),(1,?_)]) ?_ fun a70 w71 S72=>?_
    rotate_left 16
    · exact opV S67.r fun c=>run_v (run_move rfl) (c.q 3 rfl)
    · exact opP S67.r fun c=>ix_sl Tryz.underlying37 infoRz (c.o 1 rfl) (c.q 3 rfl) (i:=j) (by omega) (lR_get (by omega))
    · exact opP S67.r fun c=>ld_pt (c.h 0 rfl) Tryz.underlying26 info_Rat
    · rfl
    refine t_alloc S72 zero_Rat (fun _ _ _=>bx_Rat) fun O a74 w75 g76 S77=>?_
    refine t_asg S77 1 fun a78 S79=>?_
    refine t_sto S79 1 3 0 rfl isR.cv (fun w80 S81=>?_) info_Rat
    refine wpList_nil (then_normal ?_)
    refine st_mono S81 15 [?_,?_,?_,?_,?_,?_,?_,?_,?_,?_,?_,?_,?_,?_,?_] [(true,13),(true,14),(false,4),(false,5),(false,6),(false,7),(false,8),(false,9),(false,10),(false,11),(false,12),(false,13),(false,14)] ⟨?_,?_,?_,?_,?_,?_,?_,?_,?_,?_,?_,?_,?_,?_,?_,trivial⟩ (L':=[(52,?_),(53,?_),(32,?_),(33,?_),(34,?_),(6,?_),(7,?_),(25,?_),(26,?_),(27,?_),(5,?_),(4,?_),(1,?_)]) ?_ fun a82 w83 S84=>?_
    rotate_left 28
    · exact opV S81.r fun c=>run_v (run_move rfl) (c.q 12 rfl)
    · exact opV S81.r fun c=>run_v (run_move rfl) (c.q 7 rfl)
    · exact opV S81.r fun c=>run_v (run_move rfl) (c.q 0 rfl)
    · exact opV S81.r fun c=>run_add rfl (c.e 0 rfl) (c.e 1 rfl) (by omega) (by omega)
    · exact opV S81.r fun c=>run_v (run_move rfl) (c.q 12 rfl)
    · exact opV S81.r fun c=>run_v (run_move rfl) (c.q 7 rfl)
    · exact opV S81.r fun c=>run_v (run_move rfl) (c.q 0 rfl)
    · exact opV S81.r fun c=>run_add rfl (c.e 0 rfl) (c.e 1 rfl) (by omega) (by omega)
    · exact opV S81.r fun c=>ix_own Tryz.underlying37 infoRz (c.own 2 rfl) (c.e 0 rfl) (c.e 1 rfl) (i:=i + j) (by omega) (by rw [lC_len]; omega)
    · exact opP S81.r fun c=>ld_own (c.own 2 rfl) (c.e 0 rfl) (lC_get (by omega)) Tryz.underlying26 info_Rat
    · exact opL S81.r 1 Tryz.underlying26 info_Rat fun c=>(c.q 8 rfl)
    · exact opL S81.r 0 Tryz.underlying26 info_Rat fun c=>(c.q 1 rfl)
    · exact opC S81.r rfl fun c B=>⟨_,args_2 rfl rfl,(c_mul (by omega) (by omega) (c.h 0 rfl) (c.h 1 rfl) (hT.below B))⟩
    · exact opC S81.r rfl fun c B=>⟨_,args_2 rfl rfl,(c_add (by omega) (by omega) (isC.r (c.h 0 rfl)) (isC.r (c.h 1 rfl)) (hT.below B))⟩
    · exact opV S81.r fun c=>ix_own Tryz.underlying37 infoRz (c.own 2 rfl) (c.e 0 rfl) (c.e 1 rfl) (i:=i + j) (by omega) (by rw [lC_len]; omega)
    · rfl
    refine t_stoC S84 1 0 2 rfl rfl rfl (by omega) (fun _ _ h=>isC.re h ((inQ_sz hsp hsq hn (by omega) (by omega)).mono hK)) fun w86 S87=>?_
    refine wpList_nil (in_normal (then_normal ?_))
    refine st_seq S87 1 [?_] [(true,0),(false,2),(false,3),(false,4),(false,5),(false,6),(false,7),(false,8),(false,9),(false,10),(false,11),(false,12)] ⟨?_,trivial⟩ (L':=[(54,?_),(32,?_),(33,?_),(34,?_),(6,?_),(7,?_),(25,?_),(26,?_),(27,?_),(5,?_),(4,?_),(1,?_)]) ?_ fun a88 w89 S90=>?_
    rotate_left 13
    · exact opV S87.r fun c=>run_add rfl (c.q 4 rfl) rfl (by omega) (by omega)
    · rfl
    refine t_val S90 (run_v (run_move rfl) (S90.e 0 rfl)) fun a92 S93=>?_
    refine wpList_nil (then_normal ?_)
    exact ⟨j + 1,(by first | omega | (dsimp only; omega)),(by first | omega | (dsimp only; omega)),_,(S93.dropN 1).toX ⟨S93.sl 2 rfl,S93.sl 3 rfl,(S93.sl 0 rfl).trans (by first | rfl | exact congrArg _ (by omega)),S93.sl 4 rfl,S93.sl 5 rfl,S93.sl 6 rfl,S93.sl 7 rfl,S93.sl 8 rfl,S93.sl 9 rfl,S93.sl 10 rfl,S93.sl 11 rfl,trivial⟩ ⟨S93.f 1 rfl,(by rw [inQ_succ]; exact S93.f 2 rfl),trivial⟩⟩
   ·have hb69p:=of_decide_eq_false hb69
    refine wp_exit ?_
    repeat (first | refine exit_in ?_ | refine exit_then ?_ | refine exit_out (by decide) ?_)
    refine (in_normal (then_normal ?_))
    refine st_seq S67 1 [?_] [(true,0),(false,6),(false,7),(false,8),(false,9),(false,10),(false,11)] ⟨?_,trivial⟩ (L':=[(55,?_),(25,?_),(26,?_),(27,?_),(5,?_),(4,?_),(1,?_)]) ?_ fun a94 w95 S96=>?_
    rotate_left 8
    · exact opV S67.r fun c=>run_add rfl (c.q 8 rfl) rfl (by omega) (by omega)
    · rfl
    refine t_val S96 (run_v (run_move rfl) (S96.e 0 rfl)) fun a98 S99=>?_
    refine wpList_nil (then_normal ?_)
    exact ⟨i + 1,(by first | omega | (dsimp only; omega)),(by first | omega | (dsimp only; omega)),_,(S99.dropN 1).toX ⟨S99.sl 2 rfl,S99.sl 3 rfl,(S99.sl 0 rfl).trans (by first | rfl | exact congrArg _ (by omega)),S99.sl 4 rfl,S99.sl 5 rfl,S99.sl 6 rfl,trivial⟩ ⟨(by rw [outQ_succ (j:=j) (by omega)]; exact S99.f 1 rfl),trivial⟩⟩
  ·have hb42p:=of_decide_eq_false hb42
   refine wp_exit ?_
   repeat (first | refine exit_in ?_ | refine exit_then ?_ | refine exit_out (by decide) ?_)
   refine (then_normal ?_)
   refine wp_seq ?_
   obtain ⟨O,S100⟩:=S40.frz 4 0
   refine st_seq S100 1 [?_] [(true,0),(false,5)] ⟨?_,trivial⟩ (L':=[(56,?_),(4,?_)]) ?_ fun a101 w102 S103=>?_
   rotate_left 3
   · exact opP S100.r fun c=>⟨_,run_move rfl,(c.o 0 rfl)⟩
   · rfl
   refine t_asg S103 0 fun a105 S106=>?_
   refine wpList_nil (then_normal ?_)
   refine wp_ret ?_
   exact st_endT S106 0 rfl fun v h=>(by rw [mulQ_eq (i:=i) (by omega) (by omega) (by omega)]; exact h)
end Go.Proofs.YtcankknlbljicaaGreatDoor

namespace Go.Proofs.YtcankknlbljicaaGreatDoor
open Go.RowKit Num

set_option maxRecDepth 100000
set_option maxHeartbeats 2000000
theorem pi_poly {fs:List Rat} {k e:Nat} {d:Rat} {v0:Value} {w:World} {O:Bs} (hn:fs.length≤99999) (hk:k≤999990000) (he:e≤999990000) (hd:d≠0) (pf0:(mI (lC fs (k)) (mC (d) (e))).S O w v0) (hT:Tb w) (ho:OB O w) :
    Calls Tryz.prog 112 #[v0] w (RetM (mSl 3 (lC ((cutQ fs).map fun q=>q / d) (k + e + 3))) O w):=by
 refine st_start 9 Tryz.func112 [(mI (lC fs (k)) (mC (d) (e)))] ⟨pf0,trivial⟩ ho fun a S=>?_
 have hcl2:=cutQ_le fs
 refine wp_seq ?_
 refine st_seq S 0 [] [(false,0)] trivial (L':=[(0,?_)]) ?_ fun a1 w2 S3=>?_
 rotate_left 1
 · rfl
 refine t_box S3 0 rfl (fun h=>(mI_cv (fun _ h=>(isC.cv h)) h)) fun O a5 w6 g7 S8=>?_
 refine t_asgC S8 fun a9 S10=>?_
 refine wpList_nil (then_normal ?_)
 refine wp_seq ?_
 refine st_mono S10 7 [?_,?_,?_,?_,?_,?_,?_] [(true,6)] ⟨?_,?_,?_,?_,?_,?_,?_,trivial⟩ (L':=[(2,?_)]) ?_ fun a11 w12 S13=>?_
 rotate_left 8
 · exact opV S10.r fun c=>fa_integral_0 rfl (c.q 1 rfl)
 · exact opP S10.r fun c=>ld_I0 (c.bx 0 rfl) (c.e 0 rfl)
 · exact opC S10.r rfl fun c B=>⟨_,args_1 rfl,(p_cutC (by omega) (by omega) (c.h 0 rfl) (S10.obc c.wb))⟩
 · exact opV S10.r fun c=>fa_integral_1 rfl (c.q 1 rfl)
 · exact opP S10.r fun c=>ld_part rfl (c.e 0 rfl) (ld_I1 (c.bx 0 rfl)) Tryz.underlying26 info_Rat
 · exact opC S10.r rfl fun c B=>⟨_,args_2 rfl rfl,(retL (p_divided (by omega) (by omega) (by omega) hd (slC_r (c.h 0 rfl)) (isC.r (c.h 1 rfl)) (hT.below B) (S10.obc c.wb)) (S10.obc c.wb))⟩
 · exact opP S10.r fun c=>⟨_,run_assign rfl,(c.h 0 rfl)⟩
 · rfl
 refine wpList_nil (then_normal ?_)
 refine wp_ret ?_
 exact st_endT S13 0 rfl fun v h=>slC_mono h (by omega)
end Go.Proofs.YtcankknlbljicaaGreatDoor

namespace Go.Proofs.YtcankknlbljicaaGreatDoor
open Go.RowKit Num

set_option maxRecDepth 100000
set_option maxHeartbeats 2000000
end Go.Proofs.YtcankknlbljicaaGreatDoor

namespace Go.Proofs.YtcankknlbljicaaGreatDoor
open Go.RowKit Num

set_option maxRecDepth 100000
set_option maxHeartbeats 2000000
theorem p_red {ps qs:List Rat} {k m:Nat} {v0:Value} {v1:Value} {w:World} {O:Bs} (hn:ps.length≤9999) (h1 : 1≤qs.length) (h2:qs.length≤ps.length) (hk:k≤99990000) (hm:m≤99990000) (pf0:(mSl 3 (lR ps (k))).S O w v0) (pf1:(mSl 3 (lR qs (m))).S O w v1) (hT:Tb w) (ho:OB O w) :
    Calls Tryz.prog 117 #[v0,v1] w (RetM (mSl 3 (lC (redQ ps qs) (2 * k + 2 * m + 9))) O w):=by
 refine st_start 67 Tryz.func117 [(mSl 3 (lR ps (k))),(mSl 3 (lR qs (m)))] ⟨pf0,pf1,trivial⟩ ho fun a S=>?_
 have hsp:=lR_sz pf0
 have hsq:=lR_sz pf1
 have ht1:(ps.take (ps.length - 1)).length=ps.length - 1:=by rw [List.length_take]; omega
 have ht2:(qs.take (qs.length - 1)).length=qs.length - 1:=by rw [List.length_take]; omega
 refine wp_seq ?_
 refine st_seq S 0 [] [(false,0),(false,1)] trivial (L':=[(0,?_),(1,?_)]) ?_ fun a1 w2 S3=>?_
 rotate_left 2
 · rfl
 refine t_asgC S3 fun a5 S6=>?_
 refine wpList_nil (then_normal ?_)
 refine wp_seq ?_
 refine st_monoB S6 13 [?_,?_,?_,?_,?_,?_,?_,?_,?_,?_,?_,?_,?_] [(true,10),(true,12),(false,0),(false,2)] ⟨?_,?_,?_,?_,?_,?_,?_,?_,?_,?_,?_,?_,?_,trivial⟩ (L':=[(23,?_),(5,?_),(4,?_),(1,?_)]) ?_ fun O a7 w8 hw hO hX S9 A10=>?_
 rotate_left 17
 · exact opP S6.big fun c=>⟨_,run_move rfl,(c.o 1 rfl)⟩
 · exact opP S6.big fun c=>⟨_,run_move rfl,(c.o 1 rfl)⟩
 · exact opV S6.big fun c=>len_L ps.length Tryz.underlying37 (c.h 0 rfl) (lR_len _ _)
 · exact opV S6.big fun c=>run_sub rfl (c.e 0 rfl) rfl (by omega) (by omega)
 · exact opP S6.big fun c=>sl_hR (ps.length - 1) (c.h 0 rfl) (c.e 1 rfl) (by omega) (by omega)
 · exact opP S6.big fun c=>⟨_,run_move rfl,(c.o 1 rfl)⟩
 · exact opP S6.big fun c=>⟨_,run_move rfl,(c.o 1 rfl)⟩
 · exact opV S6.big fun c=>len_L ps.length Tryz.underlying37 (c.h 0 rfl) (lR_len _ _)
 · exact opV S6.big fun c=>run_sub rfl (c.e 0 rfl) rfl (by omega) (by omega)
 · exact opP S6.big fun c=>ix_sl Tryz.underlying37 infoRz (c.h 0 rfl) (c.e 1 rfl) (i:=ps.length - 1) (by omega) (lR_get (by omega))
 · exact opP S6.big fun c=>ld_pt (c.h 0 rfl) Tryz.underlying26 info_Rat
 · exact opA S6.big zero_Rat fun _ _ _=>bx_Rat
 · exact opP S6.big fun c=>⟨_,run_assign rfl,(c.h 0 rfl)⟩
 · rfl
 obtain ⟨g11,e13,e13a,e13b,e13x⟩:=A10.g 11 rfl rfl
 have S12:=(S9.add (q:=.box g11 26 3 mTop) (fun _ h=>by cases h; exact ⟨hO _ ⟨e13a,e13b⟩,Nat.le_trans hw e13a⟩) e13x (fun p hp x h=>by cases h; exact hX p hp _ e13a)).new e13
 refine t_sto S12 0 1 0 rfl isR.cv (fun w14 S15=>?_) info_Rat
 refine wpList_nil (then_normal ?_)
 refine wp_seq ?_
 refine st_monoB S15 13 [?_,?_,?_,?_,?_,?_,?_,?_,?_,?_,?_,?_,?_] [(true,10),(true,12),(false,0),(false,2),(false,3)] ⟨?_,?_,?_,?_,?_,?_,?_,?_,?_,?_,?_,?_,?_,trivial⟩ (L':=[(34,?_),(7,?_),(6,?_),(5,?_),(4,?_)]) ?_ fun O a16 w17 hw hO hX S18 A19=>?_
 rotate_left 18
 · exact opP S15.big fun c=>⟨_,run_move rfl,(c.o 4 rfl)⟩
 · exact opP S15.big fun c=>⟨_,run_move rfl,(c.o 4 rfl)⟩
 · exact opV S15.big fun c=>len_L qs.length Tryz.underlying37 (c.h 0 rfl) (lR_len _ _)
 · exact opV S15.big fun c=>run_sub rfl (c.e 0 rfl) rfl (by omega) (by omega)
 · exact opP S15.big fun c=>sl_hR (qs.length - 1) (c.h 0 rfl) (c.e 1 rfl) (by omega) (by omega)
 · exact opP S15.big fun c=>⟨_,run_move rfl,(c.o 4 rfl)⟩
 · exact opP S15.big fun c=>⟨_,run_move rfl,(c.o 4 rfl)⟩
 · exact opV S15.big fun c=>len_L qs.length Tryz.underlying37 (c.h 0 rfl) (lR_len _ _)
 · exact opV S15.big fun c=>run_sub rfl (c.e 0 rfl) rfl (by omega) (by omega)
 · exact opP S15.big fun c=>ix_sl Tryz.underlying37 infoRz (c.h 0 rfl) (c.e 1 rfl) (i:=qs.length - 1) (by omega) (lR_get (by omega))
 · exact opP S15.big fun c=>ld_pt (c.h 0 rfl) Tryz.underlying26 info_Rat
 · exact opA S15.big zero_Rat fun _ _ _=>bx_Rat
 · exact opP S15.big fun c=>⟨_,run_assign rfl,(c.h 0 rfl)⟩
 · rfl
 obtain ⟨g20,e22,e22a,e22b,e22x⟩:=A19.g 11 rfl rfl
 have S21:=(S18.add (q:=.box g20 26 3 mTop) (fun _ h=>by cases h; exact ⟨hO _ ⟨e22a,e22b⟩,Nat.le_trans hw e22a⟩) e22x (fun p hp x h=>by cases h; exact hX p hp _ e22a)).new e22
 refine t_sto S21 0 1 0 rfl isR.cv (fun w23 S24=>?_) info_Rat
 refine wpList_nil (then_normal ?_)
 refine wp_seq ?_
 refine st_seq S24 2 [?_,?_] [(true,0),(true,1),(false,2),(false,3),(false,4),(false,5)] ⟨?_,?_,trivial⟩ (L':=[(35,?_),(36,?_),(7,?_),(6,?_),(5,?_),(4,?_)]) ?_ fun a25 w26 S27=>?_
 rotate_left 8
 · exact opP S24.r fun c=>⟨_,run_move rfl,(c.o 4 rfl)⟩
 · exact opL S24.r 0 Tryz.underlying26 info_Rat fun c=>(c.q 0 rfl)
 · rfl
 refine t_callF S27 rfl (args_2 rfl rfl) (p_scaled (by omega) (by omega) (by omega) (S27.sl 0 rfl) (S27.sl 1 rfl) (hT.below S27.B) S27.ob) fun O a29 w31 v32 S30=>?_
 refine t_asg S30 0 fun a33 S34=>?_
 refine wpList_nil (then_normal ?_)
 refine wp_seq ?_
 refine st_seq S34 5 [?_,?_,?_,?_,?_] [(true,4),(false,0),(false,4),(false,5),(false,7)] ⟨?_,?_,?_,?_,?_,trivial⟩ (L':=[(42,?_),(9,?_),(7,?_),(6,?_),(4,?_)]) ?_ fun a35 w36 S37=>?_
 rotate_left 10
 · exact opP S34.r fun c=>⟨_,run_move rfl,(c.o 6 rfl)⟩
 · exact opV S34.r fun c=>len_L ((ps.take (ps.length - 1)).length) Tryz.underlying37 (c.h 0 rfl) (lR_len _ _)
 · exact opP S34.r fun c=>⟨_,run_move rfl,(c.o 4 rfl)⟩
 · exact opV S34.r fun c=>len_L ((qs.take (qs.length - 1)).length) Tryz.underlying37 (c.h 0 rfl) (lR_len _ _)
 · exact opV S34.r fun c=>run_sub rfl (c.e 0 rfl) (c.e 1 rfl) (by omega) (by omega)
 · rfl
 refine t_asg S37 0 fun a39 S40=>?_
 refine wpList_nil (then_normal ?_)
 refine wp_seq ?_
 refine wp_seq ?_
 refine st_seq S40 3 [?_,?_,?_] [(true,0),(true,1),(true,2),(false,0),(false,2),(false,4),(false,5)] ⟨?_,?_,?_,trivial⟩ (L':=[(43,?_),(44,?_),(45,?_),(10,?_),(9,?_),(6,?_),(4,?_)]) ?_ fun a41 w42 S43=>?_
 rotate_left 10
 · exact opP S40.r fun c=>⟨_,run_move rfl,(c.o 3 rfl)⟩
 · exact opV S40.r fun c=>len_L ((qs.take (qs.length - 1)).length) Tryz.underlying37 (c.h 0 rfl) (lR_len _ _)
 · exact opV S40.r fun c=>run_moveC rfl
 · rfl
 refine wpList_nil (then_normal ?_)
 refine wp_block ?_
 refine st_loop (τ:=Nat) (fun j=>[(43,(mSl 3 (lR (qs.take (qs.length - 1)) (m)))),(44,(mV (.int .i64 (((qs.take (qs.length - 1)).length:Nat):Int)))),(45,(mV (.int .i64 ((j:Nat):Int)))),(10,(mV (.int .i64 (((ps.length - qs.length):Nat):Int)))),(9,(mV (v32))),(6,(mV (.pointer (some ⟨g11,0,none⟩)))),(4,(mV (.slice none 0 0)))]) (fun j=>[.own v32 26 3 (lC (redI ps qs j) (2 * k + 2 * m + 9)),.box g20 26 3 (mR (qs.getD (qs.length - 1) 0) (m)),.box g11 26 3 (mR (ps.getD (ps.length - 1) 0) (k))]) (fun j=>j≤(qs.take (qs.length - 1)).length) (fun j=>(qs.take (qs.length - 1)).length - j) 0 (by omega) (S43.toX ⟨S43.sl 0 rfl,S43.sl 1 rfl,S43.sl 2 rfl,(S43.sl 3 rfl).trans (by first | rfl | exact congrArg _ (by omega)),S43.sl 4 rfl,S43.sl 5 rfl,S43.sl 6 rfl,trivial⟩ ⟨(own_up (by omega) (S43.f 0 rfl)),S43.f 1 rfl,S43.f 2 rfl,trivial⟩) ?_
 rintro j O a47 w48 hp49 S50
 try dsimp only at hp49 S50
 have hrl:=redI_len ps qs j
 refine wp_seq ?_
 refine st_seq S50 1 [?_] [(true,0),(false,0),(false,1),(false,2),(false,3),(false,4),(false,5),(false,6)] ⟨?_,trivial⟩ (L':=[(46,?_),(43,?_),(44,?_),(45,?_),(10,?_),(9,?_),(6,?_),(4,?_)]) ?_ fun a51 w52 S53=>?_
 rotate_left 9
 · exact opV S50.r fun c=>run_lss rfl (c.q 2 rfl) (c.q 1 rfl)
 · rfl
 refine wpList_nil (then_normal ?_)
 refine wp_seq ?_
 refine cond_b _ (ev (S53.sl 0 rfl)) (fun hb55=>?_) (fun hb55=>?_)
 ·have hb55p:=of_decide_eq_true hb55
  refine wp_skip (then_normal ?_)
  refine wp_seq ?_
  refine wp_block ?_
  refine wp_seq ?_
  refine st_seq S53 3 [?_,?_,?_] [(true,0),(true,2),(false,1),(false,2),(false,3),(false,4),(false,5),(false,6),(false,7)] ⟨?_,?_,?_,trivial⟩ (L':=[(47,?_),(49,?_),(43,?_),(44,?_),(45,?_),(10,?_),(9,?_),(6,?_),(4,?_)]) ?_ fun a56 w57 S58=>?_
  rotate_left 12
  · exact opV S53.r fun c=>run_v (run_move rfl) (c.q 3 rfl)
  · exact opP S53.r fun c=>ix_sl Tryz.underlying37 infoRz (c.o 1 rfl) (c.q 3 rfl) (i:=j) (by omega) (lR_get (by omega))
  · exact opP S53.r fun c=>ld_pt (c.h 0 rfl) Tryz.underlying26 info_Rat
  · rfl
  refine t_alloc S58 zero_Rat (fun _ _ _=>bx_Rat) fun O a60 w61 g62 S63=>?_
  refine t_asg S63 1 fun a64 S65=>?_
  refine t_sto S65 1 3 0 rfl isR.cv (fun w66 S67=>?_) info_Rat
  refine wpList_nil (then_normal ?_)
  refine st_mono S67 15 [?_,?_,?_,?_,?_,?_,?_,?_,?_,?_,?_,?_,?_,?_,?_] [(true,13),(true,14),(false,4),(false,5),(false,6),(false,7),(false,8),(false,9),(false,10)] ⟨?_,?_,?_,?_,?_,?_,?_,?_,?_,?_,?_,?_,?_,?_,?_,trivial⟩ (L':=[(63,?_),(64,?_),(43,?_),(44,?_),(45,?_),(10,?_),(9,?_),(6,?_),(4,?_)]) ?_ fun a68 w69 S70=>?_
  rotate_left 24
  · exact opV S67.r fun c=>run_v (run_move rfl) (c.q 8 rfl)
  · exact opV S67.r fun c=>run_v (run_move rfl) (c.q 7 rfl)
  · exact opV S67.r fun c=>run_v (run_move rfl) (c.q 0 rfl)
  · exact opV S67.r fun c=>run_add rfl (c.e 0 rfl) (c.e 1 rfl) (by omega) (by omega)
  · exact opV S67.r fun c=>run_v (run_move rfl) (c.q 8 rfl)
  · exact opV S67.r fun c=>run_v (run_move rfl) (c.q 7 rfl)
  · exact opV S67.r fun c=>run_v (run_move rfl) (c.q 0 rfl)
  · exact opV S67.r fun c=>run_add rfl (c.e 0 rfl) (c.e 1 rfl) (by omega) (by omega)
  · exact opV S67.r fun c=>ix_own Tryz.underlying37 infoRz (c.own 1 rfl) (c.e 0 rfl) (c.e 1 rfl) (i:=((ps.length - qs.length)) + j) (by omega) (by rw [lC_len]; omega)
  · exact opP S67.r fun c=>ld_own (c.own 1 rfl) (c.e 0 rfl) (lC_get (by omega)) Tryz.underlying26 info_Rat
  · exact opL S67.r 3 Tryz.underlying26 info_Rat fun c=>(c.q 9 rfl)
  · exact opL S67.r 0 Tryz.underlying26 info_Rat fun c=>(c.q 1 rfl)
  · exact opC S67.r rfl fun c B=>⟨_,args_2 rfl rfl,(c_mul (by omega) (by omega) (c.h 0 rfl) (c.h 1 rfl) (hT.below B))⟩
  · exact opC S67.r rfl fun c B=>⟨_,args_2 rfl rfl,(c_sub (by omega) (by omega) (isC.r (c.h 0 rfl)) (isC.r (c.h 1 rfl)) (hT.below B))⟩
  · exact opV S67.r fun c=>ix_own Tryz.underlying37 infoRz (c.own 1 rfl) (c.e 0 rfl) (c.e 1 rfl) (i:=((ps.length - qs.length)) + j) (by omega) (by rw [lC_len]; omega)
  · rfl
  refine t_stoC S70 1 0 1 rfl rfl rfl (by omega) (fun _ _ h=>isC.re h (redI_sz1 hsp hsq j)) fun w72 S73=>?_
  refine wpList_nil (in_normal (then_normal ?_))
  refine st_seq S73 1 [?_] [(true,0),(false,2),(false,3),(false,4),(false,5),(false,6),(false,7),(false,8)] ⟨?_,trivial⟩ (L':=[(65,?_),(43,?_),(44,?_),(45,?_),(10,?_),(9,?_),(6,?_),(4,?_)]) ?_ fun a74 w75 S76=>?_
  rotate_left 9
  · exact opV S73.r fun c=>run_add rfl (c.q 4 rfl) rfl (by omega) (by omega)
  · rfl
  refine t_val S76 (run_v (run_move rfl) (S76.e 0 rfl)) fun a78 S79=>?_
  refine wpList_nil (then_normal ?_)
  exact ⟨j + 1,(by first | omega | (dsimp only; omega)),(by first | omega | (dsimp only; omega)),_,(S79.dropN 1).toX ⟨S79.sl 2 rfl,S79.sl 3 rfl,(S79.sl 0 rfl).trans (by first | rfl | exact congrArg _ (by omega)),(S79.sl 4 rfl).trans (by first | rfl | exact congrArg _ (by omega)),S79.sl 5 rfl,S79.sl 6 rfl,S79.sl 7 rfl,trivial⟩ ⟨(by rw [redI_succ]; exact S79.f 1 rfl),S79.f 2 rfl,S79.f 3 rfl,trivial⟩⟩
 ·have hb55p:=of_decide_eq_false hb55
  refine wp_exit ?_
  repeat (first | refine exit_in ?_ | refine exit_then ?_ | refine exit_out (by decide) ?_)
  refine (then_normal ?_)
  refine wp_seq ?_
  obtain ⟨O,S80⟩:=S53.frz 5 0
  refine st_seq S80 1 [?_] [(true,0),(false,7)] ⟨?_,trivial⟩ (L':=[(66,?_),(4,?_)]) ?_ fun a81 w82 S83=>?_
  rotate_left 3
  · exact opP S80.r fun c=>⟨_,run_move rfl,(c.o 0 rfl)⟩
  · rfl
  refine t_asg S83 0 fun a85 S86=>?_
  refine wpList_nil (then_normal ?_)
  refine wp_ret ?_
  exact st_endT S86 0 rfl fun v h=>(by rw [redQ_of (j:=j) (by omega)]; exact h)
end Go.Proofs.YtcankknlbljicaaGreatDoor

namespace Go.Proofs.YtcankknlbljicaaGreatDoor
open Go.RowKit Num

set_option maxRecDepth 100000
set_option maxHeartbeats 2000000
theorem p_monic {qs:List Rat} {k:Nat} {v0:Value} {w:World} {O:Bs} (hn:qs.length≤9999) (hk:k≤333330000) (pf0:(mSl 3 (lR qs (k))).S O w v0) (hT:Tb w) (ho:OB O w) :
    Calls Tryz.prog 54 #[v0] w (RetM (mSl 3 (lC (monP qs) (k + k + 3))) O w):=by
 refine st_start 16 Tryz.func54 [(mSl 3 (lR qs (k)))] ⟨pf0,trivial⟩ ho fun a S=>?_
 have hcl2:=cutQ_le qs
 refine wp_seq ?_
 refine st_seq S 0 [] [(false,0)] trivial (L':=[(0,?_)]) ?_ fun a1 w2 S3=>?_
 rotate_left 1
 · rfl
 refine t_asgC S3 fun a5 S6=>?_
 refine wpList_nil (then_normal ?_)
 refine wp_seq ?_
 refine st_seq S6 2 [?_,?_] [(true,1),(false,0),(false,1)] ⟨?_,?_,trivial⟩ (L':=[(4,?_),(2,?_),(0,?_)]) ?_ fun a7 w8 S9=>?_
 rotate_left 5
 · exact opP S6.r fun c=>⟨_,run_move rfl,(c.o 1 rfl)⟩
 · exact opC S6.r rfl fun c B=>⟨_,args_1 rfl,(p_cut (by omega) (by omega) (c.h 0 rfl) (S6.obc c.wb))⟩
 · rfl
 refine t_asg S9 0 fun a11 S12=>?_
 refine wpList_nil (then_normal ?_)
 refine wp_seq ?_
 refine wp_seq ?_
 refine st_seq S12 3 [?_,?_,?_] [(true,2),(false,0),(false,2)] ⟨?_,?_,?_,trivial⟩ (L':=[(7,?_),(0,?_),(2,?_)]) ?_ fun a13 w14 S15=>?_
 rotate_left 6
 · exact opP S12.r fun c=>⟨_,run_move rfl,(c.o 0 rfl)⟩
 · exact opV S12.r fun c=>len_L ((cutQ qs).length) Tryz.underlying37 (c.h 0 rfl) (lR_len _ _)
 · exact opV S12.r fun c=>run_eql rfl (c.e 0 rfl) rfl
 · rfl
 refine wpList_nil (then_normal ?_)
 refine cond_b _ (ev (S15.sl 0 rfl)) (fun hb17=>?_) (fun hb17=>?_)
 ·have hb17p:=of_decide_eq_true hb17
  refine wp_seq ?_
  refine st_seq S15 0 [] [(false,1),(false,2)] trivial (L':=[(0,?_),(2,?_)]) ?_ fun a18 w19 S20=>?_
  rotate_left 2
  · rfl
  refine t_asgC S20 fun a22 S23=>?_
  refine wpList_nil (then_normal ?_)
  refine wp_ret ?_
  exact st_endT S23 0 rfl fun v h=>(nil_L (monP_nil hb17) h)
 ·have hb17p:=of_decide_eq_false hb17
  have hnz:=lead_ne (qs:=qs) hb17
  refine wp_skip (then_normal ?_)
  refine wp_seq ?_
  refine st_seq S15 8 [?_,?_,?_,?_,?_,?_,?_,?_] [(true,7),(false,2)] ⟨?_,?_,?_,?_,?_,?_,?_,?_,trivial⟩ (L':=[(15,?_),(2,?_)]) ?_ fun a24 w25 S26=>?_
  rotate_left 10
  · exact opP S15.r fun c=>⟨_,run_move rfl,(c.o 1 rfl)⟩
  · exact opP S15.r fun c=>⟨_,run_move rfl,(c.o 1 rfl)⟩
  · exact opP S15.r fun c=>⟨_,run_move rfl,(c.o 1 rfl)⟩
  · exact opV S15.r fun c=>len_L ((cutQ qs).length) Tryz.underlying37 (c.h 0 rfl) (lR_len _ _)
  · exact opV S15.r fun c=>run_sub rfl (c.e 0 rfl) rfl (by omega) (by omega)
  · exact opP S15.r fun c=>ix_sl Tryz.underlying37 infoRz (c.h 0 rfl) (c.e 1 rfl) (i:=((cutQ qs).length) - 1) (by omega) (lR_get (by omega))
  · exact opP S15.r fun c=>ld_pt (c.h 0 rfl) Tryz.underlying26 info_Rat
  · exact opC S15.r rfl fun c B=>⟨_,args_2 rfl rfl,(retL (p_divided (by omega) (by omega) (by omega) (by assumption) (c.h 0 rfl) (c.h 1 rfl) (hT.below B) (S15.obc c.wb)) (S15.obc c.wb))⟩
  · rfl
  refine t_asg S26 0 fun a28 S29=>?_
  refine wpList_nil (then_normal ?_)
  refine wp_ret ?_
  exact st_endT S29 0 rfl fun v h=>slC_mono h (by omega)

theorem p_prim {qs:List Rat} {k:Nat} {L K:Nat} {v0:Value} {w:World} {O:Bs} (hn:qs.length≤L) (hL:L≤9999) (hk:k≤33330000) (hK:L * (k + k + 3 + 2) + 2≤K) (hK2:K≤333330000) (pf0:(mSl 3 (lR qs (k))).S O w v0) (hT:Tb w) (ho:OB O w) :
    Calls Tryz.prog 122 #[v0] w (RetM (mSl 3 (lC (primP qs) (k + k + 3 + K + 3))) O w):=by
 refine st_start 7 Tryz.func122 [(mSl 3 (lR qs (k)))] ⟨pf0,trivial⟩ ho fun a S=>?_
 have hml:=monP_len qs
 refine wp_seq ?_
 refine st_seq S 0 [] [(false,0)] trivial (L':=[(0,?_)]) ?_ fun a1 w2 S3=>?_
 rotate_left 1
 · rfl
 refine t_asgC S3 fun a5 S6=>?_
 refine wpList_nil (then_normal ?_)
 refine wp_seq ?_
 refine st_seq S6 4 [?_,?_,?_,?_] [(true,3),(false,0)] ⟨?_,?_,?_,?_,trivial⟩ (L':=[(6,?_),(2,?_)]) ?_ fun a7 w8 S9=>?_
 rotate_left 6
 · exact opP S6.r fun c=>⟨_,run_move rfl,(c.o 1 rfl)⟩
 · exact opC S6.r rfl fun c B=>⟨_,args_1 rfl,(p_monic (by omega) (by omega) (c.h 0 rfl) (hT.below B) (S6.obc c.wb))⟩
 · exact opC S6.r rfl fun c B=>⟨_,args_1 rfl,(p_cleared (L:=L) (K:=K) (by omega) (by omega) (by omega) (by omega) (by omega) (slC_r (c.h 0 rfl)) (hT.below B) (S6.obc c.wb))⟩
 · exact opP S6.r fun c=>fld_I0 (c.h 0 rfl)
 · rfl
 refine t_asg S9 0 fun a11 S12=>?_
 refine wpList_nil (then_normal ?_)
 refine wp_ret ?_
 exact st_endT S12 0 rfl fun v h=>slC_mono h (by omega)

theorem p_rem {ps qs:List Rat} {K m:Nat} {v0:Value} {v1:Value} {w:World} {O:Bs} (hn:ps.length≤9999) (h1 : 1≤qs.length) (hk:K≤99990000) (hm:m≤99990000) (hz:∀ t j:Nat,t≤ps.length + 1 - qs.length→Sz ((redN ps qs t).getD j 0) K) (pf0:(mSl 3 (lC ps (K))).S O w v0) (pf1:(mSl 3 (lC qs (m))).S O w v1) (hT:Tb w) (ho:OB O w) :
    Calls Tryz.prog 124 #[v0,v1] w (RetM (mSl 3 (lC (cutQ (remQ ps qs)) (K))) O w):=by
 refine st_start 15 Tryz.func124 [(mSl 3 (lC ps (K))),(mSl 3 (lC qs (m)))] ⟨pf0,pf1,trivial⟩ ho fun a S=>?_
 refine wp_seq ?_
 refine st_seq S 0 [] [(false,0),(false,1)] trivial (L':=[(0,?_),(1,?_)]) ?_ fun a1 w2 S3=>?_
 rotate_left 2
 · rfl
 refine t_asgC S3 fun a5 S6=>?_
 refine wpList_nil (then_normal ?_)
 refine wp_seq ?_
 refine wp_block ?_
 refine st_loop (τ:=Nat) (fun t=>[(4,(mV (.slice none 0 0))),(0,(mSl 3 (lC (redN ps qs t) (K)))),(1,(mSl 3 (lC qs (m))))]) (fun t=>[]) (fun t=>t≤ps.length + 1 - qs.length) (fun t=>ps.length + 1 - t) 0 (by omega) (S6.toX ⟨S6.sl 0 rfl,S6.sl 1 rfl,S6.sl 2 rfl,trivial⟩ trivial) ?_
 rintro t O a9 w10 hp11 S12
 try dsimp only at hp11 S12
 have hnl:=redN_len ps qs t
 refine wp_seq ?_
 refine wp_seq ?_
 refine st_seq S12 5 [?_,?_,?_,?_,?_] [(true,4),(false,0),(false,1),(false,2)] ⟨?_,?_,?_,?_,?_,trivial⟩ (L':=[(9,?_),(4,?_),(0,?_),(1,?_)]) ?_ fun a13 w14 S15=>?_
 rotate_left 9
 · exact opP S12.r fun c=>⟨_,run_move rfl,(c.o 1 rfl)⟩
 · exact opV S12.r fun c=>len_L ((redN ps qs t).length) Tryz.underlying37 (c.h 0 rfl) (lC_len _ _)
 · exact opP S12.r fun c=>⟨_,run_move rfl,(c.o 2 rfl)⟩
 · exact opV S12.r fun c=>len_L qs.length Tryz.underlying37 (c.h 0 rfl) (lC_len _ _)
 · exact opV S12.r fun c=>run_geq rfl (c.e 0 rfl) (c.e 1 rfl)
 · rfl
 refine wpList_nil (then_normal ?_)
 refine cond_b _ (ev (S15.sl 0 rfl)) (fun hb17=>?_) (fun hb17=>?_)
 ·have hb17p:=of_decide_eq_true hb17
  refine wp_skip (then_normal ?_)
  refine wp_block ?_
  refine st_seq S15 3 [?_,?_,?_] [(true,2),(false,1),(false,2),(false,3)] ⟨?_,?_,?_,trivial⟩ (L':=[(12,?_),(4,?_),(0,?_),(1,?_)]) ?_ fun a18 w19 S20=>?_
  rotate_left 7
  · exact opP S15.r fun c=>⟨_,run_move rfl,(c.o 2 rfl)⟩
  · exact opP S15.r fun c=>⟨_,run_move rfl,(c.o 3 rfl)⟩
  · exact opC S15.r rfl fun c B=>⟨_,args_2 rfl rfl,(p_red (by omega) (by omega) (by omega) (by omega) (by omega) (slC_r (c.h 0 rfl)) (slC_r (c.h 1 rfl)) (hT.below B) (S15.obc c.wb))⟩
  · rfl
  refine t_asg S20 0 fun a22 S23=>?_
  refine wpList_nil (in_normal (then_normal ?_))
  exact ⟨t + 1,(by first | omega | (dsimp only; omega)),(by first | omega | (dsimp only; omega)),_,S23.toX ⟨S23.sl 2 rfl,(slC_re (fun l=>hz (t + 1) l (by omega)) (by rw [redN_succ]; exact S23.sl 0 rfl)),S23.sl 3 rfl,trivial⟩ trivial⟩
 ·have hb17p:=of_decide_eq_false hb17
  refine wp_exit ?_
  repeat (first | refine exit_in ?_ | refine exit_then ?_ | refine exit_out (by decide) ?_)
  refine (then_normal ?_)
  refine wp_seq ?_
  refine st_seq S15 2 [?_,?_] [(true,1),(false,1)] ⟨?_,?_,trivial⟩ (L':=[(14,?_),(4,?_)]) ?_ fun a24 w25 S26=>?_
  rotate_left 4
  · exact opP S15.r fun c=>⟨_,run_move rfl,(c.o 2 rfl)⟩
  · exact opC S15.r rfl fun c B=>⟨_,args_1 rfl,(p_cutC (by omega) (by omega) (c.h 0 rfl) (S15.obc c.wb))⟩
  · rfl
  refine t_asg S26 0 fun a28 S29=>?_
  refine wpList_nil (then_normal ?_)
  refine wp_ret ?_
  exact st_endT S29 0 rfl fun v h=>(by rw [remQ_of (t:=t) (by omega) (by omega)]; exact h)

theorem p_raised {q:Rat} {k n K:Nat} {v0:Value} {w:World} {O:Bs} (hn:n≤1000000) (hk:k≤999990000) (hK:K≤999990000) (hz:∀ i:Nat,i≤n→Sz (q ^ i) K) (pf0:(mR (q) (k)).S O w v0) (hT:Tb w) (ho:OB O w) :
    Calls Tryz.prog 125 #[v0,.int .i64 ((n:Nat):Int)] w (RetM (mC (q ^ n) (K)) O w):=by
 refine st_start 15 Tryz.func125 [(mR (q) (k)),(mV (.int .i64 ((n:Nat):Int)))] ⟨pf0,rfl,trivial⟩ ho fun a S=>?_
 refine wp_seq ?_
 refine st_seq S 0 [] [(false,0),(false,1)] trivial (L':=[(0,?_),(1,?_)]) ?_ fun a1 w2 S3=>?_
 rotate_left 2
 · rfl
 refine t_box S3 0 rfl isR.cv fun O a5 w6 g7 S8=>?_
 refine t_alloc S8 zero_Rat (fun _ _ _=>bx_Rat) fun O a9 w10 g11 S12=>?_
 refine wpList_nil (then_normal ?_)
 refine wp_seq ?_
 refine st_seq S12 1 [?_] [(true,0),(false,0),(false,1),(false,3)] ⟨?_,trivial⟩ (L':=[(6,?_),(4,?_),(2,?_),(1,?_)]) ?_ fun a13 w14 S15=>?_
 rotate_left 5
 · exact opC S12.r rfl fun c B=>⟨_,args_0,(p_one (S12.obc c.wb))⟩
 · rfl
 refine t_alloc S15 zero_Rat (fun _ _ _=>bx_Rat) fun O a17 w18 g19 S20=>?_
 refine t_sto S20 0 1 0 rfl isC.cv (fun w21 S22=>?_) info_Rat
 refine wpList_nil (then_normal ?_)
 refine wp_seq ?_
 refine wp_seq ?_
 refine st_seq S22 2 [?_,?_] [(true,0),(true,1),(false,0),(false,2),(false,3)] ⟨?_,?_,trivial⟩ (L':=[(7,?_),(8,?_),(5,?_),(4,?_),(2,?_)]) ?_ fun a23 w24 S25=>?_
 rotate_left 7
 · exact opV S22.r fun c=>run_v (run_move rfl) (c.q 4 rfl)
 · exact opV S22.r fun c=>run_moveC rfl
 · rfl
 refine wpList_nil (then_normal ?_)
 refine wp_block ?_
 refine st_loop (τ:=Nat) (fun i=>[(7,(mV (.int .i64 ((n:Nat):Int)))),(8,(mV (.int .i64 ((i:Nat):Int)))),(5,(mV (.pointer (some ⟨g19,0,none⟩)))),(4,(mV (.pointer (some ⟨g11,0,none⟩)))),(2,(mV (.pointer (some ⟨g7,0,none⟩))))]) (fun i=>[.box g19 26 3 (mC (q ^ i) (K)),.box g11 26 3 mTop,.box g7 26 3 (mR (q) (k))]) (fun i=>i≤n) (fun i=>n - i) 0 (by omega) (S25.toX ⟨S25.sl 0 rfl,S25.sl 1 rfl,S25.sl 2 rfl,S25.sl 3 rfl,S25.sl 4 rfl,trivial⟩ ⟨(bx.imp (fun _ h=>isC.re (isC.of h pow0Q.symm) (hz 0 (Nat.zero_le _))) (S25.f 0 rfl)),S25.f 1 rfl,S25.f 2 rfl,trivial⟩) ?_
 rintro i O a29 w30 hp31 S32
 try dsimp only at hp31 S32
 refine wp_seq ?_
 refine st_seq S32 1 [?_] [(true,0),(false,0),(false,1),(false,2),(false,3),(false,4)] ⟨?_,trivial⟩ (L':=[(9,?_),(7,?_),(8,?_),(5,?_),(4,?_),(2,?_)]) ?_ fun a33 w34 S35=>?_
 rotate_left 7
 · exact opV S32.r fun c=>run_lss rfl (c.q 1 rfl) (c.q 0 rfl)
 · rfl
 refine wpList_nil (then_normal ?_)
 refine wp_seq ?_
 refine cond_b _ (ev (S35.sl 0 rfl)) (fun hb37=>?_) (fun hb37=>?_)
 ·have hb37p:=of_decide_eq_true hb37
  refine wp_skip (then_normal ?_)
  refine wp_seq ?_
  refine wp_block ?_
  refine st_seq S35 3 [?_,?_,?_] [(true,2),(false,1),(false,2),(false,3),(false,4),(false,5)] ⟨?_,?_,?_,trivial⟩ (L':=[(12,?_),(7,?_),(8,?_),(5,?_),(4,?_),(2,?_)]) ?_ fun a38 w39 S40=>?_
  rotate_left 9
  · exact opL S35.r 0 Tryz.underlying26 info_Rat fun c=>(c.q 3 rfl)
  · exact opL S35.r 2 Tryz.underlying26 info_Rat fun c=>(c.q 5 rfl)
  · exact opC S35.r rfl fun c B=>⟨_,args_2 rfl rfl,(c_mul (by omega) (by omega) (isC.r (c.h 0 rfl)) (c.h 1 rfl) (hT.below B))⟩
  · rfl
  refine t_sto S40 3 0 0 rfl isC.cv (fun w42 S43=>?_) info_Rat
  refine wpList_nil (in_normal (then_normal ?_))
  refine st_seq S43 1 [?_] [(true,0),(false,1),(false,2),(false,3),(false,4),(false,5)] ⟨?_,trivial⟩ (L':=[(13,?_),(7,?_),(8,?_),(5,?_),(4,?_),(2,?_)]) ?_ fun a44 w45 S46=>?_
  rotate_left 7
  · exact opV S43.r fun c=>run_add rfl (c.q 2 rfl) rfl (by omega) (by omega)
  · rfl
  refine t_val S46 (run_v (run_move rfl) (S46.e 0 rfl)) fun a48 S49=>?_
  refine wpList_nil (then_normal ?_)
  exact ⟨i + 1,(by first | omega | (dsimp only; omega)),(by first | omega | (dsimp only; omega)),_,S49.toX ⟨S49.sl 2 rfl,(S49.sl 0 rfl).trans (by first | rfl | exact congrArg _ (by omega)),S49.sl 3 rfl,S49.sl 4 rfl,S49.sl 5 rfl,trivial⟩ ⟨(bx.imp (fun _ h=>isC.re (isC.of h (Rat.pow_succ q i).symm) (hz (i + 1) (by omega))) (S49.f 0 rfl)),S49.f 1 rfl,S49.f 2 rfl,trivial⟩⟩
 ·have hb37p:=of_decide_eq_false hb37
  refine wp_exit ?_
  repeat (first | refine exit_in ?_ | refine exit_then ?_ | refine exit_out (by decide) ?_)
  refine (then_normal ?_)
  refine wp_seq ?_
  refine st_seq S35 1 [?_] [(true,0),(false,4)] ⟨?_,trivial⟩ (L':=[(14,?_),(4,?_)]) ?_ fun a50 w51 S52=>?_
  rotate_left 3
  · exact opL S35.r 0 Tryz.underlying26 info_Rat fun c=>(c.q 3 rfl)
  · rfl
  refine t_sto S52 1 0 1 rfl isC.cv (fun w54 S55=>?_) info_Rat
  refine wpList_nil (then_normal ?_)
  refine wp_ret ?_
  exact st_end S55 1 1 rfl Tryz.underlying26 info_Rat fun v h=>(by rw [show n=i by omega]; exact h)
end Go.Proofs.YtcankknlbljicaaGreatDoor
