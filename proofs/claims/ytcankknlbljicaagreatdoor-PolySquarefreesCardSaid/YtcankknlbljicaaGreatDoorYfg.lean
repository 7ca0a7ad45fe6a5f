/-  -/
import Derived.Test.YtcankknlbljicaaGreatDoorYff
import Derived.Test.YtcankknlbljicaaGreatDoorYed

set_option linter.unusedVariables false
set_option linter.unusedSimpArgs false
set_option linter.unusedSectionVars false
set_option maxRecDepth 100000
set_option maxHeartbeats 3200000

namespace Go.Proofs.YtcankknlbljicaaGreatDoor
open Go.RowKit Num

set_option maxRecDepth 100000
set_option maxHeartbeats 2000000
end Go.Proofs.YtcankknlbljicaaGreatDoor

namespace Go.Proofs.YtcankknlbljicaaGreatDoor
open Go.RowKit Num

set_option maxRecDepth 100000
set_option maxHeartbeats 2000000
theorem r5_trim {qs:List Rat} {k:Nat} {v0:Value} {w:World} {O:Bs} (hn:qs.length≤99999) (hk:k≤333330000) (pf0:(mSl 3 (lR qs (k))).S O w v0) (ho:OB O w) :
    Calls Tryz.prog 31 #[v0] w (RetM (mSl 3 (lC (cutQ qs) (k + 1))) O w):=by
 refine st_start 37 Tryz.func31 [(mSl 3 (lR qs (k)))] ⟨pf0,trivial⟩ ho fun a S=>?_
 refine wp_seq ?_
 refine st_seq S 0 [] [(false,0)] trivial (L':=[(0,?_)]) ?_ fun a1 w2 S3=>?_
 rotate_left 1
 · rfl
 refine t_asgC S3 fun a5 S6=>?_
 refine wpList_nil (then_normal ?_)
 refine wp_seq ?_
 refine st_seq S6 2 [?_,?_] [(true,1),(false,0),(false,1)] ⟨?_,?_,trivial⟩ (L':=[(8,?_),(2,?_),(0,?_)]) ?_ fun a7 w8 S9=>?_
 rotate_left 5
 · exact opP S6.r fun c=>⟨_,run_move rfl,(c.o 1 rfl)⟩
 · exact opV S6.r fun c=>len_L qs.length Tryz.underlying37 (c.h 0 rfl) (lR_len _ _)
 · rfl
 refine t_asg S9 0 fun a11 S12=>?_
 refine wpList_nil (then_normal ?_)
 refine wp_seq ?_
 refine wp_block ?_
 refine st_loop (τ:=Nat) (fun n=>[(3,(mV (.int .i64 ((n:Nat):Int)))),(2,(mV (.slice none 0 0))),(0,(mSl 3 (lR qs (k))))]) (fun n=>[]) (fun n=>n≤qs.length∧cutn qs=cutn (qs.take n)) (fun n=>n) qs.length ⟨Nat.le_refl _,by rw [List.take_length]⟩ (S12.toX ⟨S12.sl 0 rfl,S12.sl 2 rfl,S12.sl 3 rfl,trivial⟩ trivial) ?_
 rintro n O a15 w16 hp17 S18
 try dsimp only at hp17 S18
 have hn1:=hp17.1
 refine wp_seq ?_
 refine wp_seq ?_
 refine st_seq S18 11 [?_,?_,?_,?_,?_,?_,?_,?_,?_,?_,?_] [(true,10),(false,0),(false,1),(false,2)] ⟨?_,?_,?_,?_,?_,?_,?_,?_,?_,?_,?_,trivial⟩ (L':=[(19,?_),(3,?_),(2,?_),(0,?_)]) ?_ fun a19 w20 S21=>?_
 rotate_left 15
 · exact opV S18.r fun c=>run_v (run_move rfl) (c.q 0 rfl)
 · exact opV S18.r fun c=>run_gtr rfl (c.e 0 rfl) rfl
 · exact opV S18.r fun c=>run_v (run_move rfl) (c.e 0 rfl)
 · exact opG S18.r 0 (fun hγ=>opP S18.r fun c=>⟨_,run_move rfl,(c.o 2 rfl)⟩) gT
 · exact opG S18.r 0 (fun hγ=>opV S18.r fun c=>run_v (run_move rfl) (c.q 0 rfl)) gT
 · exact opG S18.r 1 (fun hγ=>opV S18.r fun c=>run_sub rfl (ev (c.h 0 rfl hγ)) rfl (by have:=of_decide_eq_true hγ; omega) (by have:=of_decide_eq_true hγ; omega)) gT
 · exact opG S18.r 2 (fun hγ=>opP S18.r fun c=>ix_sl Tryz.underlying37 infoRz (c.h 0 rfl hγ) (ev (c.h 1 rfl hγ)) (i:=n - 1) (by have:=of_decide_eq_true hγ; omega) (lR_get (by have:=of_decide_eq_true hγ; omega))) gT
 · exact opG S18.r 1 (fun hγ=>opP S18.r fun c=>ld_pt (c.h 0 rfl hγ) Tryz.underlying26 info_Rat) gT
 · exact opG S18.r 1 (fun hγ=>opC S18.r rfl fun c B=>⟨_,args_1 rfl,(r_sign (by have:=of_decide_eq_true hγ; omega) (c.h 0 rfl hγ))⟩) gT
 · exact opG S18.r 1 (fun hγ=>opV S18.r fun c=>run_eql rfl (ev (c.h 0 rfl hγ)) rfl) gT
 · exact opE S18.r fun c=>⟨_,run_pick rfl (c.e 0 rfl),pick_and (c.h 1 rfl)⟩
 · rfl
 refine wpList_nil (then_normal ?_)
 refine cond_b _ (ev (S21.sl 0 rfl)) (fun hb23=>?_) (fun hb23=>?_)
 ·obtain ⟨hd1,hd2⟩:=trm_t hb23
  refine wp_skip (then_normal ?_)
  refine wp_block ?_
  refine st_seq S21 2 [?_,?_] [(true,1),(false,1),(false,2),(false,3)] ⟨?_,?_,trivial⟩ (L':=[(21,?_),(3,?_),(2,?_),(0,?_)]) ?_ fun a24 w25 S26=>?_
  rotate_left 6
  · exact opV S21.r fun c=>run_v (run_move rfl) (c.q 1 rfl)
  · exact opV S21.r fun c=>run_sub rfl (c.e 0 rfl) rfl (by omega) (by omega)
  · rfl
  refine t_asg S26 0 fun a28 S29=>?_
  refine wpList_nil (in_normal (then_normal ?_))
  exact ⟨n - 1,(by first | omega | (dsimp only; omega)),(deg_next hp17 hd1 hd2),_,S29.toX ⟨(S29.sl 0 rfl).trans (by first | rfl | exact congrArg _ (by omega)),S29.sl 2 rfl,S29.sl 3 rfl,trivial⟩ trivial⟩
 ·have hcn:=trm_end hp17 hb23
  have hln:(qs.take n).length=n:=by rw [List.length_take]; omega
  refine wp_exit ?_
  repeat (first | refine exit_in ?_ | refine exit_then ?_ | refine exit_out (by decide) ?_)
  refine (then_normal ?_)
  refine wp_seq ?_
  refine st_seq S21 0 [] [(false,1),(false,2),(false,3)] trivial (L':=[(3,?_),(2,?_),(0,?_)]) ?_ fun a30 w31 S32=>?_
  rotate_left 3
  · rfl
  refine t_asgC S32 fun a34 S35=>?_
  have S36:=S35.nil 26 3
  refine wpList_nil (then_normal ?_)
  refine wp_seq ?_
  refine wp_seq ?_
  refine st_seq S36 5 [?_,?_,?_,?_,?_] [(true,2),(true,3),(true,4),(false,0),(false,2)] ⟨?_,?_,?_,?_,?_,trivial⟩ (L':=[(24,?_),(25,?_),(26,?_),(4,?_),(2,?_)]) ?_ fun a37 w38 S39=>?_
  rotate_left 10
  · exact opP S36.r fun c=>⟨_,run_move rfl,(c.o 3 rfl)⟩
  · exact opV S36.r fun c=>run_v (run_move rfl) (c.q 1 rfl)
  · exact opP S36.r fun c=>sl_hR n (c.h 0 rfl) (c.e 1 rfl) (by omega) (by omega)
  · exact opV S36.r fun c=>len_L ((qs.take n).length) Tryz.underlying37 (c.h 0 rfl) (lR_len _ _)
  · exact opV S36.r fun c=>run_moveC rfl
  · rfl
  refine wpList_nil (then_normal ?_)
  refine wp_block ?_
  refine st_loop (τ:=Nat × Value) (fun ⟨i,v⟩=>[(24,(mSl 3 (lR (qs.take n) (k)))),(25,(mV (.int .i64 (((qs.take n).length:Nat):Int)))),(26,(mV (.int .i64 ((i:Nat):Int)))),(4,(mV (v))),(2,(mV (.slice none 0 0)))]) (fun ⟨i,v⟩=>[.own v 26 3 (lC ((qs.take n).take i) (k + 1))]) (fun ⟨i,v⟩=>i≤n) (fun ⟨i,v⟩=>n - i) (0,.slice none 0 0) (by omega) (S39.toX ⟨S39.sl 0 rfl,S39.sl 1 rfl,S39.sl 2 rfl,S39.sl 3 rfl,S39.sl 4 rfl,trivial⟩ ⟨S39.f 0 rfl,trivial⟩) ?_
  rintro ⟨i,v⟩ O a43 w44 hp45 S46
  try dsimp only at hp45 S46
  have htl:((qs.take n).take i).length=i:=by rw [List.length_take]; omega
  refine wp_seq ?_
  refine st_seq S46 1 [?_] [(true,0),(false,0),(false,1),(false,2),(false,3),(false,4)] ⟨?_,trivial⟩ (L':=[(27,?_),(24,?_),(25,?_),(26,?_),(4,?_),(2,?_)]) ?_ fun a47 w48 S49=>?_
  rotate_left 7
  · exact opV S46.r fun c=>run_lss rfl (c.q 2 rfl) (c.q 1 rfl)
  · rfl
  refine wpList_nil (then_normal ?_)
  refine wp_seq ?_
  refine cond_b _ (ev (S49.sl 0 rfl)) (fun hb51=>?_) (fun hb51=>?_)
  ·have hb51p:=of_decide_eq_true hb51
   refine wp_skip (then_normal ?_)
   refine wp_seq ?_
   refine wp_block ?_
   refine wp_seq ?_
   refine st_seq S49 2 [?_,?_] [(true,1),(false,1),(false,2),(false,3),(false,4),(false,5)] ⟨?_,?_,trivial⟩ (L':=[(29,?_),(24,?_),(25,?_),(26,?_),(4,?_),(2,?_)]) ?_ fun a52 w53 S54=>?_
   rotate_left 8
   · exact opP S49.r fun c=>ix_sl Tryz.underlying37 infoRz (c.o 1 rfl) (c.q 3 rfl) (i:=i) (by omega) (lR_get (by omega))
   · exact opP S49.r fun c=>ld_pt (c.h 0 rfl) Tryz.underlying26 info_Rat
   · rfl
   refine t_alloc S54 zero_Rat (fun _ _ _=>bx_Rat) fun O a56 w57 g58 S59=>?_
   refine t_sto S59 0 1 0 rfl isR.cv (fun w60 S61=>?_) info_Rat
   refine wpList_nil (then_normal ?_)
   refine st_seq S61 4 [?_,?_,?_,?_] [(true,0),(true,3),(false,2),(false,3),(false,4),(false,5),(false,6)] ⟨?_,?_,?_,?_,trivial⟩ (L':=[(30,?_),(33,?_),(24,?_),(25,?_),(26,?_),(4,?_),(2,?_)]) ?_ fun a62 w63 S64=>?_
   rotate_left 11
   · exact opV S61.r fun c=>run_v (run_move rfl) (c.q 5 rfl)
   · exact opL S61.r 0 Tryz.underlying26 info_Rat fun c=>(c.q 0 rfl)
   · exact opC S61.r rfl fun c B=>⟨_,args_1 rfl,(r_trim (by omega) (c.h 0 rfl))⟩
   · exact opN S61.r fun c=>lit1C (S61.obc c.wb) (c.h 0 rfl)
   · rfl
   refine t_appQ S64 0 1 rfl rfl (slC_mono ((S64.sl 1 rfl)) (by omega)) (by simp; omega) fun O a66 w67 v68 S69=>?_
   refine t_asg S69 0 fun a70 S71=>?_
   refine wpList_nil (in_normal (then_normal ?_))
   refine st_seq S71 1 [?_] [(true,0),(false,0),(false,4),(false,5),(false,6),(false,7)] ⟨?_,trivial⟩ (L':=[(35,?_),(4,?_),(24,?_),(25,?_),(26,?_),(2,?_)]) ?_ fun a72 w73 S74=>?_
   rotate_left 7
   · exact opV S71.r fun c=>run_add rfl (c.q 6 rfl) rfl (by omega) (by omega)
   · rfl
   refine t_val S74 (run_v (run_move rfl) (S74.e 0 rfl)) fun a76 S77=>?_
   refine wpList_nil (then_normal ?_)
   exact ⟨(i + 1,v68),(by first | omega | (dsimp only; omega)),(by first | omega | (dsimp only; omega)),_,(S77.dropN 1).toX ⟨S77.sl 3 rfl,S77.sl 4 rfl,(S77.sl 0 rfl).trans (by first | rfl | exact congrArg _ (by omega)),(S77.sl 2 rfl).trans (by first | rfl | exact congrArg _ (by omega)),S77.sl 5 rfl,trivial⟩ ⟨(by rw [← take_snocQ (by omega)]; exact S77.f 1 rfl),trivial⟩⟩
  ·have hb51p:=of_decide_eq_false hb51
   refine wp_exit ?_
   repeat (first | refine exit_in ?_ | refine exit_then ?_ | refine exit_out (by decide) ?_)
   refine (then_normal ?_)
   refine wp_seq ?_
   obtain ⟨O,S78⟩:=S49.frz 4 0
   refine st_seq S78 1 [?_] [(true,0),(false,5)] ⟨?_,trivial⟩ (L':=[(36,?_),(2,?_)]) ?_ fun a79 w80 S81=>?_
   rotate_left 3
   · exact opP S78.r fun c=>⟨_,run_move rfl,(c.o 0 rfl)⟩
   · rfl
   refine t_asg S81 0 fun a83 S84=>?_
   refine wpList_nil (then_normal ?_)
   refine wp_ret ?_
   exact st_endT S84 0 rfl fun v h=>(by rw [hcn,← trm_take (qs:=qs) (n:=n) (i:=i) (by omega) (by omega)]; exact h)
end Go.Proofs.YtcankknlbljicaaGreatDoor

namespace Go.Proofs.YtcankknlbljicaaGreatDoor
open Go.RowKit Num

set_option maxRecDepth 100000
set_option maxHeartbeats 2000000
theorem r_sameL {ps qs:List Rat} {k m:Nat} {v0:Value} {v1:Value} {w:World} {O:Bs} (hn:ps.length≤99999) (hl:qs.length≤99999) (hk:k≤333330000) (hm:m≤333330000) (pf0:(mSl 3 (lC ps (k))).S O w v0) (pf1:(mSl 3 (lC qs (m))).S O w v1) (ho:OB O w) :
    Calls Tryz.prog 99 #[v0,v1] w (RetM (mV (.bool (decide (ps=qs)))) O w):=by
 refine st_start 27 Tryz.func99 [(mSl 3 (lC ps (k))),(mSl 3 (lC qs (m)))] ⟨pf0,pf1,trivial⟩ ho fun a S=>?_
 refine wp_seq ?_
 refine st_seq S 0 [] [(false,0),(false,1)] trivial (L':=[(0,?_),(1,?_)]) ?_ fun a1 w2 S3=>?_
 rotate_left 2
 · rfl
 refine t_asgC S3 fun a5 S6=>?_
 refine wpList_nil (then_normal ?_)
 refine wp_seq ?_
 refine wp_seq ?_
 refine st_seq S6 5 [?_,?_,?_,?_,?_] [(true,4),(false,0),(false,1),(false,2)] ⟨?_,?_,?_,?_,?_,trivial⟩ (L':=[(10,?_),(4,?_),(0,?_),(1,?_)]) ?_ fun a7 w8 S9=>?_
 rotate_left 9
 · exact opP S6.r fun c=>⟨_,run_move rfl,(c.o 1 rfl)⟩
 · exact opV S6.r fun c=>len_L ps.length Tryz.underlying36 (c.h 0 rfl) (lC_len _ _)
 · exact opP S6.r fun c=>⟨_,run_move rfl,(c.o 2 rfl)⟩
 · exact opV S6.r fun c=>len_L qs.length Tryz.underlying36 (c.h 0 rfl) (lC_len _ _)
 · exact opV S6.r fun c=>run_neq rfl (c.e 0 rfl) (c.e 1 rfl)
 · rfl
 refine wpList_nil (then_normal ?_)
 refine cond_b _ (ev (S9.sl 0 rfl)) (fun hb11=>?_) (fun hb11=>?_)
 ·have hb11p:=of_decide_eq_true hb11
  refine wp_seq ?_
  refine st_seq S9 0 [] [(false,1),(false,2),(false,3)] trivial (L':=[(4,?_),(0,?_),(1,?_)]) ?_ fun a12 w13 S14=>?_
  rotate_left 3
  · rfl
  refine t_asgC S14 fun a16 S17=>?_
  refine wpList_nil (then_normal ?_)
  refine wp_ret ?_
  exact st_endT S17 0 rfl fun v h=>h.trans (by rw [sml_len hb11])
 ·have hb11p:=of_decide_eq_false hb11
  have hlq:=of_decide_eq_false hb11
  refine wp_skip (then_normal ?_)
  refine wp_seq ?_
  refine wp_seq ?_
  refine st_seq S9 0 [] [(false,1),(false,2),(false,3)] trivial (L':=[(4,?_),(0,?_),(1,?_)]) ?_ fun a18 w19 S20=>?_
  rotate_left 3
  · rfl
  refine t_asgC S20 fun a22 S23=>?_
  refine wpList_nil (then_normal ?_)
  refine wp_block ?_
  refine st_loop (τ:=Nat) (fun i=>[(5,(mV (.int .i64 ((i:Nat):Int)))),(4,(mV (.bool (false)))),(0,(mSl 3 (lC ps (k)))),(1,(mSl 3 (lC qs (m))))]) (fun i=>[]) (fun i=>i≤ps.length∧∀ t:Nat,t < i→ps.getD t 0=qs.getD t 0) (fun i=>ps.length - i) 0 ⟨Nat.zero_le _,fun t ht=>absurd ht (Nat.not_lt_zero t)⟩ (S23.toX ⟨S23.sl 0 rfl,S23.sl 1 rfl,S23.sl 2 rfl,S23.sl 3 rfl,trivial⟩ trivial) ?_
  rintro i O a26 w27 hp28 S29
  try dsimp only at hp28 S29
  have hi1:=hp28.1
  refine wp_seq ?_
  refine wp_seq ?_
  refine st_seq S29 4 [?_,?_,?_,?_] [(true,3),(false,0),(false,1),(false,2),(false,3)] ⟨?_,?_,?_,?_,trivial⟩ (L':=[(14,?_),(5,?_),(4,?_),(0,?_),(1,?_)]) ?_ fun a30 w31 S32=>?_
  rotate_left 9
  · exact opV S29.r fun c=>run_v (run_move rfl) (c.q 0 rfl)
  · exact opP S29.r fun c=>⟨_,run_move rfl,(c.o 2 rfl)⟩
  · exact opV S29.r fun c=>len_L ps.length Tryz.underlying36 (c.h 0 rfl) (lC_len _ _)
  · exact opV S29.r fun c=>run_lss rfl (c.e 0 rfl) (c.e 1 rfl)
  · rfl
  refine wpList_nil (then_normal ?_)
  refine cond_b _ (ev (S32.sl 0 rfl)) (fun hb34=>?_) (fun hb34=>?_)
  ·have hb34p:=of_decide_eq_true hb34
   refine wp_skip (then_normal ?_)
   refine wp_seq ?_
   refine wp_block ?_
   refine wp_seq ?_
   refine st_mono S32 10 [?_,?_,?_,?_,?_,?_,?_,?_,?_,?_] [(true,9),(false,1),(false,2),(false,3),(false,4)] ⟨?_,?_,?_,?_,?_,?_,?_,?_,?_,?_,trivial⟩ (L':=[(26,?_),(5,?_),(4,?_),(0,?_),(1,?_)]) ?_ fun a35 w36 S37=>?_
   rotate_left 15
   · exact opP S32.r fun c=>⟨_,run_move rfl,(c.o 3 rfl)⟩
   · exact opV S32.r fun c=>run_v (run_move rfl) (c.q 1 rfl)
   · exact opP S32.r fun c=>ix_sl Tryz.underlying36 infoRz (c.h 0 rfl) (c.e 1 rfl) (i:=i) (by omega) (lC_get (by omega))
   · exact opP S32.r fun c=>ld_pt (c.h 0 rfl) Tryz.underlying26 info_Rat
   · exact opP S32.r fun c=>⟨_,run_move rfl,(c.o 4 rfl)⟩
   · exact opV S32.r fun c=>run_v (run_move rfl) (c.q 1 rfl)
   · exact opP S32.r fun c=>ix_sl Tryz.underlying36 infoRz (c.h 0 rfl) (c.e 1 rfl) (i:=i) (by omega) (lC_get (by omega))
   · exact opP S32.r fun c=>ld_pt (c.h 0 rfl) Tryz.underlying26 info_Rat
   · exact opC S32.r rfl fun c B=>⟨_,args_2 rfl rfl,(r_same (isC.k (c.h 0 rfl)) (c.h 1 rfl))⟩
   · exact opV S32.r fun c=>run_not rfl (c.e 0 rfl)
   · rfl
   refine wpList_nil (then_normal ?_)
   refine cond_b _ (ev (S37.sl 0 rfl)) (fun hb39=>?_) (fun hb39=>?_)
   ·refine wp_seq ?_
    refine st_seq S37 0 [] [(false,1),(false,2),(false,3),(false,4)] trivial (L':=[(5,?_),(4,?_),(0,?_),(1,?_)]) ?_ fun a40 w41 S42=>?_
    rotate_left 4
    · rfl
    refine t_asgC S42 fun a44 S45=>?_
    refine wpList_nil (then_normal ?_)
    refine wp_ret ?_
    exact st_endT S45 0 rfl fun v h=>h.trans (by rw [sml_ne hb39])
   ·refine wp_skip (in_normal (then_normal ?_))
    refine st_seq S37 2 [?_,?_] [(true,1),(false,1),(false,2),(false,3),(false,4)] ⟨?_,?_,trivial⟩ (L':=[(16,?_),(5,?_),(4,?_),(0,?_),(1,?_)]) ?_ fun a46 w47 S48=>?_
    rotate_left 7
    · exact opV S37.r fun c=>run_v (run_move rfl) (c.q 1 rfl)
    · exact opV S37.r fun c=>run_add rfl (c.e 0 rfl) rfl (by omega) (by omega)
    · rfl
    refine t_asg S48 0 fun a50 S51=>?_
    refine wpList_nil (then_normal ?_)
    exact ⟨i + 1,(by first | omega | (dsimp only; omega)),(sml_next hp28 (by omega) hb39),_,S51.toX ⟨(S51.sl 0 rfl).trans (by first | rfl | exact congrArg _ (by omega)),S51.sl 2 rfl,S51.sl 3 rfl,S51.sl 4 rfl,trivial⟩ trivial⟩
  ·have hb34p:=of_decide_eq_false hb34
   refine wp_exit ?_
   repeat (first | refine exit_in ?_ | refine exit_then ?_ | refine exit_out (by decide) ?_)
   refine (then_normal ?_)
   refine wp_seq ?_
   refine st_seq S32 0 [] [(false,2)] trivial (L':=[(4,?_)]) ?_ fun a52 w53 S54=>?_
   rotate_left 1
   · rfl
   refine t_asgC S54 fun a56 S57=>?_
   refine wpList_nil (then_normal ?_)
   refine wp_ret ?_
   exact st_endT S57 0 rfl fun v h=>h.trans (by rw [sml_end hb11 hp28 (by omega)])

theorem r5_equal {ps qs:List Rat} {k m:Nat} {v0:Value} {v1:Value} {w:World} {O:Bs} (hn:ps.length≤99999) (hl:qs.length≤99999) (hk:k≤333330000) (hm:m≤333330000) (pf0:(mSl 3 (lC ps (k))).S O w v0) (pf1:(mSl 3 (lC qs (m))).S O w v1) (ho:OB O w) :
    Calls Tryz.prog 29 #[v0,v1] w (RetM (mV (.bool (decide (ps=qs)))) O w):=by
 refine st_start 8 Tryz.func29 [(mSl 3 (lC ps (k))),(mSl 3 (lC qs (m)))] ⟨pf0,pf1,trivial⟩ ho fun a S=>?_
 refine wp_seq ?_
 refine st_seq S 0 [] [(false,0),(false,1)] trivial (L':=[(0,?_),(1,?_)]) ?_ fun a1 w2 S3=>?_
 rotate_left 2
 · rfl
 refine t_asgC S3 fun a5 S6=>?_
 refine wpList_nil (then_normal ?_)
 refine wp_seq ?_
 refine st_seq S6 3 [?_,?_,?_] [(true,2),(false,0)] ⟨?_,?_,?_,trivial⟩ (L':=[(7,?_),(4,?_)]) ?_ fun a7 w8 S9=>?_
 rotate_left 5
 · exact opP S6.r fun c=>⟨_,run_move rfl,(c.o 1 rfl)⟩
 · exact opP S6.r fun c=>⟨_,run_move rfl,(c.o 2 rfl)⟩
 · exact opC S6.r rfl fun c B=>⟨_,args_2 rfl rfl,(r_sameL (by omega) (by omega) (by omega) (by omega) (c.h 0 rfl) (c.h 1 rfl) (S6.obc c.wb))⟩
 · rfl
 refine t_asg S9 0 fun a11 S12=>?_
 refine wpList_nil (then_normal ?_)
 refine wp_ret ?_
 exact st_endT S12 0 rfl fun v h=>h

end Go.Proofs.YtcankknlbljicaaGreatDoor
