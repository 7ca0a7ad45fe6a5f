/-  -/
import Derived.Test.YtcankknlbljicaaGreatDoorYfg

set_option linter.unusedVariables false
set_option linter.unusedSimpArgs false
set_option linter.unusedSectionVars false
set_option maxRecDepth 100000
set_option maxHeartbeats 3200000

namespace Go.Proofs.YtcankknlbljicaaGreatDoor
open Go.RowKit Num

set_option maxRecDepth 100000
set_option maxHeartbeats 2000000
end Go.Proofs.YtcankknlbljicaaGreatDoor

namespace Go.Proofs.YtcankknlbljicaaGreatDoor
open Go.RowKit Num

set_option maxRecDepth 100000
set_option maxHeartbeats 2000000
theorem r5_at {qs:List Rat} {k:Nat} {i:Nat} {v0:Value} {w:World} {O:Bs} (hn:qs.length≤99999) (hk:k≤333330000) (hi:i≤1000000) (pf0:(mSl 3 (lR qs (k))).S O w v0) (ho:OB O w) :
    Calls Tryz.prog 114 #[v0,.int .i64 ((i:Nat):Int)] w (RetM (mC (qs.getD i 0) (k + 2)) O w):=by
 refine st_start 19 Tryz.func114 [(mSl 3 (lR qs (k))),(mV (.int .i64 ((i:Nat):Int)))] ⟨pf0,rfl,trivial⟩ ho fun a S=>?_
 refine wp_seq ?_
 refine st_seq S 0 [] [(false,0),(false,1)] trivial (L':=[(0,?_),(1,?_)]) ?_ fun a1 w2 S3=>?_
 rotate_left 2
 · rfl
 refine t_alloc S3 zero_Rat (fun _ _ _=>bx_Rat) fun O a5 w6 g7 S8=>?_
 refine wpList_nil (then_normal ?_)
 refine wp_seq ?_
 refine wp_seq ?_
 refine st_seq S8 8 [?_,?_,?_,?_,?_,?_,?_,?_] [(true,7),(false,0),(false,1),(false,2)] ⟨?_,?_,?_,?_,?_,?_,?_,?_,trivial⟩ (L':=[(12,?_),(4,?_),(0,?_),(1,?_)]) ?_ fun a9 w10 S11=>?_
 rotate_left 12
 · exact opV S8.r fun c=>run_v (run_move rfl) (c.q 2 rfl)
 · exact opV S8.r fun c=>run_lss rfl (c.e 0 rfl) rfl
 · exact opV S8.r fun c=>run_v (run_move rfl) (c.e 0 rfl)
 · exact opG S8.r 0 (fun hγ=>opV S8.r fun c=>run_v (run_move rfl) (c.q 2 rfl)) gF
 · exact opG S8.r 0 (fun hγ=>opP S8.r fun c=>⟨_,run_move rfl,(c.o 1 rfl)⟩) gF
 · exact opG S8.r 1 (fun hγ=>opV S8.r fun c=>len_L qs.length Tryz.underlying37 (c.h 0 rfl hγ) (lR_len _ _)) gF
 · exact opG S8.r 2 (fun hγ=>opV S8.r fun c=>run_geq rfl (ev (c.h 0 rfl hγ)) (ev (c.h 1 rfl hγ))) gF
 · exact opE S8.r fun c=>⟨_,run_pick rfl (c.e 0 rfl),pick_or fun h=>(c.h 1 rfl) (by rw [h]; rfl)⟩
 · rfl
 refine wpList_nil (then_normal ?_)
 refine cond_b _ (ev (S11.sl 0 rfl)) (fun hb13=>?_) (fun hb13=>?_)
 ·refine wp_seq ?_
  refine st_seq S11 1 [?_] [(true,0),(false,1),(false,2),(false,3)] ⟨?_,trivial⟩ (L':=[(13,?_),(4,?_),(0,?_),(1,?_)]) ?_ fun a14 w15 S16=>?_
  rotate_left 5
  · exact opC S11.r rfl fun c B=>⟨_,args_1 rfl,(r_of (0) (by omega) (by omega))⟩
  · rfl
  refine t_sto S16 1 0 0 rfl isC.cv (fun w18 S19=>?_) info_Rat
  refine wpList_nil (then_normal ?_)
  refine wp_ret ?_
  exact st_end S19 1 0 rfl Tryz.underlying26 info_Rat fun v h=>(isC.mono (isC.of h (at_out hb13)) (by omega))
 ·have hai:=at_in hb13
  refine wp_skip (then_normal ?_)
  refine wp_seq ?_
  refine st_seq S11 5 [?_,?_,?_,?_,?_] [(true,4),(false,1)] ⟨?_,?_,?_,?_,?_,trivial⟩ (L':=[(18,?_),(4,?_)]) ?_ fun a20 w21 S22=>?_
  rotate_left 7
  · exact opP S11.r fun c=>⟨_,run_move rfl,(c.o 2 rfl)⟩
  · exact opV S11.r fun c=>run_v (run_move rfl) (c.q 3 rfl)
  · exact opP S11.r fun c=>ix_sl Tryz.underlying37 infoRz (c.h 0 rfl) (c.e 1 rfl) (i:=i) (by omega) (lR_get (by omega))
  · exact opP S11.r fun c=>ld_pt (c.h 0 rfl) Tryz.underlying26 info_Rat
  · exact opC S11.r rfl fun c B=>⟨_,args_1 rfl,(r_trim (by omega) (c.h 0 rfl))⟩
  · rfl
  refine t_sto S22 1 0 0 rfl isC.cv (fun w24 S25=>?_) info_Rat
  refine wpList_nil (then_normal ?_)
  refine wp_ret ?_
  exact st_end S25 1 0 rfl Tryz.underlying26 info_Rat fun v h=>(isC.mono h (by omega))

theorem r5_add {ps qs:List Rat} {k m:Nat} {v0:Value} {v1:Value} {w:World} {O:Bs} (hn:ps.length≤99999) (hl:qs.length≤99999) (hk:k≤99990000) (hm:m≤99990000) (pf0:(mSl 3 (lR ps (k))).S O w v0) (pf1:(mSl 3 (lR qs (m))).S O w v1) (ho:OB O w) :
    Calls Tryz.prog 43 #[v0,v1] w (RetM (mSl 3 (lC (cutQ (addQ ps qs)) (k + m + 10))) O w):=by
 refine st_start 31 Tryz.func43 [(mSl 3 (lR ps (k))),(mSl 3 (lR qs (m)))] ⟨pf0,pf1,trivial⟩ ho fun a S=>?_
 refine wp_seq ?_
 refine st_seq S 0 [] [(false,0),(false,1)] trivial (L':=[(0,?_),(1,?_)]) ?_ fun a1 w2 S3=>?_
 rotate_left 2
 · rfl
 refine t_asgC S3 fun a5 S6=>?_
 refine wpList_nil (then_normal ?_)
 refine wp_seq ?_
 refine st_seq S6 0 [] [(false,0),(false,1),(false,2)] trivial (L':=[(4,?_),(0,?_),(1,?_)]) ?_ fun a7 w8 S9=>?_
 rotate_left 3
 · rfl
 refine t_asgC S9 fun a11 S12=>?_
 have S13:=S12.nil 26 3
 refine wpList_nil (then_normal ?_)
 refine wp_seq ?_
 refine wp_seq ?_
 refine st_seq S13 0 [] [(false,0),(false,1),(false,2),(false,3)] trivial (L':=[(5,?_),(4,?_),(0,?_),(1,?_)]) ?_ fun a14 w15 S16=>?_
 rotate_left 4
 · rfl
 refine t_asgC S16 fun a18 S19=>?_
 refine wpList_nil (then_normal ?_)
 refine wp_block ?_
 refine st_loop (τ:=Nat × Value) (fun ⟨i,v⟩=>[(6,(mV (.int .i64 ((i:Nat):Int)))),(5,(mV (v))),(4,(mV (.slice none 0 0))),(0,(mSl 3 (lR ps (k)))),(1,(mSl 3 (lR qs (m))))]) (fun ⟨i,v⟩=>[.own v 26 3 (lC ((addQ ps qs).take i) (k + m + 9))]) (fun ⟨i,v⟩=>i≤max ps.length qs.length) (fun ⟨i,v⟩=>max ps.length qs.length - i) (0,.slice none 0 0) (by omega) (S19.toX ⟨S19.sl 0 rfl,S19.sl 1 rfl,S19.sl 2 rfl,S19.sl 3 rfl,S19.sl 4 rfl,trivial⟩ ⟨S19.f 0 rfl,trivial⟩) ?_
 rintro ⟨i,v⟩ O a22 w23 hp24 S25
 try dsimp only at hp24 S25
 have htl:((addQ ps qs).take i).length=i:=by rw [List.length_take,addQ_len]; omega
 refine wp_seq ?_
 refine wp_seq ?_
 refine st_seq S25 10 [?_,?_,?_,?_,?_,?_,?_,?_,?_,?_] [(true,9),(false,0),(false,1),(false,2),(false,3),(false,4)] ⟨?_,?_,?_,?_,?_,?_,?_,?_,?_,?_,trivial⟩ (L':=[(16,?_),(6,?_),(5,?_),(4,?_),(0,?_),(1,?_)]) ?_ fun a26 w27 S28=>?_
 rotate_left 16
 · exact opV S25.r fun c=>run_v (run_move rfl) (c.q 0 rfl)
 · exact opP S25.r fun c=>⟨_,run_move rfl,(c.o 3 rfl)⟩
 · exact opV S25.r fun c=>len_L ps.length Tryz.underlying37 (c.h 0 rfl) (lR_len _ _)
 · exact opV S25.r fun c=>run_lss rfl (c.e 0 rfl) (c.e 1 rfl)
 · exact opV S25.r fun c=>run_v (run_move rfl) (c.e 0 rfl)
 · exact opG S25.r 0 (fun hγ=>opV S25.r fun c=>run_v (run_move rfl) (c.q 0 rfl)) gF
 · exact opG S25.r 0 (fun hγ=>opP S25.r fun c=>⟨_,run_move rfl,(c.o 4 rfl)⟩) gF
 · exact opG S25.r 1 (fun hγ=>opV S25.r fun c=>len_L qs.length Tryz.underlying37 (c.h 0 rfl hγ) (lR_len _ _)) gF
 · exact opG S25.r 2 (fun hγ=>opV S25.r fun c=>run_lss rfl (ev (c.h 0 rfl hγ)) (ev (c.h 1 rfl hγ))) gF
 · exact opE S25.r fun c=>⟨_,run_pick rfl (c.e 0 rfl),pick_or fun h=>(c.h 1 rfl) (by rw [h]; rfl)⟩
 · rfl
 refine wpList_nil (then_normal ?_)
 refine cond_b _ (ev (S28.sl 0 rfl)) (fun hb30=>?_) (fun hb30=>?_)
 ·have hmx:=or_lt_t hb30
  refine wp_skip (then_normal ?_)
  refine wp_seq ?_
  refine wp_block ?_
  refine st_seq S28 9 [?_,?_,?_,?_,?_,?_,?_,?_,?_] [(true,0),(true,8),(false,1),(false,2),(false,3),(false,4),(false,5)] ⟨?_,?_,?_,?_,?_,?_,?_,?_,?_,trivial⟩ (L':=[(19,?_),(27,?_),(6,?_),(5,?_),(4,?_),(0,?_),(1,?_)]) ?_ fun a31 w32 S33=>?_
  rotate_left 16
  · exact opV S28.r fun c=>run_v (run_move rfl) (c.q 2 rfl)
  · exact opP S28.r fun c=>⟨_,run_move rfl,(c.o 4 rfl)⟩
  · exact opV S28.r fun c=>run_v (run_move rfl) (c.q 1 rfl)
  · exact opC S28.r rfl fun c B=>⟨_,args_2 rfl (c.e 1 rfl),(r5_at (i:=i) (by omega) (by omega) (by omega) (c.h 0 rfl) (S28.obc c.wb))⟩
  · exact opP S28.r fun c=>⟨_,run_move rfl,(c.o 5 rfl)⟩
  · exact opV S28.r fun c=>run_v (run_move rfl) (c.q 1 rfl)
  · exact opC S28.r rfl fun c B=>⟨_,args_2 rfl (c.e 1 rfl),(r5_at (i:=i) (by omega) (by omega) (by omega) (c.h 0 rfl) (S28.obc c.wb))⟩
  · exact opC S28.r rfl fun c B=>⟨_,args_2 rfl rfl,(r_add (by omega) (by omega) (isC.r (c.h 0 rfl)) (isC.r (c.h 1 rfl)))⟩
  · exact opN S28.r fun c=>lit1C (S28.obc c.wb) (c.h 0 rfl)
  · rfl
  refine t_appQ S33 0 0 rfl rfl (slC_mono ((S33.sl 1 rfl)) (by omega)) (by simp; omega) fun O a35 w36 v37 S38=>?_
  refine t_asg S38 0 fun a39 S40=>?_
  refine wpList_nil (in_normal (then_normal ?_))
  refine st_seq S40 2 [?_,?_] [(true,1),(false,0),(false,4),(false,5),(false,6),(false,7)] ⟨?_,?_,trivial⟩ (L':=[(18,?_),(5,?_),(6,?_),(4,?_),(0,?_),(1,?_)]) ?_ fun a41 w42 S43=>?_
  rotate_left 8
  · exact opV S40.r fun c=>run_v (run_move rfl) (c.q 4 rfl)
  · exact opV S40.r fun c=>run_add rfl (c.e 0 rfl) rfl (by omega) (by omega)
  · rfl
  refine t_asg S43 0 fun a45 S46=>?_
  refine wpList_nil (then_normal ?_)
  exact ⟨(i + 1,v37),(by first | omega | (dsimp only; omega)),(by first | omega | (dsimp only; omega)),_,S46.toX ⟨(S46.sl 0 rfl).trans (by first | rfl | exact congrArg _ (by omega)),(S46.sl 2 rfl).trans (by first | rfl | exact congrArg _ (by omega)),S46.sl 3 rfl,S46.sl 4 rfl,S46.sl 5 rfl,trivial⟩ ⟨(by rw [← add_snoc hmx]; exact S46.f 0 rfl),trivial⟩⟩
 ·have hmx:=or_lt_f hb30
  refine wp_exit ?_
  repeat (first | refine exit_in ?_ | refine exit_then ?_ | refine exit_out (by decide) ?_)
  refine (then_normal ?_)
  refine wp_seq ?_
  obtain ⟨O,S47⟩:=S28.frz 2 0
  refine st_seq S47 2 [?_,?_] [(true,1),(false,3)] ⟨?_,?_,trivial⟩ (L':=[(30,?_),(4,?_)]) ?_ fun a48 w49 S50=>?_
  rotate_left 4
  · exact opP S47.r fun c=>⟨_,run_move rfl,(c.o 0 rfl)⟩
  · exact opC S47.r rfl fun c B=>⟨_,args_1 rfl,(r5_trim (by omega) (by omega) (slC_r (c.h 0 rfl)) (S47.obc c.wb))⟩
  · rfl
  refine t_asg S50 0 fun a52 S53=>?_
  refine wpList_nil (then_normal ?_)
  refine wp_ret ?_
  exact st_endT S53 0 rfl fun v h=>(by rw [← take_allQ (qs:=addQ ps qs) (i:=i) (by rw [addQ_len]; omega)]; exact slC_mono h (by omega))

theorem r5_scale {qs:List Rat} {k:Nat} {p:Rat} {m:Nat} {v0:Value} {v1:Value} {w:World} {O:Bs} (hn:qs.length≤99999) (hk:k≤99990000) (hm:m≤99990000) (pf0:(mSl 3 (lR qs (k))).S O w v0) (pf1:(mR (p) (m)).S O w v1) (ho:OB O w) :
    Calls Tryz.prog 49 #[v0,v1] w (RetM (mSl 3 (lC (cutQ (qs.map fun q=>q * p)) (k + m + 10))) O w):=by
 refine st_start 23 Tryz.func49 [(mSl 3 (lR qs (k))),(mR (p) (m))] ⟨pf0,pf1,trivial⟩ ho fun a S=>?_
 refine wp_seq ?_
 refine st_seq S 0 [] [(false,0),(false,1)] trivial (L':=[(0,?_),(1,?_)]) ?_ fun a1 w2 S3=>?_
 rotate_left 2
 · rfl
 refine t_box S3 1 rfl isR.cv fun O a5 w6 g7 S8=>?_
 refine t_asgC S8 fun a9 S10=>?_
 refine wpList_nil (then_normal ?_)
 refine wp_seq ?_
 refine st_seq S10 0 [] [(false,0),(false,1),(false,2)] trivial (L':=[(4,?_),(3,?_),(0,?_)]) ?_ fun a11 w12 S13=>?_
 rotate_left 3
 · rfl
 refine t_asgC S13 fun a15 S16=>?_
 have S17:=S16.nil 26 3
 refine wpList_nil (then_normal ?_)
 refine wp_seq ?_
 refine wp_seq ?_
 refine st_seq S17 3 [?_,?_,?_] [(true,0),(true,1),(true,2),(false,0),(false,1),(false,2)] ⟨?_,?_,?_,trivial⟩ (L':=[(8,?_),(9,?_),(10,?_),(5,?_),(4,?_),(3,?_)]) ?_ fun a18 w19 S20=>?_
 rotate_left 9
 · exact opP S17.r fun c=>⟨_,run_move rfl,(c.o 3 rfl)⟩
 · exact opV S17.r fun c=>len_L qs.length Tryz.underlying37 (c.h 0 rfl) (lR_len _ _)
 · exact opV S17.r fun c=>run_moveC rfl
 · rfl
 refine wpList_nil (then_normal ?_)
 refine wp_block ?_
 refine st_loop (τ:=Nat × Value) (fun ⟨i,v⟩=>[(8,(mSl 3 (lR qs (k)))),(9,(mV (.int .i64 ((qs.length:Nat):Int)))),(10,(mV (.int .i64 ((i:Nat):Int)))),(5,(mV (v))),(4,(mV (.slice none 0 0))),(3,(mV (.pointer (some ⟨g7,0,none⟩))))]) (fun ⟨i,v⟩=>[.own v 26 3 (lC ((qs.map fun q=>q * p).take i) (k + m + 9)),.box g7 26 3 (mR (p) (m))]) (fun ⟨i,v⟩=>i≤qs.length) (fun ⟨i,v⟩=>qs.length - i) (0,.slice none 0 0) (by omega) (S20.toX ⟨S20.sl 0 rfl,S20.sl 1 rfl,S20.sl 2 rfl,S20.sl 3 rfl,S20.sl 4 rfl,S20.sl 5 rfl,trivial⟩ ⟨S20.f 0 rfl,S20.f 1 rfl,trivial⟩) ?_
 rintro ⟨i,v⟩ O a24 w25 hp26 S27
 try dsimp only at hp26 S27
 have htl:((qs.map fun q=>q * p).take i).length=i:=by rw [List.length_take,List.length_map]; omega
 refine wp_seq ?_
 refine st_seq S27 1 [?_] [(true,0),(false,0),(false,1),(false,2),(false,3),(false,4),(false,5)] ⟨?_,trivial⟩ (L':=[(11,?_),(8,?_),(9,?_),(10,?_),(5,?_),(4,?_),(3,?_)]) ?_ fun a28 w29 S30=>?_
 rotate_left 8
 · exact opV S27.r fun c=>run_lss rfl (c.q 2 rfl) (c.q 1 rfl)
 · rfl
 refine wpList_nil (then_normal ?_)
 refine wp_seq ?_
 refine cond_b _ (ev (S30.sl 0 rfl)) (fun hb32=>?_) (fun hb32=>?_)
 ·have hb32p:=of_decide_eq_true hb32
  refine wp_skip (then_normal ?_)
  refine wp_seq ?_
  refine wp_block ?_
  refine wp_seq ?_
  refine st_seq S30 2 [?_,?_] [(true,1),(false,1),(false,2),(false,3),(false,4),(false,5),(false,6)] ⟨?_,?_,trivial⟩ (L':=[(13,?_),(8,?_),(9,?_),(10,?_),(5,?_),(4,?_),(3,?_)]) ?_ fun a33 w34 S35=>?_
  rotate_left 9
  · exact opP S30.r fun c=>ix_sl Tryz.underlying37 infoRz (c.o 1 rfl) (c.q 3 rfl) (i:=i) (by omega) (lR_get (by omega))
  · exact opP S30.r fun c=>ld_pt (c.h 0 rfl) Tryz.underlying26 info_Rat
  · rfl
  refine t_alloc S35 zero_Rat (fun _ _ _=>bx_Rat) fun O a37 w38 g39 S40=>?_
  refine t_sto S40 0 1 0 rfl isR.cv (fun w41 S42=>?_) info_Rat
  refine wpList_nil (then_normal ?_)
  refine st_seq S42 5 [?_,?_,?_,?_,?_] [(true,0),(true,4),(false,2),(false,3),(false,4),(false,5),(false,6),(false,7)] ⟨?_,?_,?_,?_,?_,trivial⟩ (L':=[(14,?_),(18,?_),(8,?_),(9,?_),(10,?_),(5,?_),(4,?_),(3,?_)]) ?_ fun a43 w44 S45=>?_
  rotate_left 13
  · exact opV S42.r fun c=>run_v (run_move rfl) (c.q 5 rfl)
  · exact opL S42.r 0 Tryz.underlying26 info_Rat fun c=>(c.q 0 rfl)
  · exact opL S42.r 2 Tryz.underlying26 info_Rat fun c=>(c.q 7 rfl)
  · exact opC S42.r rfl fun c B=>⟨_,args_2 rfl rfl,(r_mul (by omega) (by omega) (c.h 0 rfl) (c.h 1 rfl))⟩
  · exact opN S42.r fun c=>lit1C (S42.obc c.wb) (c.h 0 rfl)
  · rfl
  refine t_appQ S45 0 1 rfl rfl (slC_mono ((S45.sl 1 rfl)) (by omega)) (by simp; omega) fun O a47 w48 v49 S50=>?_
  refine t_asg S50 0 fun a51 S52=>?_
  refine wpList_nil (in_normal (then_normal ?_))
  refine st_seq S52 1 [?_] [(true,0),(false,0),(false,4),(false,5),(false,6),(false,7),(false,8)] ⟨?_,trivial⟩ (L':=[(20,?_),(5,?_),(8,?_),(9,?_),(10,?_),(4,?_),(3,?_)]) ?_ fun a53 w54 S55=>?_
  rotate_left 8
  · exact opV S52.r fun c=>run_add rfl (c.q 6 rfl) rfl (by omega) (by omega)
  · rfl
  refine t_val S55 (run_v (run_move rfl) (S55.e 0 rfl)) fun a57 S58=>?_
  refine wpList_nil (then_normal ?_)
  exact ⟨(i + 1,v49),(by first | omega | (dsimp only; omega)),(by first | omega | (dsimp only; omega)),_,(S58.dropN 1).toX ⟨S58.sl 3 rfl,S58.sl 4 rfl,(S58.sl 0 rfl).trans (by first | rfl | exact congrArg _ (by omega)),(S58.sl 2 rfl).trans (by first | rfl | exact congrArg _ (by omega)),S58.sl 5 rfl,S58.sl 6 rfl,trivial⟩ ⟨(by rw [← map_snoc (by omega)]; exact S58.f 1 rfl),S58.f 2 rfl,trivial⟩⟩
 ·have hb32p:=of_decide_eq_false hb32
  refine wp_exit ?_
  repeat (first | refine exit_in ?_ | refine exit_then ?_ | refine exit_out (by decide) ?_)
  refine (then_normal ?_)
  refine wp_seq ?_
  obtain ⟨O,S59⟩:=S30.frz 4 0
  refine st_seq S59 2 [?_,?_] [(true,1),(false,5)] ⟨?_,?_,trivial⟩ (L':=[(22,?_),(4,?_)]) ?_ fun a60 w61 S62=>?_
  rotate_left 4
  · exact opP S59.r fun c=>⟨_,run_move rfl,(c.o 0 rfl)⟩
  · exact opC S59.r rfl fun c B=>⟨_,args_1 rfl,(r5_trim (by omega) (by omega) (slC_r (c.h 0 rfl)) (S59.obc c.wb))⟩
  · rfl
  refine t_asg S62 0 fun a64 S65=>?_
  refine wpList_nil (then_normal ?_)
  refine wp_ret ?_
  exact st_endT S65 0 rfl fun v h=>(by rw [← take_allQ (qs:=qs.map fun q=>q * p) (i:=i) (by rw [List.length_map]; omega)]; exact slC_mono h (by omega))

end Go.Proofs.YtcankknlbljicaaGreatDoor

namespace Go.Proofs.YtcankknlbljicaaGreatDoor
open Go.RowKit Num

set_option maxRecDepth 100000
set_option maxHeartbeats 2000000
end Go.Proofs.YtcankknlbljicaaGreatDoor

namespace Go.Proofs.YtcankknlbljicaaGreatDoor
open Go.RowKit Num

set_option maxRecDepth 100000
set_option maxHeartbeats 2000000
theorem k_cos (t:Int)  {w:World} {O:Bs} (h1 : -9223372036854775808≤t) (h2:t≤9223372036854775807)  (ho:OB O w) :
    Calls Tryz.prog 127 #[.int .i64 (t)] w (RetM (mC (Rat.divInt (t % 25 - 12) 12) (2)) O w):=by
 refine st_start 7 Tryz.func127 [(mV (.int .i64 (t)))] ⟨rfl,trivial⟩ ho fun a S=>?_
 refine wp_seq ?_
 refine st_seq S 0 [] [(false,0)] trivial (L':=[(0,?_)]) ?_ fun a1 w2 S3=>?_
 rotate_left 1
 · rfl
 refine t_alloc S3 zero_Rat (fun _ _ _=>bx_Rat) fun O a5 w6 g7 S8=>?_
 refine wpList_nil (then_normal ?_)
 refine wp_seq ?_
 refine st_seq S8 4 [?_,?_,?_,?_] [(true,3),(false,0)] ⟨?_,?_,?_,?_,trivial⟩ (L':=[(6,?_),(2,?_)]) ?_ fun a9 w10 S11=>?_
 rotate_left 6
 · exact opV S8.r fun c=>run_v (run_move rfl) (c.q 1 rfl)
 · exact opC S8.r rfl fun c B=>⟨_,args_2 (c.e 0 rfl) rfl,(k_mod (t) (25) (by omega) (by omega) (by omega) (by omega))⟩
 · exact opV S8.r fun c=>run_sub rfl (c.e 0 rfl) rfl (by omega) (by omega)
 · exact opC S8.r rfl fun c B=>⟨_,args_2 (c.e 0 rfl) rfl,(r_frac (((t) % (25)) - (12)) (12) (by omega) (by omega) (by omega) (by omega))⟩
 · rfl
 refine t_sto S11 1 0 0 rfl isC.cv (fun w13 S14=>?_) info_Rat
 refine wpList_nil (then_normal ?_)
 refine wp_ret ?_
 exact st_end S14 1 0 rfl Tryz.underlying26 info_Rat fun v h=>h

end Go.Proofs.YtcankknlbljicaaGreatDoor

namespace Go.Proofs.YtcankknlbljicaaGreatDoor
open Go.RowKit Num

set_option maxRecDepth 100000
set_option maxHeartbeats 2000000
end Go.Proofs.YtcankknlbljicaaGreatDoor
