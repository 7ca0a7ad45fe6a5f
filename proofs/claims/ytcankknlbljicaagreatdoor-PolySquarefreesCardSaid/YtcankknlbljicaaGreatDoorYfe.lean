/-  -/
import Derived.Test.YtcankknlbljicaaGreatDoorYfd

set_option linter.unusedVariables false
set_option linter.unusedSimpArgs false
set_option linter.unusedSectionVars false
set_option maxRecDepth 100000
set_option maxHeartbeats 3200000

namespace Go.Proofs.YtcankknlbljicaaGreatDoor
open Go.RowKit Num

set_option maxRecDepth 100000
set_option maxHeartbeats 2000000
theorem p_divmod {ps qs:List Rat} {k m:Nat} {L K1 KR KE:Nat} {v0:Value} {v1:Value} {w:World} {O:Bs} (hn:ps.length≤L) (hl:qs.length≤L) (hL:L≤999) (hk:k≤9990000) (hm:m≤9990000) (hK1:L * (k + 2) + 2≤K1) (hK2:L * (m + 2) + 2≤K1) (hK:K1≤33330000) (hR:KR≤33330000) (hE:KE≤33330000) (hz1:∀ t l:Nat,t≤(clq ps).length + 1 - (clq qs).length→Sz ((redN (clq ps) (clq qs) t).getD l 0) KR) (hz2:∀ t:Nat,t≤(clq ps).length + 1 - (clq qs).length→Sz (clr ps * (((clq qs).getD ((clq qs).length - 1) 0) ^ t)) KE) (pf0:(mSl 3 (lR ps (k))).S O w v0) (pf1:(mSl 3 (lR qs (m))).S O w v1) (hT:Tb w) (ho:OB O w) :
    Calls Tryz.prog 50 #[v0,v1] w (RetM (mT3 (mSl 3 (lC (dvq ps qs) ((KR + K1 + 3) + (KE + (m + K1 + 3) + 3) + 3))) (mSl 3 (lC (dvr ps qs) (KR + KE + 3))) (mV (.int .i64 (dve qs)))) O w):=by
 refine st_start 75 Tryz.func50 [(mSl 3 (lR ps (k))),(mSl 3 (lR qs (m)))] ⟨pf0,pf1,trivial⟩ ho fun a S=>?_
 have hc1:=clq_len ps
 have hc2:=clq_len qs
 refine wp_seq ?_
 refine st_seq S 0 [] [(false,0),(false,1)] trivial (L':=[(0,?_),(1,?_)]) ?_ fun a1 w2 S3=>?_
 rotate_left 2
 · rfl
 refine t_asgC S3 fun a5 S6=>?_
 refine t_asgC S6 fun a7 S8=>?_
 refine t_asgC S8 fun a9 S10=>?_
 refine wpList_nil (then_normal ?_)
 refine wp_seq ?_
 refine st_seq S10 4 [?_,?_,?_,?_] [(true,1),(true,3),(false,0),(false,1),(false,2)] ⟨?_,?_,?_,?_,trivial⟩ (L':=[(15,?_),(17,?_),(6,?_),(5,?_),(4,?_)]) ?_ fun a11 w12 S13=>?_
 rotate_left 9
 · exact opP S10.r fun c=>⟨_,run_move rfl,(c.o 3 rfl)⟩
 · exact opC S10.r rfl fun c B=>⟨_,args_1 rfl,(p_cleared (L:=L) (K:=K1) (by omega) (by omega) (by omega) (by omega) (by omega) (c.h 0 rfl) (hT.below B) (S10.obc c.wb))⟩
 · exact opP S10.r fun c=>⟨_,run_move rfl,(c.o 4 rfl)⟩
 · exact opC S10.r rfl fun c B=>⟨_,args_1 rfl,(p_cleared (L:=L) (K:=K1) (by omega) (by omega) (by omega) (by omega) (by omega) (c.h 0 rfl) (hT.below B) (S10.obc c.wb))⟩
 · rfl
 refine t_alloc S13 zero_integral (fun _ _ _=>bx_integral) fun O a15 w16 g17 S18=>?_
 refine t_alloc S18 zero_integral (fun _ _ _=>bx_integral) fun O a19 w20 g21 S22=>?_
 refine t_sto S22 1 2 1 rfl (fun h=>(mI_cv (fun _ h=>(isC.cv h)) h)) (fun w23 S24=>?_) info_integral
 refine t_sto S24 0 3 0 rfl (fun h=>(mI_cv (fun _ h=>(isC.cv h)) h)) (fun w25 S26=>?_) info_integral
 refine wpList_nil (then_normal ?_)
 refine wp_seq ?_
 refine st_seq S26 3 [?_,?_,?_] [(true,2),(false,0),(false,1),(false,4),(false,5),(false,6)] ⟨?_,?_,?_,trivial⟩ (L':=[(20,?_),(8,?_),(7,?_),(6,?_),(5,?_),(4,?_)]) ?_ fun a27 w28 S29=>?_
 rotate_left 9
 · exact opV S26.r fun c=>fa_integral_0 rfl (c.q 0 rfl)
 · exact opP S26.r fun c=>ld_I0 (c.bx 0 rfl) (c.e 0 rfl)
 · exact opV S26.r fun c=>len_L ((clq qs).length) Tryz.underlying37 (c.h 0 rfl) (lC_len _ _)
 · rfl
 refine t_asg S29 0 fun a31 S32=>?_
 refine wpList_nil (then_normal ?_)
 refine wp_seq ?_
 refine wp_seq ?_
 refine st_seq S32 2 [?_,?_] [(true,1),(false,0),(false,2),(false,3),(false,4),(false,5),(false,6)] ⟨?_,?_,trivial⟩ (L':=[(22,?_),(9,?_),(8,?_),(7,?_),(6,?_),(5,?_),(4,?_)]) ?_ fun a33 w34 S35=>?_
 rotate_left 9
 · exact opV S32.r fun c=>run_v (run_move rfl) (c.q 0 rfl)
 · exact opV S32.r fun c=>run_eql rfl (c.e 0 rfl) rfl
 · rfl
 refine wpList_nil (then_normal ?_)
 refine cond_b _ (ev (S35.sl 0 rfl)) (fun hb37=>?_) (fun hb37=>?_)
 ·have hb37p:=of_decide_eq_true hb37
  refine wp_seq ?_
  refine st_seq S35 0 [] [(false,1),(false,2),(false,3),(false,4),(false,5),(false,6)] trivial (L':=[(9,?_),(8,?_),(7,?_),(6,?_),(5,?_),(4,?_)]) ?_ fun a38 w39 S40=>?_
  rotate_left 6
  · rfl
  refine t_asgC S40 fun a42 S43=>?_
  refine t_asgC S43 fun a44 S45=>?_
  refine t_asgC S45 fun a46 S47=>?_
  refine wpList_nil (then_normal ?_)
  refine wp_ret ?_
  exact st_end3 S47 2 1 0 rfl rfl rfl (fun _ h=>nil_L (dvq_nil (of_decide_eq_true hb37)) h) (fun _ h=>nil_L (dvr_nil (of_decide_eq_true hb37)) h) (fun _ h=>h.trans (by rw [dve_nil (of_decide_eq_true hb37)]))
 ·have hb37p:=of_decide_eq_false hb37
  have hd1:=of_decide_eq_false hb37
  have hld:=clq_lead (qs:=qs) (by omega)
  refine wp_skip (then_normal ?_)
  refine wp_seq ?_
  refine st_seq S35 6 [?_,?_,?_,?_,?_,?_] [(true,5),(false,1),(false,2),(false,3),(false,4),(false,5),(false,6)] ⟨?_,?_,?_,?_,?_,?_,trivial⟩ (L':=[(28,?_),(9,?_),(8,?_),(7,?_),(6,?_),(5,?_),(4,?_)]) ?_ fun a48 w49 S50=>?_
  rotate_left 13
  · exact opV S35.r fun c=>fa_integral_0 rfl (c.q 2 rfl)
  · exact opP S35.r fun c=>ld_I0 (c.bx 0 rfl) (c.e 0 rfl)
  · exact opV S35.r fun c=>run_v (run_move rfl) (c.q 1 rfl)
  · exact opV S35.r fun c=>run_sub rfl (c.e 0 rfl) rfl (by omega) (by omega)
  · exact opP S35.r fun c=>ix_sl Tryz.underlying37 infoRz (c.h 0 rfl) (c.e 1 rfl) (i:=((clq qs).length) - 1) (by omega) (lC_get (by omega))
  · exact opP S35.r fun c=>ld_pt (c.h 0 rfl) Tryz.underlying26 info_Rat
  · rfl
  refine t_alloc S50 zero_Rat (fun _ _ _=>bx_Rat) fun O a52 w53 g54 S55=>?_
  refine t_sto S55 0 1 0 rfl isC.cv (fun w56 S57=>?_) info_Rat
  refine wpList_nil (then_normal ?_)
  refine wp_seq ?_
  refine st_seq S57 7 [?_,?_,?_,?_,?_,?_,?_] [(true,6),(false,0),(false,2),(false,3),(false,4),(false,5),(false,6),(false,7)] ⟨?_,?_,?_,?_,?_,?_,?_,trivial⟩ (L':=[(35,?_),(10,?_),(9,?_),(8,?_),(7,?_),(6,?_),(5,?_),(4,?_)]) ?_ fun a58 w59 S60=>?_
  rotate_left 15
  · exact opV S57.r fun c=>fa_integral_0 rfl (c.q 4 rfl)
  · exact opP S57.r fun c=>ld_I0 (c.bx 2 rfl) (c.e 0 rfl)
  · exact opV S57.r fun c=>len_L ((clq ps).length) Tryz.underlying37 (c.h 0 rfl) (lC_len _ _)
  · exact opV S57.r fun c=>run_v (run_move rfl) (c.q 2 rfl)
  · exact opV S57.r fun c=>run_sub rfl (c.e 0 rfl) (c.e 1 rfl) (by omega) (by omega)
  · exact opV S57.r fun c=>run_add rfl (c.e 0 rfl) rfl (by omega) (by omega)
  · exact opV S57.r fun c=>run_max0 rfl (c.e 0 rfl) rfl (n:=((clq ps).length) + 1 - ((clq qs).length)) (by omega)
  · rfl
  refine t_makeD S60 (fun l=>mC (quoC ps qs l) ((KR + K1 + 3) + (KE + (m + K1 + 3) + 3) + 3)) (S60.e 0 rfl) (n:=((clq ps).length) + 1 - ((clq qs).length)) (by omega) (by omega) fun O a62 w63 v64 S65=>?_
  refine t_asg S65 0 fun a66 S67=>?_
  refine wpList_nil (then_normal ?_)
  refine wp_seq ?_
  refine wp_seq ?_
  refine st_seq S67 3 [?_,?_,?_] [(true,2),(false,0),(false,3),(false,4),(false,5),(false,6),(false,7),(false,8),(false,9)] ⟨?_,?_,?_,trivial⟩ (L':=[(39,?_),(11,?_),(10,?_),(9,?_),(8,?_),(7,?_),(6,?_),(5,?_),(4,?_)]) ?_ fun a68 w69 S70=>?_
  rotate_left 12
  · exact opV S67.r fun c=>run_v (run_move rfl) (c.q 0 rfl)
  · exact opV S67.r fun c=>len_own (((clq ps).length) + 1 - ((clq qs).length)) Tryz.underlying37 (c.own 0 rfl) (c.e 0 rfl) (rowI_len _ _ _ _)
  · exact opV S67.r fun c=>run_sub rfl (c.e 0 rfl) rfl (by omega) (by omega)
  · rfl
  refine t_asg S70 0 fun a72 S73=>?_
  refine wpList_nil (then_normal ?_)
  refine wp_block ?_
  refine st_loop (τ:=Nat) (fun j=>[(12,(mV (.int .i64 (((j:Nat):Int) - 1)))),(11,(mV (v64))),(10,(mV (.pointer (some ⟨g54,0,none⟩)))),(9,(mV (.int .i64 (((clq qs).length:Nat):Int)))),(8,(mV (.pointer (some ⟨g21,0,none⟩)))),(7,(mV (.pointer (some ⟨g17,0,none⟩)))),(6,(mV (.int .i64 (0)))),(5,(mV (.slice none 0 0))),(4,(mV (.slice none 0 0)))]) (fun j=>[.own v64 26 3 (rowI ((clq ps).length + 1 - (clq qs).length) j (fun _=>mZ) (fun l=>mC (quoC ps qs l) ((KR + K1 + 3) + (KE + (m + K1 + 3) + 3) + 3))),.box g54 26 3 (mC ((clq qs).getD (((clq qs).length) - 1) 0) (m + K1 + 3)),.box g21 102 4 (mI (lC (clq qs) (m + K1 + 3)) (mC (clr qs) (K1))),.box g17 102 4 (mI (lC (redN (clq ps) (clq qs) ((clq ps).length + 1 - (clq qs).length - j)) (KR)) (mC (clr ps * ((clq qs).getD ((clq qs).length - 1) 0) ^ ((clq ps).length + 1 - (clq qs).length - j)) (KE)))]) (fun j=>j≤(clq ps).length + 1 - (clq qs).length) (fun j=>j) ((clq ps).length + 1 - (clq qs).length) (Nat.le_refl _) (S73.toX ⟨S73.sl 0 rfl,S73.sl 2 rfl,S73.sl 3 rfl,S73.sl 4 rfl,S73.sl 5 rfl,S73.sl 6 rfl,S73.sl 7 rfl,S73.sl 8 rfl,S73.sl 9 rfl,trivial⟩ ⟨S73.f 0 rfl,S73.f 1 rfl,S73.f 2 rfl,(bx.imp (fun _ h=>mI_imp (fun _ h=>slC_re (fun l=>by rw [Nat.sub_self]; exact hz1 0 l (Nat.zero_le _)) (by rw [Nat.sub_self]; exact h)) (fun _ h=>isC.re (isC.of h (by rw [Nat.sub_self,Rat.pow_zero,Rat.mul_one])) (by have:=hz2 0 (Nat.zero_le _); rw [Rat.pow_zero,Rat.mul_one] at this; rw [Nat.sub_self,Rat.pow_zero,Rat.mul_one]; exact this)) h) (S73.f 3 rfl)),trivial⟩) ?_
  rintro j O a76 w77 hp78 S79
  try dsimp only at hp78 S79
  have hnl:=redN_len (clq ps) (clq qs) ((clq ps).length + 1 - (clq qs).length - j)
  have hjn:=hp78
  have hnz2:=mul_ne0 (clr_ne ps) (pow_ne0 hld ((clq ps).length + 1 - (clq qs).length - j))
  have hnz:=mul_ne0 hnz2 hld
  refine wp_seq ?_
  refine wp_seq ?_
  refine st_seq S79 2 [?_,?_] [(true,1),(false,0),(false,1),(false,2),(false,3),(false,4),(false,5),(false,6),(false,7),(false,8)] ⟨?_,?_,trivial⟩ (L':=[(41,?_),(12,?_),(11,?_),(10,?_),(9,?_),(8,?_),(7,?_),(6,?_),(5,?_),(4,?_)]) ?_ fun a80 w81 S82=>?_
  rotate_left 12
  · exact opV S79.r fun c=>run_v (run_move rfl) (c.q 0 rfl)
  · exact opV S79.r fun c=>run_geq rfl (c.e 0 rfl) rfl
  · rfl
  refine wpList_nil (then_normal ?_)
  refine cond_b _ (ev (S82.sl 0 rfl)) (fun hb84=>?_) (fun hb84=>?_)
  ·have hb84p:=of_decide_eq_true hb84
   have hj1 : 1≤j:=by have:=of_decide_eq_true hb84; omega
   refine wp_skip (then_normal ?_)
   refine wp_seq ?_
   refine wp_block ?_
   refine wp_seq ?_
   refine st_seq S82 8 [?_,?_,?_,?_,?_,?_,?_,?_] [(true,7),(false,1),(false,2),(false,3),(false,4),(false,5),(false,6),(false,7),(false,8),(false,9)] ⟨?_,?_,?_,?_,?_,?_,?_,?_,trivial⟩ (L':=[(51,?_),(12,?_),(11,?_),(10,?_),(9,?_),(8,?_),(7,?_),(6,?_),(5,?_),(4,?_)]) ?_ fun a85 w86 S87=>?_
   rotate_left 18
   · exact opV S82.r fun c=>fa_integral_0 rfl (c.q 6 rfl)
   · exact opP S82.r fun c=>ld_I0 (c.bx 3 rfl) (c.e 0 rfl)
   · exact opV S82.r fun c=>run_v (run_move rfl) (c.q 1 rfl)
   · exact opV S82.r fun c=>run_v (run_move rfl) (c.q 4 rfl)
   · exact opV S82.r fun c=>run_add rfl (c.e 0 rfl) (c.e 1 rfl) (by omega) (by omega)
   · exact opV S82.r fun c=>run_sub rfl (c.e 0 rfl) rfl (by omega) (by omega)
   · exact opP S82.r fun c=>ix_sl Tryz.underlying37 infoRz (c.h 0 rfl) (c.e 1 rfl) (i:=(j + ((clq qs).length)) - 2) (by omega) (lC_get (by omega))
   · exact opP S82.r fun c=>ld_pt (c.h 0 rfl) Tryz.underlying26 info_Rat
   · rfl
   refine t_alloc S87 zero_Rat (fun _ _ _=>bx_Rat) fun O a89 w90 g91 S92=>?_
   refine t_sto S92 0 1 0 rfl isC.cv (fun w93 S94=>?_) info_Rat
   refine wpList_nil (then_normal ?_)
   refine wp_seq ?_
   refine st_mono S94 10 [?_,?_,?_,?_,?_,?_,?_,?_,?_,?_] [(true,9),(false,0),(false,2),(false,3),(false,4),(false,5),(false,6),(false,7),(false,8),(false,9),(false,10)] ⟨?_,?_,?_,?_,?_,?_,?_,?_,?_,?_,trivial⟩ (L':=[(61,?_),(13,?_),(12,?_),(11,?_),(10,?_),(9,?_),(8,?_),(7,?_),(6,?_),(5,?_),(4,?_)]) ?_ fun a95 w96 S97=>?_
   rotate_left 21
   · exact opV S94.r fun c=>fa_integral_0 rfl (c.q 7 rfl)
   · exact opP S94.r fun c=>ld_I0 (c.bx 4 rfl) (c.e 0 rfl)
   · exact opV S94.r fun c=>fa_integral_0 rfl (c.q 6 rfl)
   · exact opP S94.r fun c=>ld_I0 (c.bx 3 rfl) (c.e 0 rfl)
   · exact opC S94.r rfl fun c B=>⟨_,args_2 rfl rfl,(p_red (by omega) (by omega) (by omega) (by omega) (by omega) (slC_r (c.h 0 rfl)) (slC_r (c.h 1 rfl)) (hT.below B) (S94.obc c.wb))⟩
   · exact opV S94.r fun c=>fa_integral_1 rfl (c.q 7 rfl)
   · exact opP S94.r fun c=>ld_part rfl (c.e 0 rfl) (ld_I1 (c.bx 4 rfl)) Tryz.underlying26 info_Rat
   · exact opL S94.r 2 Tryz.underlying26 info_Rat fun c=>(c.q 4 rfl)
   · exact opC S94.r rfl fun c B=>⟨_,args_2 rfl rfl,(c_mul (by omega) (by omega) (isC.r (c.h 0 rfl)) (isC.r (c.h 1 rfl)) (hT.below B))⟩
   · exact opP S94.r fun c=>bld_I rfl (c.h 0 rfl) (c.h 1 rfl) (isC.cv (c.h 1 rfl))
   · rfl
   refine t_sto S97 7 0 4 rfl (fun h=>(mI_cv (fun _ h=>(isC.cv h)) h)) (fun w99 S100=>?_) info_integral
   refine wpList_nil (then_normal ?_)
   refine st_mono S100 10 [?_,?_,?_,?_,?_,?_,?_,?_,?_,?_] [(true,8),(true,9),(false,2),(false,3),(false,4),(false,5),(false,6),(false,7),(false,8),(false,9),(false,10)] ⟨?_,?_,?_,?_,?_,?_,?_,?_,?_,?_,trivial⟩ (L':=[(70,?_),(71,?_),(12,?_),(11,?_),(10,?_),(9,?_),(8,?_),(7,?_),(6,?_),(5,?_),(4,?_)]) ?_ fun a101 w102 S103=>?_
   rotate_left 21
   · exact opV S100.r fun c=>run_v (run_move rfl) (c.q 3 rfl)
   · exact opV S100.r fun c=>run_v (run_move rfl) (c.q 2 rfl)
   · exact opL S100.r 0 Tryz.underlying26 info_Rat fun c=>(c.q 1 rfl)
   · exact opV S100.r fun c=>fa_integral_1 rfl (c.q 6 rfl)
   · exact opP S100.r fun c=>ld_part rfl (c.e 0 rfl) (ld_I1 (c.bx 3 rfl)) Tryz.underlying26 info_Rat
   · exact opC S100.r rfl fun c B=>⟨_,args_2 rfl rfl,(c_mul (by omega) (by omega) (isC.r (c.h 0 rfl)) (isC.r (c.h 1 rfl)) (hT.below B))⟩
   · exact opV S100.r fun c=>fa_integral_1 rfl (c.q 7 rfl)
   · exact opP S100.r fun c=>ld_part rfl (c.e 0 rfl) (ld_I1 (c.bx 4 rfl)) Tryz.underlying26 info_Rat
   · exact opC S100.r rfl fun c B=>⟨_,args_2 rfl rfl,(p_ratio (by omega) (by omega) (by assumption) (isC.r (c.h 0 rfl)) (isC.r (c.h 1 rfl)) (hT.below B) (S100.obc c.wb))⟩
   · exact opV S100.r fun c=>ix_own Tryz.underlying37 infoRz (c.own 1 rfl) (c.e 0 rfl) (c.e 1 rfl) (i:=j - 1) (by omega) (by rw [rowI_len]; omega)
   · rfl
   refine t_stoD S103 1 0 1 rfl rfl rfl (by omega) (by omega) isC.cv (fun _ _ h=>(isC.of (isC.mono h (by omega)) (quoC_of hj1 hjn))) fun w105 S106=>?_
   refine wpList_nil (in_normal (then_normal ?_))
   refine st_seq S106 2 [?_,?_] [(true,1),(false,2),(false,3),(false,4),(false,5),(false,6),(false,7),(false,8),(false,9),(false,10)] ⟨?_,?_,trivial⟩ (L':=[(43,?_),(12,?_),(11,?_),(10,?_),(9,?_),(8,?_),(7,?_),(6,?_),(5,?_),(4,?_)]) ?_ fun a107 w108 S109=>?_
   rotate_left 12
   · exact opV S106.r fun c=>run_v (run_move rfl) (c.q 2 rfl)
   · exact opV S106.r fun c=>run_sub rfl (c.e 0 rfl) rfl (by omega) (by omega)
   · rfl
   refine t_asg S109 0 fun a111 S112=>?_
   refine wpList_nil (then_normal ?_)
   exact ⟨j - 1,(by first | omega | (dsimp only; omega)),(by first | omega | (dsimp only; omega)),_,(S112.dropN 1).toX ⟨(S112.sl 0 rfl).trans (by first | rfl | exact congrArg _ (by omega)),S112.sl 2 rfl,S112.sl 3 rfl,S112.sl 4 rfl,S112.sl 5 rfl,S112.sl 6 rfl,S112.sl 7 rfl,S112.sl 8 rfl,S112.sl 9 rfl,trivial⟩ ⟨S112.f 1 rfl,S112.f 2 rfl,S112.f 3 rfl,(bx.imp (fun _ h=>mI_imp (fun _ h=>slC_re (fun l=>hz1 _ l (by omega)) (by rw [dm_sub hj1 hp78]; exact h)) (fun _ h=>isC.re (isC.of h (by rw [dm_sub hj1 hp78,Rat.pow_succ,Rat.mul_assoc])) (hz2 _ (by omega))) h) (S112.f 4 rfl)),trivial⟩⟩
  ·have hb84p:=of_decide_eq_false hb84
   refine wp_exit ?_
   repeat (first | refine exit_in ?_ | refine exit_then ?_ | refine exit_out (by decide) ?_)
   refine (then_normal ?_)
   refine wp_seq ?_
   obtain ⟨O,S113⟩:=S82.frz 2 0
   refine st_seq S113 3 [?_,?_,?_] [(true,0),(true,2),(false,7),(false,8),(false,9)] ⟨?_,?_,?_,trivial⟩ (L':=[(72,?_),(74,?_),(6,?_),(5,?_),(4,?_)]) ?_ fun a114 w115 S116=>?_
   rotate_left 8
   · exact opP S113.r fun c=>⟨_,run_move rfl,(c.o 0 rfl)⟩
   · exact opL S113.r 2 Tryz.underlying102 info_integral fun c=>(c.q 6 rfl)
   · exact opC S113.r rfl fun c B=>⟨_,args_1 rfl,(pi_poly (by omega) (by omega) (by omega) (by assumption) (c.h 0 rfl) (hT.below B) (S113.obc c.wb))⟩
   · rfl
   refine t_asg S116 0 fun a118 S119=>?_
   refine t_asg S119 2 fun a120 S121=>?_
   refine t_asgC S121 fun a122 S123=>?_
   refine wpList_nil (then_normal ?_)
   refine wp_ret ?_
   exact st_end3 S123 2 1 0 rfl rfl rfl (fun _ h=>rowD_end (by omega) (dvq_len hd1) (fun l hl=>dvq_get hd1 hl) h) (fun _ h=>(by rw [dvr_eq (j:=j) hd1 (by omega)]; exact h)) (fun _ h=>h.trans (by rw [dve_ok hd1]))
end Go.Proofs.YtcankknlbljicaaGreatDoor

namespace Go.Proofs.YtcankknlbljicaaGreatDoor
open Go.RowKit Num

set_option maxRecDepth 100000
set_option maxHeartbeats 2000000
theorem p_gcd {ps qs:List Rat} {k m:Nat} {L K1 K:Nat} {v0:Value} {v1:Value} {w:World} {O:Bs} (hn:ps.length≤L) (hl:qs.length≤L) (hL:L≤999) (hk:k≤9990000) (hm:m≤9990000) (hK1:L * (k + k + 3 + 2) + 2≤K1) (hK2:L * (m + m + 3 + 2) + 2≤K1) (hK:K1≤33330000) (h2 : 2≤K) (hK3:K≤99990000) (hz:∀ P Q l c,GI ps qs P Q l c→GZ P Q l c K) (pf0:(mSl 3 (lR ps (k))).S O w v0) (pf1:(mSl 3 (lR qs (m))).S O w v1) (hT:Tb w) (ho:OB O w) :
    Calls Tryz.prog 52 #[v0,v1] w (RetM (mSl 3 (lC (gcdP ps qs) (K + K + 3))) O w):=by
 refine st_start 59 Tryz.func52 [(mSl 3 (lR ps (k))),(mSl 3 (lR qs (m)))] ⟨pf0,pf1,trivial⟩ ho fun a S=>?_
 have hc1:=primP_len ps
 have hc2:=primP_len qs
 refine wp_seq ?_
 refine st_seq S 0 [] [(false,0),(false,1)] trivial (L':=[(0,?_),(1,?_)]) ?_ fun a1 w2 S3=>?_
 rotate_left 2
 · rfl
 refine t_asgC S3 fun a5 S6=>?_
 refine wpList_nil (then_normal ?_)
 refine wp_seq ?_
 refine st_seq S6 4 [?_,?_,?_,?_] [(true,1),(true,3),(false,0),(false,1),(false,2)] ⟨?_,?_,?_,?_,trivial⟩ (L':=[(10,?_),(12,?_),(4,?_),(0,?_),(1,?_)]) ?_ fun a7 w8 S9=>?_
 rotate_left 9
 · exact opP S6.r fun c=>⟨_,run_move rfl,(c.o 1 rfl)⟩
 · exact opC S6.r rfl fun c B=>⟨_,args_1 rfl,(p_prim (L:=L) (K:=K1) (by omega) (by omega) (by omega) (by omega) (by omega) (c.h 0 rfl) (hT.below B) (S6.obc c.wb))⟩
 · exact opP S6.r fun c=>⟨_,run_move rfl,(c.o 2 rfl)⟩
 · exact opC S6.r rfl fun c B=>⟨_,args_1 rfl,(p_prim (L:=L) (K:=K1) (by omega) (by omega) (by omega) (by omega) (by omega) (c.h 0 rfl) (hT.below B) (S6.obc c.wb))⟩
 · rfl
 refine t_asg S9 0 fun a11 S12=>?_
 refine t_asg S12 2 fun a13 S14=>?_
 refine wpList_nil (then_normal ?_)
 refine wp_seq ?_
 refine wp_seq ?_
 refine st_seq S14 5 [?_,?_,?_,?_,?_] [(true,4),(false,0),(false,1),(false,4)] ⟨?_,?_,?_,?_,?_,trivial⟩ (L':=[(17,?_),(1,?_),(0,?_),(4,?_)]) ?_ fun a15 w16 S17=>?_
 rotate_left 9
 · exact opP S14.r fun c=>⟨_,run_move rfl,(c.o 1 rfl)⟩
 · exact opV S14.r fun c=>len_L ((primP ps).length) Tryz.underlying37 (c.h 0 rfl) (lC_len _ _)
 · exact opP S14.r fun c=>⟨_,run_move rfl,(c.o 0 rfl)⟩
 · exact opV S14.r fun c=>len_L ((primP qs).length) Tryz.underlying37 (c.h 0 rfl) (lC_len _ _)
 · exact opV S14.r fun c=>run_lss rfl (c.e 0 rfl) (c.e 1 rfl)
 · rfl
 refine wpList_nil (then_normal ?_)
 refine cond_b _ (ev (S17.sl 0 rfl)) (fun hb19=>?_) (fun hb19=>?_)
 ·have hb19p:=of_decide_eq_true hb19
  refine st_seq S17 2 [?_,?_] [(true,0),(true,1),(false,1),(false,2),(false,3)] ⟨?_,?_,trivial⟩ (L':=[(18,?_),(19,?_),(1,?_),(0,?_),(4,?_)]) ?_ fun a20 w21 S22=>?_
  rotate_left 7
  · exact opP S17.r fun c=>⟨_,run_move rfl,(c.o 1 rfl)⟩
  · exact opP S17.r fun c=>⟨_,run_move rfl,(c.o 2 rfl)⟩
  · rfl
  refine t_asg S22 0 fun a24 S25=>?_
  refine t_asg S25 2 fun a26 S27=>?_
  refine wpList_nil (then_normal ?_)
  refine wp_seq ?_
  refine st_seq S27 2 [?_,?_] [(true,0),(true,1),(false,0),(false,1),(false,4)] ⟨?_,?_,trivial⟩ (L':=[(20,?_),(21,?_),(1,?_),(0,?_),(4,?_)]) ?_ fun a28 w29 S30=>?_
  rotate_left 7
  · exact opC S27.r rfl fun c B=>⟨_,args_0,(p_one (S27.obc c.wb))⟩
  · exact opC S27.r rfl fun c B=>⟨_,args_0,(p_one (S27.obc c.wb))⟩
  · rfl
  refine t_alloc S30 zero_Rat (fun _ _ _=>bx_Rat) fun O a32 w33 g34 S35=>?_
  refine t_alloc S35 zero_Rat (fun _ _ _=>bx_Rat) fun O a36 w37 g38 S39=>?_
  refine t_sto S39 1 2 1 rfl isC.cv (fun w40 S41=>?_) info_Rat
  refine t_sto S41 0 3 0 rfl isC.cv (fun w42 S43=>?_) info_Rat
  refine wpList_nil (then_normal ?_)
  refine wp_seq ?_
  refine wp_block ?_
  refine st_loop (τ:=List Rat × List Rat × Rat × Rat) (fun ⟨P,Q,l,c⟩=>[(6,(mV (.pointer (some ⟨g38,0,none⟩)))),(5,(mV (.pointer (some ⟨g34,0,none⟩)))),(1,(mSl 3 (lC Q (K)))),(0,(mSl 3 (lC P (K)))),(4,(mV (.slice none 0 0)))]) (fun ⟨P,Q,l,c⟩=>[.box g38 26 3 (mC (c) (K)),.box g34 26 3 (mC (l) (K))]) (fun ⟨P,Q,l,c⟩=>GI ps qs P Q l c) (fun ⟨P,Q,l,c⟩=>Q.length) (primP qs,primP ps,((1:Int):Rat),((1:Int):Rat)) (GI.init_t ps qs (of_decide_eq_true hb19)) (S43.toX ⟨S43.sl 0 rfl,S43.sl 1 rfl,(slC_re (hz _ _ _ _ (GI.init_t ps qs (of_decide_eq_true hb19))).q (S43.sl 4 rfl)),(slC_re (hz _ _ _ _ (GI.init_t ps qs (of_decide_eq_true hb19))).p (S43.sl 5 rfl)),S43.sl 6 rfl,trivial⟩ ⟨(bx.imp (fun _ h=>isC.mono h (by omega)) (S43.f 0 rfl)),(bx.imp (fun _ h=>isC.mono h (by omega)) (S43.f 1 rfl)),trivial⟩) ?_
  rintro ⟨P,Q,l,c⟩ O a46 w47 hp48 S49
  try dsimp only at hp48 S49
  have hg:=hz _ _ _ _ hp48
  have hgl:=(hp48).le
  have hgn:=(hp48).len
  have hrl:=remQ_len P Q
  refine wp_seq ?_
  refine wp_seq ?_
  refine st_seq S49 3 [?_,?_,?_] [(true,2),(false,0),(false,1),(false,2),(false,3),(false,4)] ⟨?_,?_,?_,trivial⟩ (L':=[(24,?_),(6,?_),(5,?_),(1,?_),(0,?_),(4,?_)]) ?_ fun a50 w51 S52=>?_
  rotate_left 9
  · exact opP S49.r fun c=>⟨_,run_move rfl,(c.o 2 rfl)⟩
  · exact opV S49.r fun c=>len_L Q.length Tryz.underlying37 (c.h 0 rfl) (lC_len _ _)
  · exact opV S49.r fun c=>run_gtr rfl (c.e 0 rfl) rfl
  · rfl
  refine wpList_nil (then_normal ?_)
  refine cond_b _ (ev (S52.sl 0 rfl)) (fun hb54=>?_) (fun hb54=>?_)
  ·have hb54p:=of_decide_eq_true hb54
   have hq1 : 0 < Q.length:=by have:=of_decide_eq_true hb54; omega
   have hg:=hg.at hp48 hq1
   refine wp_skip (then_normal ?_)
   refine wp_block ?_
   refine wp_seq ?_
   refine st_seq S52 5 [?_,?_,?_,?_,?_] [(true,4),(false,1),(false,2),(false,3),(false,4),(false,5)] ⟨?_,?_,?_,?_,?_,trivial⟩ (L':=[(29,?_),(6,?_),(5,?_),(1,?_),(0,?_),(4,?_)]) ?_ fun a55 w56 S57=>?_
   rotate_left 11
   · exact opP S52.r fun c=>⟨_,run_move rfl,(c.o 4 rfl)⟩
   · exact opV S52.r fun c=>len_L P.length Tryz.underlying37 (c.h 0 rfl) (lC_len _ _)
   · exact opP S52.r fun c=>⟨_,run_move rfl,(c.o 3 rfl)⟩
   · exact opV S52.r fun c=>len_L Q.length Tryz.underlying37 (c.h 0 rfl) (lC_len _ _)
   · exact opV S52.r fun c=>run_sub rfl (c.e 0 rfl) (c.e 1 rfl) (by omega) (by omega)
   · rfl
   refine t_asg S57 0 fun a59 S60=>?_
   refine wpList_nil (then_normal ?_)
   refine wp_seq ?_
   refine st_mono S60 10 [?_,?_,?_,?_,?_,?_,?_,?_,?_,?_] [(true,9),(false,0),(false,2),(false,3),(false,4),(false,5),(false,6)] ⟨?_,?_,?_,?_,?_,?_,?_,?_,?_,?_,trivial⟩ (L':=[(8,?_),(7,?_),(6,?_),(5,?_),(1,?_),(0,?_),(4,?_)]) ?_ fun a61 w62 S63=>?_
   rotate_left 17
   · exact opP S60.r fun c=>⟨_,run_move rfl,(c.o 5 rfl)⟩
   · exact opP S60.r fun c=>⟨_,run_move rfl,(c.o 4 rfl)⟩
   · exact opC S60.r rfl fun c B=>⟨_,args_2 rfl rfl,(p_rem (K:=K) (by omega) (by omega) (by omega) (by omega) hg.rd (c.h 0 rfl) (c.h 1 rfl) (hT.below B) (S60.obc c.wb))⟩
   · exact opL S60.r 1 Tryz.underlying26 info_Rat fun c=>(c.q 3 rfl)
   · exact opL S60.r 0 Tryz.underlying26 info_Rat fun c=>(c.q 2 rfl)
   · exact opV S60.r fun c=>run_v (run_move rfl) (c.q 0 rfl)
   · exact opC S60.r rfl fun c B=>⟨_,args_2 rfl (intN (n:=P.length - Q.length) (c.e 1 rfl) (by omega)),(p_raised (K:=K) (by omega) (by omega) (by omega) (fun i hi=>hg.pc i (by omega)) (isC.r (c.h 0 rfl)) (hT.below B) (S60.obc c.wb))⟩
   · exact opC S60.r rfl fun c B=>⟨_,args_2 rfl rfl,(c_mul (by omega) (by omega) (isC.r (c.h 0 rfl)) (isC.r (c.h 1 rfl)) (hT.below B))⟩
   · exact opC S60.r rfl fun c B=>⟨_,args_2 rfl rfl,(retL (p_divided (by omega) (by omega) (by omega) (mul_ne0 hg.l0 (pow_ne0 hg.c0 _)) (slC_r (c.h 0 rfl)) (isC.r (c.h 1 rfl)) (hT.below B) (S60.obc c.wb)) (S60.obc c.wb))⟩
   · exact opP S60.r fun c=>⟨_,run_assign rfl,(c.h 0 rfl)⟩
   · rfl
   refine wpList_nil (then_normal ?_)
   refine wp_seq ?_
   refine st_seq S63 2 [?_,?_] [(true,0),(true,1),(false,1),(false,2),(false,3),(false,4),(false,5),(false,6)] ⟨?_,?_,trivial⟩ (L':=[(39,?_),(40,?_),(7,?_),(6,?_),(5,?_),(1,?_),(0,?_),(4,?_)]) ?_ fun a65 w66 S67=>?_
   rotate_left 10
   · exact opP S63.r fun c=>⟨_,run_move rfl,(c.o 4 rfl)⟩
   · exact opP S63.r fun c=>⟨_,run_move rfl,(c.o 0 rfl)⟩
   · rfl
   refine t_asg S67 0 fun a69 S70=>?_
   refine t_asg S70 2 fun a71 S72=>?_
   refine wpList_nil (then_normal ?_)
   refine wp_seq ?_
   refine st_seq S72 6 [?_,?_,?_,?_,?_,?_] [(true,5),(false,0),(false,1),(false,4),(false,5),(false,6),(false,7)] ⟨?_,?_,?_,?_,?_,?_,trivial⟩ (L':=[(46,?_),(1,?_),(0,?_),(7,?_),(6,?_),(5,?_),(4,?_)]) ?_ fun a73 w74 S75=>?_
   rotate_left 13
   · exact opP S72.r fun c=>⟨_,run_move rfl,(c.o 1 rfl)⟩
   · exact opP S72.r fun c=>⟨_,run_move rfl,(c.o 1 rfl)⟩
   · exact opV S72.r fun c=>len_L Q.length Tryz.underlying37 (c.h 0 rfl) (lC_len _ _)
   · exact opV S72.r fun c=>run_sub rfl (c.e 0 rfl) rfl (by omega) (by omega)
   · exact opP S72.r fun c=>ix_sl Tryz.underlying37 infoRz (c.h 0 rfl) (c.e 1 rfl) (i:=Q.length - 1) (by omega) (lC_get (by omega))
   · exact opP S72.r fun c=>ld_pt (c.h 0 rfl) Tryz.underlying26 info_Rat
   · rfl
   refine t_sto S75 5 0 1 rfl isC.cv (fun w77 S78=>?_) info_Rat
   refine wpList_nil (then_normal ?_)
   refine wp_seq ?_
   refine st_seq S78 2 [?_,?_] [(true,1),(false,1),(false,2),(false,3),(false,4),(false,5),(false,6)] ⟨?_,?_,trivial⟩ (L':=[(48,?_),(1,?_),(0,?_),(7,?_),(6,?_),(5,?_),(4,?_)]) ?_ fun a79 w80 S81=>?_
   rotate_left 9
   · exact opV S78.r fun c=>run_v (run_move rfl) (c.q 3 rfl)
   · exact opV S78.r fun c=>run_gtr rfl (c.e 0 rfl) rfl
   · rfl
   refine wpList_nil (then_normal ?_)
   refine cond_b _ (ev (S81.sl 0 rfl)) (fun hb83=>?_) (fun hb83=>?_)
   ·have hb83p:=of_decide_eq_true hb83
    refine st_mono S81 8 [?_,?_,?_,?_,?_,?_,?_,?_] [(true,7),(false,1),(false,2),(false,4),(false,5),(false,6)] ⟨?_,?_,?_,?_,?_,?_,?_,?_,trivial⟩ (L':=[(56,?_),(1,?_),(0,?_),(6,?_),(5,?_),(4,?_)]) ?_ fun a84 w85 S86=>?_
    rotate_left 14
    · exact opL S81.r 1 Tryz.underlying26 info_Rat fun c=>(c.q 5 rfl)
    · exact opV S81.r fun c=>run_v (run_move rfl) (c.q 3 rfl)
    · exact opC S81.r rfl fun c B=>⟨_,args_2 rfl (intN (n:=P.length - Q.length) (c.e 1 rfl) (by omega)),(p_raised (K:=K) (by omega) (by omega) (by omega) (fun i hi=>hg.pl i (by omega)) (isC.r (c.h 0 rfl)) (hT.below B) (S81.obc c.wb))⟩
    · exact opL S81.r 0 Tryz.underlying26 info_Rat fun c=>(c.q 4 rfl)
    · exact opV S81.r fun c=>run_v (run_move rfl) (c.q 3 rfl)
    · exact opV S81.r fun c=>run_sub rfl (c.e 0 rfl) rfl (by omega) (by omega)
    · exact opC S81.r rfl fun c B=>⟨_,args_2 rfl (intN (n:=P.length - Q.length - 1) (c.e 1 rfl) (by omega)),(p_raised (K:=K) (by omega) (by omega) (by omega) (fun i hi=>hg.pc i (by omega)) (isC.r (c.h 0 rfl)) (hT.below B) (S81.obc c.wb))⟩
    · exact opC S81.r rfl fun c B=>⟨_,args_2 rfl rfl,(p_ratio (by omega) (by omega) (pow_ne0 hg.c0 _) (isC.r (c.h 0 rfl)) (isC.r (c.h 1 rfl)) (hT.below B) (S81.obc c.wb))⟩
    · rfl
    refine t_sto S86 3 0 0 rfl isC.cv (fun w88 S89=>?_) info_Rat
    refine wpList_nil (in_normal (then_normal ?_))
    exact ⟨(Q,(cutQ (remQ P Q)).map fun q=>q / (l * (c ^ (P.length - Q.length))),(Q.getD (Q.length - 1) 0),((Q.getD (Q.length - 1) 0) ^ (P.length - Q.length) / c ^ (P.length - Q.length - 1))),(by first | exact GI.less hp48 hq1),(hp48.next_t hq1 (of_decide_eq_true hb83)),_,S89.toX ⟨S89.sl 3 rfl,S89.sl 4 rfl,(slC_re (hz _ _ _ _ (hp48.next_t hq1 (of_decide_eq_true hb83))).q (S89.sl 1 rfl)),S89.sl 2 rfl,S89.sl 5 rfl,trivial⟩ ⟨(bx.imp (fun _ h=>isC.re h (hz _ _ _ _ (hp48.next_t hq1 (of_decide_eq_true hb83))).sc) (S89.f 0 rfl)),(bx.imp (fun _ h=>isC.re h (hz _ _ _ _ (hp48.next_t hq1 (of_decide_eq_true hb83))).sl) (S89.f 1 rfl)),trivial⟩⟩
   ·have hb83p:=of_decide_eq_false hb83
    refine wp_skip (in_normal (then_normal ?_))
    exact ⟨(Q,(cutQ (remQ P Q)).map fun q=>q / (l * (c ^ (P.length - Q.length))),(Q.getD (Q.length - 1) 0),c),(by first | exact GI.less hp48 hq1),(hp48.next_f hq1 (of_decide_eq_false hb83)),_,S81.toX ⟨S81.sl 4 rfl,S81.sl 5 rfl,(slC_re (hz _ _ _ _ (hp48.next_f hq1 (of_decide_eq_false hb83))).q (S81.sl 1 rfl)),S81.sl 2 rfl,S81.sl 6 rfl,trivial⟩ ⟨(bx.imp (fun _ h=>isC.re h (hz _ _ _ _ (hp48.next_f hq1 (of_decide_eq_false hb83))).sc) (S81.f 0 rfl)),(bx.imp (fun _ h=>isC.re h (hz _ _ _ _ (hp48.next_f hq1 (of_decide_eq_false hb83))).sl) (S81.f 1 rfl)),trivial⟩⟩
  ·have hb54p:=of_decide_eq_false hb54
   refine wp_exit ?_
   repeat (first | refine exit_in ?_ | refine exit_then ?_ | refine exit_out (by decide) ?_)
   refine (then_normal ?_)
   refine wp_seq ?_
   refine st_seq S52 2 [?_,?_] [(true,1),(false,5)] ⟨?_,?_,trivial⟩ (L':=[(58,?_),(4,?_)]) ?_ fun a90 w91 S92=>?_
   rotate_left 4
   · exact opP S52.r fun c=>⟨_,run_move rfl,(c.o 4 rfl)⟩
   · exact opC S52.r rfl fun c B=>⟨_,args_1 rfl,(p_monic (by omega) (by omega) (slC_r (c.h 0 rfl)) (hT.below B) (S52.obc c.wb))⟩
   · rfl
   refine t_asg S92 0 fun a94 S95=>?_
   refine wpList_nil (then_normal ?_)
   refine wp_ret ?_
   exact st_endT S95 0 rfl fun v h=>(by rw [hp48.gcd (by omega)]; exact h)
 ·have hb19p:=of_decide_eq_false hb19
  refine wp_skip (then_normal ?_)
  refine wp_seq ?_
  refine st_seq S17 2 [?_,?_] [(true,0),(true,1),(false,1),(false,2),(false,3)] ⟨?_,?_,trivial⟩ (L':=[(20,?_),(21,?_),(1,?_),(0,?_),(4,?_)]) ?_ fun a96 w97 S98=>?_
  rotate_left 7
  · exact opC S17.r rfl fun c B=>⟨_,args_0,(p_one (S17.obc c.wb))⟩
  · exact opC S17.r rfl fun c B=>⟨_,args_0,(p_one (S17.obc c.wb))⟩
  · rfl
  refine t_alloc S98 zero_Rat (fun _ _ _=>bx_Rat) fun O a100 w101 g102 S103=>?_
  refine t_alloc S103 zero_Rat (fun _ _ _=>bx_Rat) fun O a104 w105 g106 S107=>?_
  refine t_sto S107 1 2 1 rfl isC.cv (fun w108 S109=>?_) info_Rat
  refine t_sto S109 0 3 0 rfl isC.cv (fun w110 S111=>?_) info_Rat
  refine wpList_nil (then_normal ?_)
  refine wp_seq ?_
  refine wp_block ?_
  refine st_loop (τ:=List Rat × List Rat × Rat × Rat) (fun ⟨P,Q,l,c⟩=>[(6,(mV (.pointer (some ⟨g106,0,none⟩)))),(5,(mV (.pointer (some ⟨g102,0,none⟩)))),(1,(mSl 3 (lC Q (K)))),(0,(mSl 3 (lC P (K)))),(4,(mV (.slice none 0 0)))]) (fun ⟨P,Q,l,c⟩=>[.box g106 26 3 (mC (c) (K)),.box g102 26 3 (mC (l) (K))]) (fun ⟨P,Q,l,c⟩=>GI ps qs P Q l c) (fun ⟨P,Q,l,c⟩=>Q.length) (primP ps,primP qs,((1:Int):Rat),((1:Int):Rat)) (GI.init_f ps qs (of_decide_eq_false hb19)) (S111.toX ⟨S111.sl 0 rfl,S111.sl 1 rfl,(slC_re (hz _ _ _ _ (GI.init_f ps qs (of_decide_eq_false hb19))).q (S111.sl 4 rfl)),(slC_re (hz _ _ _ _ (GI.init_f ps qs (of_decide_eq_false hb19))).p (S111.sl 5 rfl)),S111.sl 6 rfl,trivial⟩ ⟨(bx.imp (fun _ h=>isC.mono h (by omega)) (S111.f 0 rfl)),(bx.imp (fun _ h=>isC.mono h (by omega)) (S111.f 1 rfl)),trivial⟩) ?_
  rintro ⟨P,Q,l,c⟩ O a114 w115 hp116 S117
  try dsimp only at hp116 S117
  have hg:=hz _ _ _ _ hp116
  have hgl:=(hp116).le
  have hgn:=(hp116).len
  have hrl:=remQ_len P Q
  refine wp_seq ?_
  refine wp_seq ?_
  refine st_seq S117 3 [?_,?_,?_] [(true,2),(false,0),(false,1),(false,2),(false,3),(false,4)] ⟨?_,?_,?_,trivial⟩ (L':=[(24,?_),(6,?_),(5,?_),(1,?_),(0,?_),(4,?_)]) ?_ fun a118 w119 S120=>?_
  rotate_left 9
  · exact opP S117.r fun c=>⟨_,run_move rfl,(c.o 2 rfl)⟩
  · exact opV S117.r fun c=>len_L Q.length Tryz.underlying37 (c.h 0 rfl) (lC_len _ _)
  · exact opV S117.r fun c=>run_gtr rfl (c.e 0 rfl) rfl
  · rfl
  refine wpList_nil (then_normal ?_)
  refine cond_b _ (ev (S120.sl 0 rfl)) (fun hb122=>?_) (fun hb122=>?_)
  ·have hb122p:=of_decide_eq_true hb122
   have hq1 : 0 < Q.length:=by have:=of_decide_eq_true hb122; omega
   have hg:=hg.at hp116 hq1
   refine wp_skip (then_normal ?_)
   refine wp_block ?_
   refine wp_seq ?_
   refine st_seq S120 5 [?_,?_,?_,?_,?_] [(true,4),(false,1),(false,2),(false,3),(false,4),(false,5)] ⟨?_,?_,?_,?_,?_,trivial⟩ (L':=[(29,?_),(6,?_),(5,?_),(1,?_),(0,?_),(4,?_)]) ?_ fun a123 w124 S125=>?_
   rotate_left 11
   · exact opP S120.r fun c=>⟨_,run_move rfl,(c.o 4 rfl)⟩
   · exact opV S120.r fun c=>len_L P.length Tryz.underlying37 (c.h 0 rfl) (lC_len _ _)
   · exact opP S120.r fun c=>⟨_,run_move rfl,(c.o 3 rfl)⟩
   · exact opV S120.r fun c=>len_L Q.length Tryz.underlying37 (c.h 0 rfl) (lC_len _ _)
   · exact opV S120.r fun c=>run_sub rfl (c.e 0 rfl) (c.e 1 rfl) (by omega) (by omega)
   · rfl
   refine t_asg S125 0 fun a127 S128=>?_
   refine wpList_nil (then_normal ?_)
   refine wp_seq ?_
   refine st_mono S128 10 [?_,?_,?_,?_,?_,?_,?_,?_,?_,?_] [(true,9),(false,0),(false,2),(false,3),(false,4),(false,5),(false,6)] ⟨?_,?_,?_,?_,?_,?_,?_,?_,?_,?_,trivial⟩ (L':=[(8,?_),(7,?_),(6,?_),(5,?_),(1,?_),(0,?_),(4,?_)]) ?_ fun a129 w130 S131=>?_
   rotate_left 17
   · exact opP S128.r fun c=>⟨_,run_move rfl,(c.o 5 rfl)⟩
   · exact opP S128.r fun c=>⟨_,run_move rfl,(c.o 4 rfl)⟩
   · exact opC S128.r rfl fun c B=>⟨_,args_2 rfl rfl,(p_rem (K:=K) (by omega) (by omega) (by omega) (by omega) hg.rd (c.h 0 rfl) (c.h 1 rfl) (hT.below B) (S128.obc c.wb))⟩
   · exact opL S128.r 1 Tryz.underlying26 info_Rat fun c=>(c.q 3 rfl)
   · exact opL S128.r 0 Tryz.underlying26 info_Rat fun c=>(c.q 2 rfl)
   · exact opV S128.r fun c=>run_v (run_move rfl) (c.q 0 rfl)
   · exact opC S128.r rfl fun c B=>⟨_,args_2 rfl (intN (n:=P.length - Q.length) (c.e 1 rfl) (by omega)),(p_raised (K:=K) (by omega) (by omega) (by omega) (fun i hi=>hg.pc i (by omega)) (isC.r (c.h 0 rfl)) (hT.below B) (S128.obc c.wb))⟩
   · exact opC S128.r rfl fun c B=>⟨_,args_2 rfl rfl,(c_mul (by omega) (by omega) (isC.r (c.h 0 rfl)) (isC.r (c.h 1 rfl)) (hT.below B))⟩
   · exact opC S128.r rfl fun c B=>⟨_,args_2 rfl rfl,(retL (p_divided (by omega) (by omega) (by omega) (mul_ne0 hg.l0 (pow_ne0 hg.c0 _)) (slC_r (c.h 0 rfl)) (isC.r (c.h 1 rfl)) (hT.below B) (S128.obc c.wb)) (S128.obc c.wb))⟩
   · exact opP S128.r fun c=>⟨_,run_assign rfl,(c.h 0 rfl)⟩
   · rfl
   refine wpList_nil (then_normal ?_)
   refine wp_seq ?_
   refine st_seq S131 2 [?_,?_] [(true,0),(true,1),(false,1),(false,2),(false,3),(false,4),(false,5),(false,6)] ⟨?_,?_,trivial⟩ (L':=[(39,?_),(40,?_),(7,?_),(6,?_),(5,?_),(1,?_),(0,?_),(4,?_)]) ?_ fun a133 w134 S135=>?_
   rotate_left 10
   · exact opP S131.r fun c=>⟨_,run_move rfl,(c.o 4 rfl)⟩
   · exact opP S131.r fun c=>⟨_,run_move rfl,(c.o 0 rfl)⟩
   · rfl
   refine t_asg S135 0 fun a137 S138=>?_
   refine t_asg S138 2 fun a139 S140=>?_
   refine wpList_nil (then_normal ?_)
   refine wp_seq ?_
   refine st_seq S140 6 [?_,?_,?_,?_,?_,?_] [(true,5),(false,0),(false,1),(false,4),(false,5),(false,6),(false,7)] ⟨?_,?_,?_,?_,?_,?_,trivial⟩ (L':=[(46,?_),(1,?_),(0,?_),(7,?_),(6,?_),(5,?_),(4,?_)]) ?_ fun a141 w142 S143=>?_
   rotate_left 13
   · exact opP S140.r fun c=>⟨_,run_move rfl,(c.o 1 rfl)⟩
   · exact opP S140.r fun c=>⟨_,run_move rfl,(c.o 1 rfl)⟩
   · exact opV S140.r fun c=>len_L Q.length Tryz.underlying37 (c.h 0 rfl) (lC_len _ _)
   · exact opV S140.r fun c=>run_sub rfl (c.e 0 rfl) rfl (by omega) (by omega)
   · exact opP S140.r fun c=>ix_sl Tryz.underlying37 infoRz (c.h 0 rfl) (c.e 1 rfl) (i:=Q.length - 1) (by omega) (lC_get (by omega))
   · exact opP S140.r fun c=>ld_pt (c.h 0 rfl) Tryz.underlying26 info_Rat
   · rfl
   refine t_sto S143 5 0 1 rfl isC.cv (fun w145 S146=>?_) info_Rat
   refine wpList_nil (then_normal ?_)
   refine wp_seq ?_
   refine st_seq S146 2 [?_,?_] [(true,1),(false,1),(false,2),(false,3),(false,4),(false,5),(false,6)] ⟨?_,?_,trivial⟩ (L':=[(48,?_),(1,?_),(0,?_),(7,?_),(6,?_),(5,?_),(4,?_)]) ?_ fun a147 w148 S149=>?_
   rotate_left 9
   · exact opV S146.r fun c=>run_v (run_move rfl) (c.q 3 rfl)
   · exact opV S146.r fun c=>run_gtr rfl (c.e 0 rfl) rfl
   · rfl
   refine wpList_nil (then_normal ?_)
   refine cond_b _ (ev (S149.sl 0 rfl)) (fun hb151=>?_) (fun hb151=>?_)
   ·have hb151p:=of_decide_eq_true hb151
    refine st_mono S149 8 [?_,?_,?_,?_,?_,?_,?_,?_] [(true,7),(false,1),(false,2),(false,4),(false,5),(false,6)] ⟨?_,?_,?_,?_,?_,?_,?_,?_,trivial⟩ (L':=[(56,?_),(1,?_),(0,?_),(6,?_),(5,?_),(4,?_)]) ?_ fun a152 w153 S154=>?_
    rotate_left 14
    · exact opL S149.r 1 Tryz.underlying26 info_Rat fun c=>(c.q 5 rfl)
    · exact opV S149.r fun c=>run_v (run_move rfl) (c.q 3 rfl)
    · exact opC S149.r rfl fun c B=>⟨_,args_2 rfl (intN (n:=P.length - Q.length) (c.e 1 rfl) (by omega)),(p_raised (K:=K) (by omega) (by omega) (by omega) (fun i hi=>hg.pl i (by omega)) (isC.r (c.h 0 rfl)) (hT.below B) (S149.obc c.wb))⟩
    · exact opL S149.r 0 Tryz.underlying26 info_Rat fun c=>(c.q 4 rfl)
    · exact opV S149.r fun c=>run_v (run_move rfl) (c.q 3 rfl)
    · exact opV S149.r fun c=>run_sub rfl (c.e 0 rfl) rfl (by omega) (by omega)
    · exact opC S149.r rfl fun c B=>⟨_,args_2 rfl (intN (n:=P.length - Q.length - 1) (c.e 1 rfl) (by omega)),(p_raised (K:=K) (by omega) (by omega) (by omega) (fun i hi=>hg.pc i (by omega)) (isC.r (c.h 0 rfl)) (hT.below B) (S149.obc c.wb))⟩
    · exact opC S149.r rfl fun c B=>⟨_,args_2 rfl rfl,(p_ratio (by omega) (by omega) (pow_ne0 hg.c0 _) (isC.r (c.h 0 rfl)) (isC.r (c.h 1 rfl)) (hT.below B) (S149.obc c.wb))⟩
    · rfl
    refine t_sto S154 3 0 0 rfl isC.cv (fun w156 S157=>?_) info_Rat
    refine wpList_nil (in_normal (then_normal ?_))
    exact ⟨(Q,(cutQ (remQ P Q)).map fun q=>q / (l * (c ^ (P.length - Q.length))),(Q.getD (Q.length - 1) 0),((Q.getD (Q.length - 1) 0) ^ (P.length - Q.length) / c ^ (P.length - Q.length - 1))),(by first | exact GI.less hp116 hq1),(hp116.next_t hq1 (of_decide_eq_true hb151)),_,S157.toX ⟨S157.sl 3 rfl,S157.sl 4 rfl,(slC_re (hz _ _ _ _ (hp116.next_t hq1 (of_decide_eq_true hb151))).q (S157.sl 1 rfl)),S157.sl 2 rfl,S157.sl 5 rfl,trivial⟩ ⟨(bx.imp (fun _ h=>isC.re h (hz _ _ _ _ (hp116.next_t hq1 (of_decide_eq_true hb151))).sc) (S157.f 0 rfl)),(bx.imp (fun _ h=>isC.re h (hz _ _ _ _ (hp116.next_t hq1 (of_decide_eq_true hb151))).sl) (S157.f 1 rfl)),trivial⟩⟩
   ·have hb151p:=of_decide_eq_false hb151
    refine wp_skip (in_normal (then_normal ?_))
    exact ⟨(Q,(cutQ (remQ P Q)).map fun q=>q / (l * (c ^ (P.length - Q.length))),(Q.getD (Q.length - 1) 0),c),(by first | exact GI.less hp116 hq1),(hp116.next_f hq1 (of_decide_eq_false hb151)),_,S149.toX ⟨S149.sl 4 rfl,S149.sl 5 rfl,(slC_re (hz _ _ _ _ (hp116.next_f hq1 (of_decide_eq_false hb151))).q (S149.sl 1 rfl)),S149.sl 2 rfl,S149.sl 6 rfl,trivial⟩ ⟨(bx.imp (fun _ h=>isC.re h (hz _ _ _ _ (hp116.next_f hq1 (of_decide_eq_false hb151))).sc) (S149.f 0 rfl)),(bx.imp (fun _ h=>isC.re h (hz _ _ _ _ (hp116.next_f hq1 (of_decide_eq_false hb151))).sl) (S149.f 1 rfl)),trivial⟩⟩
  ·have hb122p:=of_decide_eq_false hb122
   refine wp_exit ?_
   repeat (first | refine exit_in ?_ | refine exit_then ?_ | refine exit_out (by decide) ?_)
   refine (then_normal ?_)
   refine wp_seq ?_
   refine st_seq S120 2 [?_,?_] [(true,1),(false,5)] ⟨?_,?_,trivial⟩ (L':=[(58,?_),(4,?_)]) ?_ fun a158 w159 S160=>?_
   rotate_left 4
   · exact opP S120.r fun c=>⟨_,run_move rfl,(c.o 4 rfl)⟩
   · exact opC S120.r rfl fun c B=>⟨_,args_1 rfl,(p_monic (by omega) (by omega) (slC_r (c.h 0 rfl)) (hT.below B) (S120.obc c.wb))⟩
   · rfl
   refine t_asg S160 0 fun a162 S163=>?_
   refine wpList_nil (then_normal ?_)
   refine wp_ret ?_
   exact st_endT S163 0 rfl fun v h=>(by rw [hp116.gcd (by omega)]; exact h)
end Go.Proofs.YtcankknlbljicaaGreatDoor

namespace Go.Proofs.YtcankknlbljicaaGreatDoor
open Go.RowKit Num

set_option maxRecDepth 100000
set_option maxHeartbeats 2000000
theorem p_sqf {ps:List Rat} {k L K1 K K3 KR KE KS:Nat} {v0:Value} {w:World} {O:Bs} (hn:ps.length≤L) (hL:L≤999) (hk:k≤3330000) (hK1:L * (k + k + 3 + 2) + 2≤K1) (hK2:L * (k + 5 + (k + 5) + 3 + 2) + 2≤K1) (hK:K1≤33330000) (h2 : 2≤K) (hk2:K≤3330000) (hz:∀ P Q l c,GI ps (cutQ (derQ ps)) P Q l c→GZ P Q l c K) (hK3:L * (k + 2) + 2≤K3) (hK4:L * (K + K + 3 + 2) + 2≤K3) (hK5:K3≤33330000) (hR:KR≤33330000) (hE:KE≤33330000) (hz1:∀ t l:Nat,t≤(clq ps).length + 1 - (clq (gcdP ps (cutQ (derQ ps)))).length→Sz ((redN (clq ps) (clq (gcdP ps (cutQ (derQ ps)))) t).getD l 0) KR) (hz2:∀ t:Nat,t≤(clq ps).length + 1 - (clq (gcdP ps (cutQ (derQ ps)))).length→Sz (clr ps * (((clq (gcdP ps (cutQ (derQ ps)))).getD ((clq (gcdP ps (cutQ (derQ ps)))).length - 1) 0) ^ t)) KE) (hS : 2 * (KR + KE + 2 * K3 + 2 * K + 20)≤KS) (pf0:(mSl 3 (lR ps (k))).S O w v0) (hT:Tb w) (ho:OB O w) :
    Calls Tryz.prog 58 #[v0] w (RetM (mSl 3 (lC (sqP ps) (KS))) O w):=by
 refine st_start 20 Tryz.func58 [(mSl 3 (lR ps (k)))] ⟨pf0,trivial⟩ ho fun a S=>?_
 have hg1:=sqG_len hn
 have hg2:=derQ_le ps
 have hg3:=dvq_le ps (gcdP ps (cutQ (derQ ps)))
 refine wp_seq ?_
 refine st_seq S 0 [] [(false,0)] trivial (L':=[(0,?_)]) ?_ fun a1 w2 S3=>?_
 rotate_left 1
 · rfl
 refine t_asgC S3 fun a5 S6=>?_
 refine wpList_nil (then_normal ?_)
 refine wp_seq ?_
 refine st_seq S6 10 [?_,?_,?_,?_,?_,?_,?_,?_,?_,?_] [(true,7),(true,8),(true,9),(false,0)] ⟨?_,?_,?_,?_,?_,?_,?_,?_,?_,?_,trivial⟩ (L':=[(13,?_),(14,?_),(15,?_),(2,?_)]) ?_ fun a7 w8 S9=>?_
 rotate_left 14
 · exact opP S6.r fun c=>⟨_,run_move rfl,(c.o 1 rfl)⟩
 · exact opP S6.r fun c=>⟨_,run_move rfl,(c.o 1 rfl)⟩
 · exact opP S6.r fun c=>⟨_,run_move rfl,(c.o 1 rfl)⟩
 · exact opC S6.r rfl fun c B=>⟨_,args_1 rfl,(p_der (by omega) (by omega) (c.h 0 rfl) (hT.below B) (S6.obc c.wb))⟩
 · exact opC S6.r rfl fun c B=>⟨_,args_2 rfl rfl,(p_gcd (L:=L) (K1:=K1) (K:=K) (by omega) (by omega) (by omega) (by omega) (by omega) (by omega) (by omega) (by omega) (by omega) (by omega) hz (c.h 0 rfl) (slC_r (c.h 1 rfl)) (hT.below B) (S6.obc c.wb))⟩
 · exact opC S6.r rfl fun c B=>⟨_,args_2 rfl rfl,(p_divmod (L:=L) (K1:=K3) (KR:=KR) (KE:=KE) (by omega) (by omega) (by omega) (by omega) (by omega) (by omega) (by omega) (by omega) (by omega) (by omega) hz1 hz2 (c.h 0 rfl) (slC_r (c.h 1 rfl)) (hT.below B) (S6.obc c.wb))⟩
 · exact opP S6.r fun c=>⟨_,run_move rfl,(c.h 0 rfl)⟩
 · exact opP S6.r fun c=>ext3_0 rfl (c.h 0 rfl)
 · exact opP S6.r fun c=>ext3_1 rfl (c.h 0 rfl)
 · exact opP S6.r fun c=>ext3_2 rfl (c.h 0 rfl)
 · rfl
 refine t_asg S9 0 fun a11 S12=>?_
 refine t_asg S12 2 fun a13 S14=>?_
 refine t_asg S14 4 fun a15 S16=>?_
 refine wpList_nil (then_normal ?_)
 refine wp_seq ?_
 refine wp_seq ?_
 refine st_seq S16 2 [?_,?_] [(true,1),(false,2),(false,6)] ⟨?_,?_,trivial⟩ (L':=[(17,?_),(3,?_),(2,?_)]) ?_ fun a17 w18 S19=>?_
 rotate_left 5
 · exact opV S16.r fun c=>run_v (run_move rfl) (c.q 0 rfl)
 · exact opV S16.r fun c=>run_neq rfl (c.e 0 rfl) rfl
 · rfl
 refine wpList_nil (then_normal ?_)
 refine cond_b _ (ev (S19.sl 0 rfl)) (fun hb21=>?_) (fun hb21=>?_)
 ·have hb21p:=of_decide_eq_true hb21
  refine wp_seq ?_
  refine st_seq S19 0 [] [(false,1),(false,2)] trivial (L':=[(3,?_),(2,?_)]) ?_ fun a22 w23 S24=>?_
  rotate_left 2
  · rfl
  refine t_asgC S24 fun a26 S27=>?_
  refine wpList_nil (then_normal ?_)
  refine wp_ret ?_
  exact st_endT S27 0 rfl fun v h=>nil_L (if_pos (of_decide_eq_true hb21)) h
 ·have hb21p:=of_decide_eq_false hb21
  refine wp_skip (then_normal ?_)
  refine wp_seq ?_
  refine st_seq S19 2 [?_,?_] [(true,1),(false,2)] ⟨?_,?_,trivial⟩ (L':=[(19,?_),(2,?_)]) ?_ fun a28 w29 S30=>?_
  rotate_left 4
  · exact opP S19.r fun c=>⟨_,run_move rfl,(c.o 1 rfl)⟩
  · exact opC S19.r rfl fun c B=>⟨_,args_1 rfl,(p_monic (by omega) (by omega) (slC_r (c.h 0 rfl)) (hT.below B) (S19.obc c.wb))⟩
  · rfl
  refine t_asg S30 0 fun a32 S33=>?_
  refine wpList_nil (then_normal ?_)
  refine wp_ret ?_
  exact st_endT S33 0 rfl fun v h=>(by rw [show sqP ps=_ from if_neg (of_decide_eq_false hb21)]; exact slC_mono h (by omega))
end Go.Proofs.YtcankknlbljicaaGreatDoor
