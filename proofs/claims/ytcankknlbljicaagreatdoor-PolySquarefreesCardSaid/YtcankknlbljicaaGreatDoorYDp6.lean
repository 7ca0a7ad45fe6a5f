/-  -/
import Derived.Test.YtcankknlbljicaaGreatDoorYDp5
import Derived.Test.YtcankknlbljicaaGreatDoorTie
import Derived.Test.YtcankknlbljicaaGreatDoorCards
import Derived.SevenTiedAt

set_option linter.unusedVariables false
set_option linter.unusedSimpArgs false
set_option linter.unusedSectionVars false
set_option maxRecDepth 100000
set_option maxHeartbeats 3200000

namespace Go.Proofs.YtcankknlbljicaaGreatDoor
open Go.RowKit Num

set_option maxRecDepth 100000
set_option maxHeartbeats 2000000
theorem rt_z1 (ts:List Int) (t l:Nat) (ht:t≤(clq (rtP ts)).length + 1 - (clq (gcdP (rtP ts) (cutQ (derQ (rtP ts))))).length):Sz ((redN (clq (rtP ts)) (clq (gcdP (rtP ts) (cutQ (derQ (rtP ts))))) t).getD l 0) 11658490:=redN_szs (N:=13) (rtP_pb ts).2 (gcd_pb ((prim_wb (rtP_pb ts).2 (by decide +kernel)).up (v:=9130086859014144) (by decide +kernel)) ((prim_wb (PB.der (rtP_pb ts).2 (rtP_pb ts).1) (by decide +kernel)).up (v:=9130086859014144) (by decide +kernel)) (prim_le (rtP_pb ts).1:(primP (rtP ts)).length≤12) (prim_le (Nat.le_trans (derQ_le _) (rtP_pb ts).1):(primP (cutQ (derQ (rtP ts)))).length≤12)) (dvN_le (rtP_pb ts).1) (by decide +kernel) (by decide +kernel) (by decide) t l ht
theorem rt_z2 (ts:List Int) (t:Nat) (ht:t≤(clq (rtP ts)).length + 1 - (clq (gcdP (rtP ts) (cutQ (derQ (rtP ts))))).length):Sz (clr (rtP ts) * (clq (gcdP (rtP ts) (cutQ (derQ (rtP ts))))).getD ((clq (gcdP (rtP ts) (cutQ (derQ (rtP ts))))).length - 1) 0 ^ t) 11658490:=den_szs (N:=13) (rtP_pb ts).2 (gcd_pb ((prim_wb (rtP_pb ts).2 (by decide +kernel)).up (v:=9130086859014144) (by decide +kernel)) ((prim_wb (PB.der (rtP_pb ts).2 (rtP_pb ts).1) (by decide +kernel)).up (v:=9130086859014144) (by decide +kernel)) (prim_le (rtP_pb ts).1:(primP (rtP ts)).length≤12) (prim_le (Nat.le_trans (derQ_le _) (rtP_pb ts).1):(primP (cutQ (derQ (rtP ts)))).length≤12)) (dvN_le (rtP_pb ts).1) (by decide +kernel) (by decide +kernel) (by decide) t ht
theorem walkPolySquarefrees {ts:List Int} {v0:Value} {w:World} {O:Bs} (hn0:ts.length≤9223372036854775807) (hI0:∀ j:Nat,-9223372036854775808≤ts.getD j 0∧ts.getD j 0≤9223372036854775807) (pf0:(mSl 0 (lI ts 0)).S O w v0) (hT:Tb w) (ho:OB O w) :
    Calls Tryz.prog 11 #[v0] w (RetM (mV (.bool (true))) O w):=by
 refine st_start 60 Tryz.func11 [(mSl 0 (lI ts 0))] ⟨pf0,trivial⟩ ho fun a S=>?_
 have lq:=rt_sqlen ts
 have ld:=derQ_le (sqP (rtP ts))
 have lg:=gcdP_len (L:=6) (ps:=sqP (rtP ts)) (qs:=cutQ (derQ (sqP (rtP ts)))) lq (Nat.le_trans ld lq)
 have lr:(rtR ts).length≤3:=Nat.le_trans (rt_rl ts (rtM ts)) (rtM_le ts)
 refine wp_seq ?_
 refine st_seq S 0 [] [(false,0)] trivial (L':=[(0,?_)]) ?_ fun a1 w2 S3=>?_
 rotate_left 1
 · rfl
 refine t_asgC S3 fun a5 S6=>?_
 refine wpList_nil (then_normal ?_)
 refine wp_seq ?_
 refine st_seq S6 5 [?_,?_,?_,?_,?_] [(true,3),(true,4),(false,0)] ⟨?_,?_,?_,?_,?_,trivial⟩ (L':=[(12,?_),(13,?_),(2,?_)]) ?_ fun a7 w8 S9=>?_
 rotate_left 8
 · exact opP S6.r fun c=>⟨_,run_move rfl,(c.o 1 rfl)⟩
 · exact opC S6.r rfl fun c B=>⟨_,args_1 rfl,(k_rooted hn0 hI0 (c.h 0 rfl) (S6.obc c.wb))⟩
 · exact opP S6.r fun c=>⟨_,run_move rfl,(c.h 0 rfl)⟩
 · exact opP S6.r fun c=>ext_0 rfl (c.h 0 rfl)
 · exact opP S6.r fun c=>ext_1 rfl (c.h 0 rfl)
 · rfl
 refine t_asg S9 0 fun a11 S12=>?_
 refine t_asg S12 2 fun a13 S14=>?_
 refine wpList_nil (then_normal ?_)
 refine wp_seq ?_
 refine st_seq S14 2 [?_,?_] [(true,1),(false,0),(false,4)] ⟨?_,?_,trivial⟩ (L':=[(15,?_),(4,?_),(2,?_)]) ?_ fun a15 w16 S17=>?_
 rotate_left 5
 · exact opP S14.r fun c=>⟨_,run_move rfl,(c.o 1 rfl)⟩
 · exact opC S14.r rfl fun c B=>⟨_,args_1 rfl,(Calls.imp (p_sqf (ps:=rtP ts) (L:=12) (K1:=278) (K:=896808) (K3:=21523454) (KR:=11658490) (KE:=11658490) (KS:=136315048) (rtP_pb ts).1 (by omega) (by omega) (by omega) (by omega) (by omega) (by omega) (by omega) (fun P Q l c g=>GZ_of ((prim_wb (rtP_pb ts).2 (by decide +kernel)).up (v:=9130086859014144) (by decide +kernel)) ((prim_wb (PB.der (rtP_pb ts).2 (rtP_pb ts).1) (by decide +kernel)).up (v:=9130086859014144) (by decide +kernel)) (prim_le (rtP_pb ts).1:(primP (rtP ts)).length≤12) (prim_le (Nat.le_trans (derQ_le _) (rtP_pb ts).1):(primP (cutQ (derQ (rtP ts)))).length≤12) (by decide +kernel) P Q l c g) (by omega) (by omega) (by omega) (by omega) (by omega) (rt_z1 ts) (rt_z2 ts) (by omega) (slC_r (c.h 0 rfl)) (hT.below B) (S14.obc c.wb)) fun _ _ h=>slC_re (fun j=>(rt_sqpb ts).sz (k:=2) (by decide +kernel) (by decide +kernel) j) h)⟩
 · rfl
 refine t_asg S17 0 fun a19 S20=>?_
 refine wpList_nil (then_normal ?_)
 refine wp_seq ?_
 refine wp_seq ?_
 refine st_seq S20 3 [?_,?_,?_] [(true,0),(true,1),(true,2),(false,0),(false,2),(false,3)] ⟨?_,?_,?_,trivial⟩ (L':=[(16,?_),(17,?_),(18,?_),(5,?_),(4,?_),(2,?_)]) ?_ fun a21 w22 S23=>?_
 rotate_left 9
 · exact opP S20.r fun c=>⟨_,run_move rfl,(c.o 2 rfl)⟩
 · exact opV S20.r fun c=>len_L ((rtR ts).length) Tryz.underlying36 (c.h 0 rfl) (lC_len _ _)
 · exact opV S20.r fun c=>run_moveC rfl
 · rfl
 refine wpList_nil (then_normal ?_)
 refine wp_block ?_
 refine st_loop (τ:=Nat) (fun ii=>[(16,(mSl 3 (lC (rtR ts) (2)))),(17,(mV (.int .i64 (((rtR ts).length:Nat):Int)))),(18,(mV (.int .i64 ((ii:Nat):Int)))),(5,(mSl 3 (lC (sqP (rtP ts)) (2)))),(4,(mSl 3 (lC (rtR ts) (2)))),(2,(mV (.bool (false))))]) (fun ii=>[]) (fun ii=>ii≤(rtR ts).length) (fun ii=>(rtR ts).length - ii) 0 (by omega) (S23.toX ⟨S23.sl 0 rfl,S23.sl 1 rfl,S23.sl 2 rfl,S23.sl 3 rfl,S23.sl 4 rfl,S23.sl 5 rfl,trivial⟩ trivial) ?_
 rintro ii O a27 w28 hp29 S30
 try dsimp only at hp29 S30
 refine wp_seq ?_
 refine st_seq S30 1 [?_] [(true,0),(false,0),(false,1),(false,2),(false,3),(false,4),(false,5)] ⟨?_,trivial⟩ (L':=[(19,?_),(16,?_),(17,?_),(18,?_),(5,?_),(4,?_),(2,?_)]) ?_ fun a31 w32 S33=>?_
 rotate_left 8
 · exact opV S30.r fun c=>run_lss rfl (c.q 2 rfl) (c.q 1 rfl)
 · rfl
 refine wpList_nil (then_normal ?_)
 refine wp_seq ?_
 refine cond_b _ (ev (S33.sl 0 rfl)) (fun hb35=>?_) (fun hb35=>?_)
 ·have hb35p:=of_decide_eq_true hb35
  refine wp_skip (then_normal ?_)
  refine wp_seq ?_
  refine wp_block ?_
  refine wp_seq ?_
  refine st_seq S33 2 [?_,?_] [(true,1),(false,1),(false,2),(false,3),(false,4),(false,5),(false,6)] ⟨?_,?_,trivial⟩ (L':=[(21,?_),(16,?_),(17,?_),(18,?_),(5,?_),(4,?_),(2,?_)]) ?_ fun a36 w37 S38=>?_
  rotate_left 9
  · exact opP S33.r fun c=>ix_sl Tryz.underlying36 infoRz (c.o 1 rfl) (c.q 3 rfl) (i:=ii) (by omega) (lC_get (by omega))
  · exact opP S33.r fun c=>ld_pt (c.h 0 rfl) Tryz.underlying26 info_Rat
  · rfl
  refine t_alloc S38 zero_Rat (fun _ _ _=>bx_Rat) fun O a40 w41 g42 S43=>?_
  refine t_sto S43 0 1 0 rfl isC.cv (fun w44 S45=>?_) info_Rat
  refine wpList_nil (then_normal ?_)
  refine wp_seq ?_
  refine st_mono S45 13 [?_,?_,?_,?_,?_,?_,?_,?_,?_,?_,?_,?_,?_] [(true,12),(false,2),(false,3),(false,4),(false,5),(false,6),(false,7)] ⟨?_,?_,?_,?_,?_,?_,?_,?_,?_,?_,?_,?_,?_,trivial⟩ (L':=[(34,?_),(16,?_),(17,?_),(18,?_),(5,?_),(4,?_),(2,?_)]) ?_ fun a46 w47 S48=>?_
  rotate_left 20
  · exact opP S45.r fun c=>⟨_,run_move rfl,(c.o 5 rfl)⟩
  · exact opL S45.r 0 Tryz.underlying26 info_Rat fun c=>(c.q 0 rfl)
  · exact opC S45.r rfl fun c B=>⟨_,args_2 rfl rfl,(p_eval (ps:=(sqP (rtP ts))) (x:=(rtR ts).getD ii 0) (L:=6) (K1:=26) (LV:=1) (K:=2) (KP:=38) (KD:=1) (KF:=4) (by omega) (by omega) (by omega) (by omega) (by omega) (by omega) (by omega) (by omega) (fun i hi=>Nat.le_trans (PS.len (⟨(rt_sqlen ts),(sgl_len _),(rt_sqpb ts),(rtR_pb ts ii)⟩:PS (sqP (rtP ts)) [(rtR ts).getD ii 0] 6 1 1990656 12 1990656 12) i hi) (by decide)) (by omega) (fun i j hi=>PS.z (⟨(rt_sqlen ts),(sgl_len _),(rt_sqpb ts),(rtR_pb ts ii)⟩:PS (sqP (rtP ts)) [(rtR ts).getD ii 0] 6 1 1990656 12 1990656 12) (sgl_szs (n:=6) (f:=oB 1 1990656 12 12) (K:=2) (by decide +kernel)) (by decide) i j hi) (fun i hi=>PS.d (⟨(rt_sqlen ts),(sgl_len _),(rt_sqpb ts),(rtR_pb ts ii)⟩:PS (sqP (rtP ts)) [(rtR ts).getD ii 0] 6 1 1990656 12 1990656 12) (sgl_szs (n:=6) (f:=fun i=>12 ^ i) (K:=1) (by decide +kernel)) (by decide) i hi) (by omega) (by omega) (by omega) (by omega) (by omega) (Nat.le_trans (comP_len (⟨(rt_sqlen ts),(sgl_len _),(rt_sqpb ts),(rtR_pb ts ii)⟩:PS (sqP (rtP ts)) [(rtR ts).getD ii 0] 6 1 1990656 12 1990656 12)) (by decide)) (fun j=>PS.f (⟨(rt_sqlen ts),(sgl_len _),(rt_sqpb ts),(rtR_pb ts ii)⟩:PS (sqP (rtP ts)) [(rtR ts).getD ii 0] 6 1 1990656 12 1990656 12) (sgl_szs (n:=6) (f:=oB 1 1990656 12 12) (K:=2) (by decide +kernel)) (by decide) (sgl_szs (n:=6) (f:=fun i=>1990656 * 12 ^ i) (K:=2) (by decide +kernel)) (by decide) j) (slC_r (c.h 0 rfl)) (isC.r (c.h 1 rfl)) (hT.below B) (S45.obc c.wb))⟩
  · exact opC S45.r rfl fun c B=>⟨_,args_1 rfl,(r_sign (by omega) (isC.r (c.h 0 rfl)))⟩
  · exact opV S45.r fun c=>run_b (y:=false) (run_neq rfl (c.e 0 rfl) rfl) (rt_r0 (by omega))
  · exact opV S45.r fun c=>run_v (run_move rfl) (c.e 0 rfl)
  · exact opT S45.r 0 (opP S45.r fun c=>⟨_,run_move rfl,(c.o 5 rfl)⟩)
  · exact opT S45.r 1 (opC S45.r rfl fun c B=>⟨_,args_1 rfl,(p_der (by omega) (by omega) (slC_r (c.h 0 rfl)) (hT.below B) (S45.obc c.wb))⟩)
  · exact opT S45.r 0 (opL S45.r 0 Tryz.underlying26 info_Rat fun c=>(c.q 0 rfl))
  · exact opT S45.r 3 (opC S45.r rfl fun c B=>⟨_,args_2 rfl rfl,(p_eval (ps:=(cutQ (derQ (sqP (rtP ts))))) (x:=(rtR ts).getD ii 0) (L:=6) (K1:=56) (LV:=1) (K:=2) (KP:=68) (KD:=1) (KF:=4) (by omega) (by omega) (by omega) (by omega) (by omega) (by omega) (by omega) (by omega) (fun i hi=>Nat.le_trans (PS.len (⟨(Nat.le_trans (derQ_le _) (rt_sqlen ts)),(sgl_len _),(PB.der (rt_sqpb ts) (rt_sqlen ts)),(rtR_pb ts ii)⟩:PS (cutQ (derQ (sqP (rtP ts)))) [(rtR ts).getD ii 0] 6 1 11943936 12 1990656 12) i hi) (by decide)) (by omega) (fun i j hi=>PS.z (⟨(Nat.le_trans (derQ_le _) (rt_sqlen ts)),(sgl_len _),(PB.der (rt_sqpb ts) (rt_sqlen ts)),(rtR_pb ts ii)⟩:PS (cutQ (derQ (sqP (rtP ts)))) [(rtR ts).getD ii 0] 6 1 11943936 12 1990656 12) (sgl_szs (n:=6) (f:=oB 1 11943936 12 12) (K:=2) (by decide +kernel)) (by decide) i j hi) (fun i hi=>PS.d (⟨(Nat.le_trans (derQ_le _) (rt_sqlen ts)),(sgl_len _),(PB.der (rt_sqpb ts) (rt_sqlen ts)),(rtR_pb ts ii)⟩:PS (cutQ (derQ (sqP (rtP ts)))) [(rtR ts).getD ii 0] 6 1 11943936 12 1990656 12) (sgl_szs (n:=6) (f:=fun i=>12 ^ i) (K:=1) (by decide +kernel)) (by decide) i hi) (by omega) (by omega) (by omega) (by omega) (by omega) (Nat.le_trans (comP_len (⟨(Nat.le_trans (derQ_le _) (rt_sqlen ts)),(sgl_len _),(PB.der (rt_sqpb ts) (rt_sqlen ts)),(rtR_pb ts ii)⟩:PS (cutQ (derQ (sqP (rtP ts)))) [(rtR ts).getD ii 0] 6 1 11943936 12 1990656 12)) (by decide)) (fun j=>PS.f (⟨(Nat.le_trans (derQ_le _) (rt_sqlen ts)),(sgl_len _),(PB.der (rt_sqpb ts) (rt_sqlen ts)),(rtR_pb ts ii)⟩:PS (cutQ (derQ (sqP (rtP ts)))) [(rtR ts).getD ii 0] 6 1 11943936 12 1990656 12) (sgl_szs (n:=6) (f:=oB 1 11943936 12 12) (K:=2) (by decide +kernel)) (by decide) (sgl_szs (n:=6) (f:=fun i=>1990656 * 12 ^ i) (K:=2) (by decide +kernel)) (by decide) j) (slC_r (c.h 0 rfl)) (isC.r (c.h 1 rfl)) (hT.below B) (S45.obc c.wb))⟩)
  · exact opT S45.r 2 (opC S45.r rfl fun c B=>⟨_,args_1 rfl,(r_sign (by omega) (isC.r (c.h 0 rfl)))⟩)
  · exact opT S45.r 1 (opV S45.r fun c=>run_b (y:=false) (run_eql rfl (c.e 0 rfl) rfl) (rt_r1 (by omega)))
  · exact opE S45.r fun c=>⟨_,run_pick rfl (c.e 0 rfl),pick_or fun h=>(c.e 1 rfl)⟩
  · rfl
  refine wpList_nil (then_normal ?_)
  refine wp_cond_false (ev (S48.sl 0 rfl)) ?_
  refine wp_skip (in_normal (then_normal ?_))
  refine st_seq S48 1 [?_] [(true,0),(false,1),(false,2),(false,3),(false,4),(false,5),(false,6)] ⟨?_,trivial⟩ (L':=[(35,?_),(16,?_),(17,?_),(18,?_),(5,?_),(4,?_),(2,?_)]) ?_ fun a50 w51 S52=>?_
  rotate_left 8
  · exact opV S48.r fun c=>run_add rfl (c.q 3 rfl) rfl (by omega) (by omega)
  · rfl
  refine t_val S52 (run_v (run_move rfl) (S52.e 0 rfl)) fun a54 S55=>?_
  refine wpList_nil (then_normal ?_)
  exact ⟨ii + 1,(by first | omega | (dsimp only; omega)),(by first | omega | (dsimp only; omega)),_,(S55.dropN 1).toX ⟨S55.sl 2 rfl,S55.sl 3 rfl,(S55.sl 0 rfl).trans (by first | rfl | exact congrArg _ (by omega)),S55.sl 4 rfl,S55.sl 5 rfl,S55.sl 6 rfl,trivial⟩ trivial⟩
 ·have hb35p:=of_decide_eq_false hb35
  refine wp_exit ?_
  repeat (first | refine exit_in ?_ | refine exit_then ?_ | refine exit_out (by decide) ?_)
  refine (then_normal ?_)
  refine wp_seq ?_
  refine st_seq S33 2 [?_,?_] [(true,1),(false,4),(false,5),(false,6)] ⟨?_,?_,trivial⟩ (L':=[(37,?_),(5,?_),(4,?_),(2,?_)]) ?_ fun a56 w57 S58=>?_
  rotate_left 6
  · exact opP S33.r fun c=>⟨_,run_move rfl,(c.o 4 rfl)⟩
  · exact opC S33.r rfl fun c B=>⟨_,args_1 rfl,(p_degree (by omega) (by omega) (slC_r (c.h 0 rfl)) (S33.obc c.wb))⟩
  · rfl
  refine t_asg S58 0 fun a60 S61=>?_
  refine wpList_nil (then_normal ?_)
  refine wp_seq ?_
  refine st_seq S61 22 [?_,?_,?_,?_,?_,?_,?_,?_,?_,?_,?_,?_,?_,?_,?_,?_,?_,?_,?_,?_,?_,?_] [(true,21),(false,4)] ⟨?_,?_,?_,?_,?_,?_,?_,?_,?_,?_,?_,?_,?_,?_,?_,?_,?_,?_,?_,?_,?_,?_,trivial⟩ (L':=[(59,?_),(2,?_)]) ?_ fun a62 w63 S64=>?_
  rotate_left 24
  · exact opC S61.r rfl fun c B=>⟨_,args_0,(l5_awake (hT.below B) (S61.obc c.wb))⟩
  · exact opV S61.r fun c=>run_v (run_move rfl) (c.e 0 rfl)
  · exact opT S61.r 0 (opV S61.r fun c=>run_v (run_move rfl) (c.q 0 rfl))
  · exact opT S61.r 0 (opP S61.r fun c=>⟨_,run_move rfl,(c.o 3 rfl)⟩)
  · exact opT S61.r 1 (opV S61.r fun c=>len_L ((rtR ts).length) Tryz.underlying36 (c.h 0 rfl) (lC_len _ _))
  · exact opT S61.r 2 (opV S61.r fun c=>run_eql rfl (c.e 0 rfl) (c.e 1 rfl))
  · exact opT S61.r 1 (opV S61.r fun c=>run_v (run_move rfl) (c.e 0 rfl))
  · exact opG S61.r 0 (fun hγ=>opV S61.r fun c=>run_v (run_move rfl) (c.q 0 rfl)) gF
  · exact opG S61.r 0 (fun hγ=>opP S61.r fun c=>⟨_,run_move rfl,(c.o 3 rfl)⟩) gF
  · exact opG S61.r 1 (fun hγ=>opV S61.r fun c=>len_L ((rtR ts).length) Tryz.underlying36 (c.h 0 rfl hγ) (lC_len _ _)) gF
  · exact opG S61.r 1 (fun hγ=>opV S61.r fun c=>run_add rfl (ev (c.h 0 rfl hγ)) rfl (by have:=of_decide_eq_false (Bool.not_eq_true' _ |>.mp hγ); omega) (by have:=of_decide_eq_false (Bool.not_eq_true' _ |>.mp hγ); omega)) gF
  · exact opG S61.r 2 (fun hγ=>opV S61.r fun c=>run_eql rfl (ev (c.h 0 rfl hγ)) (ev (c.h 1 rfl hγ))) gF
  · exact opT S61.r 2 (opE S61.r fun c=>run_be (y:=true) (⟨_,run_pick rfl (c.e 0 rfl),pick_or fun h=>(c.h 1 rfl) (by rw [h]; rfl)⟩) (rt_deg ts))
  · exact opE S61.r fun c=>⟨_,run_pick rfl (c.e 0 rfl),pick_and (fun _=>(c.e 1 rfl))⟩
  · exact opV S61.r fun c=>run_v (run_move rfl) (c.e 0 rfl)
  · exact opT S61.r 0 (opP S61.r fun c=>⟨_,run_move rfl,(c.o 2 rfl)⟩)
  · exact opT S61.r 0 (opP S61.r fun c=>⟨_,run_move rfl,(c.o 2 rfl)⟩)
  · exact opT S61.r 1 (opC S61.r rfl fun c B=>⟨_,args_1 rfl,(p_der (by omega) (by omega) (slC_r (c.h 0 rfl)) (hT.below B) (S61.obc c.wb))⟩)
  · exact opT S61.r 3 (opC S61.r rfl fun c B=>⟨_,args_2 rfl rfl,(p_gcd (L:=6) (K1:=116) (K:=559) (by omega) (by omega) (by omega) (by omega) (by omega) (by omega) (by omega) (by omega) (by omega) (by omega) (fun P Q l c g=>GZ_of ((prim_wb (rt_sqpb ts) (by decide +kernel)).up (v:=23887872) (by decide +kernel)) ((prim_wb (PB.der (rt_sqpb ts) (rt_sqlen ts)) (by decide +kernel)).up (v:=23887872) (by decide +kernel)) (Nat.le_trans (prim_le (rt_sqlen ts)) (by decide):(primP (sqP (rtP ts))).length≤6) (Nat.le_trans (prim_le (Nat.le_trans (derQ_le _) (rt_sqlen ts))) (by decide):(primP (cutQ (derQ (sqP (rtP ts))))).length≤6) (by decide +kernel) P Q l c g) (slC_r (c.h 0 rfl)) (slC_r (c.h 1 rfl)) (hT.below B) (S61.obc c.wb))⟩)
  · exact opT S61.r 1 (opV S61.r fun c=>len_L ((gcdP (sqP (rtP ts)) (cutQ (derQ (sqP (rtP ts))))).length) Tryz.underlying37 (c.h 0 rfl) (lC_len _ _))
  · exact opT S61.r 1 (opV S61.r fun c=>run_b (y:=true) (run_leq rfl (c.e 0 rfl) rfl) (rt_g1 ts))
  · exact opE S61.r fun c=>⟨_,run_pick rfl (c.e 0 rfl),pick_and (fun _=>(c.e 1 rfl))⟩
  · rfl
  refine t_asg S64 0 fun a66 S67=>?_
  refine wpList_nil (then_normal ?_)
  refine wp_ret ?_
  exact st_endT S67 0 rfl fun v h=>h
end Go.Proofs.YtcankknlbljicaaGreatDoor

namespace Go.Proofs.YtcankknlbljicaaGreatDoor.polySquarefrees
open Go.ChangeShapes Go.WideShapes Go.ChangeAt Go.RowKit
open Go.ChangeMaps (open_string shut_string)

set_option linter.unusedVariables false
theorem lifted (os:Os) (started:os.Started) (H:Type) (enc:TypeId × Value→H) :
  ReturnsInHanded {} Tryz.checked os 11 .any (fun w args=>(Rows.polySquarefreesSpec.pre enc Tryz.prog Tryz.f11 Rows.polySquarefreesRow.domain false w args∧laidMetH Tryz.prog Rows.polySquarefreesRow.laid w)∧sizedMet enc Tryz.prog Tryz.f11 (OpenSpec.ofChange Rows.polySquarefreesSpec) false w args)
   (Rows.polySquarefreesSpec.post enc Tryz.prog Tryz.f11 false true false false):=by
 refine returnsInHanded_of_change_and (C:=Tryz.checked) (X:=fun w _=>laidMetH Tryz.prog Rows.polySquarefreesRow.laid w) (fun _ _ _ hh h=>h.of_heap hh) own started (by kernel_rfl) Tryz.func11
  (ChangeSpec.witness_shaped (enc:=enc) (C:=Tryz.checked) (os:=os) (X:=fun w _=>laidMetH Tryz.prog Rows.polySquarefreesRow.laid w) false (World.laidAll Tryz.prog os Rows.polySquarefreesRow.laid) #[.slice none 0 0] 8 (World.laidAll_os _ _ _)
   (World.shaped_of_ZipB (by kernel_rfl) (by kernel_rfl)) (by kernel_rfl) (by kernel_rfl) (by kernel_rfl)
   (by rw [MakeChecks.laidMetH_plain _ _ _ (by kernel_rfl)]; exact laidMet_laidAll _ (by kernel_rfl) (by kernel_rfl))) ?_
 intro W base args ds gs before hval0 hW hcnd _ hL _
 have hval:∀ (j:Nat) t v,Tryz.f11.params[j]?=some t→args[j]?=some v→Value.okWide Tryz.prog W .any base t v:=hval0
 have hW':=hW
 obtain ⟨p,q,hA0,hV,rfl,hfz,hnd⟩:=hW
 have hA:DataW.TrodAll enc Tryz.prog W 0 (fun _=>true) true Tryz.f11.params.toList args.toList ds p:=hA0
 rw [Tryz.params11] at hA hval
 obtain ⟨v0,vs0,d0,ds0,p0,q0,hargs,rfl,rfl,h0,r0⟩:=trodAll_cons hA
 obtain ⟨rfl,rfl,rfl⟩:=trodAll_nil r0
 obtain rfl:args = #[v0]:=by cases args; simp_all
 obtain ⟨rfl,rfl⟩:=trodVars_none hV
 have k0:=h0
 have lt0:∀ x ∈ p0,x.block < W.heap.size:=by obtain ⟨m,hm⟩:=k0; exact DataW.trod_lt m _ _ _ hm
 obtain ⟨t0,hf0,hl0,hr0⟩:=open_lI (hval 0 49 v0 rfl rfl) h0
 clear hA0 hval0
 refine (walkPolySquarefrees (O:=fun _=>False) hl0 hr0 hf0 (tb_of_met (by rw [MakeChecks.laidMetH_plain _ _ _ (by kernel_rfl)] at hL; exact hL)) (fun _ h=>h.elim)).mono fun e W' hr=>?_
 obtain ⟨vr,he,hvr,bel⟩:=hr
 obtain rfl:vr = .bool true:=hvr
 subst he
 exact ⟨_,rfl,_,_,_,[],_,[],hW',trodAll_mk1 (shut_bool Tryz.underlying4 _),(trodAll_cons_mk (Below.trod laidOut (by kernel_rfl) (of_decide_eq_true (by kernel_rfl)) k0 bel lt0) trodAll_mk0),rfl,bel.frame _,fun h=>by cases h⟩

theorem both {a b:Bool} (h1:a=true) (h2:b=true):(a && b)=true:=by rw [h1,h2]; rfl

theorem closed:joinedFacts Tryz.prog 11 Tryz.f11 Rows.polySquarefreesSpec Rows.polySquarefreesRow=true:=by
 unfold joinedFacts
 repeat' with_reducible refine both ?_ ?_
 all_goals (as_aux_lemma=>kernel_rfl)

theorem over:Rows.PolySquarefreesSaid :=
 OpenClaim.holds_of_wide 11 Tryz.f11 rfl rfl rfl rfl rfl rfl rfl ⟨rfl,rfl,rfl,rfl,rfl⟩ rfl rfl rfl rfl rfl (by as_aux_lemma=>kernel_rfl) Tryz.func11 closed
  (of_decide_eq_true (by kernel_rfl)) (by unfold Func.isWrapper; first | (rw [if_pos (by decide +kernel)]; kernel_rfl) | (rw [if_neg (by decide +kernel)]; exact ⟨rfl,rfl⟩))
  (fun os started H enc _=>lifted os started H enc)

theorem card:Rows.PolySquarefreesCardSaid :=
 Claim7.holds_tied_plain_at .later [] [.data] true Rows.polySquarefreesCard.stood.harness false over (fun _ h=>by cases h) (by as_aux_lemma=>kernel_rfl) (fun _ h=>by cases h) polySquarefrees_row_tie rfl ⟨rfl,rfl⟩ (by as_aux_lemma=>kernel_rfl) rfl
  (fun f fn hf hfn=>by
   obtain rfl:f=11:=Option.some.inj ((show Tryz.prog.funcNamed "dspcompiler/dspcompilerlaw05.PolySquarefrees"=some 11 by as_aux_lemma=>kernel_rfl).symm.trans hf) |>.symm
   obtain rfl:fn=Tryz.f11:=(Option.some.inj (Tryz.func11.symm.trans hfn)).symm
   exact ⟨by as_aux_lemma=>kernel_rfl,fun j t ht=>by
    rw [Tryz.params11] at ht
    have hm:t ∈ [49]:=by simpa using Array.mem_of_getElem? ht
    have hall:([49].all fun u=>!Tryz.prog.wantsStandIn u)=true:=by as_aux_lemma=>kernel_rfl
    exact (show Tryz.prog.wantsStandIn t=false by simpa using List.all_eq_true.1 hall t hm)⟩)
  (by as_aux_lemma=>kernel_rfl)
end Go.Proofs.YtcankknlbljicaaGreatDoor.polySquarefrees
