/-  -/
import Derived.Test.YtcankknlbljicaaGreatDoorYfk
import Derived.Test.YtcankknlbljicaaGreatDoorYee

set_option linter.unusedVariables false
set_option linter.unusedSimpArgs false
set_option linter.unusedSectionVars false
set_option maxRecDepth 100000
set_option maxHeartbeats 3200000

namespace Go.Proofs.YtcankknlbljicaaGreatDoor
open Go.RowKit Num

variable {O : Bs}
theorem built_l2 (x0 x1 x2 x3 x4 x5:Value):Tryz.prog.builtSlice 26 2 [(0,.agg #[x0,x1,x2]),(1,.agg #[x3,x4,x5])]=some #[x0,x1,x2,x3,x4,x5]:=by kernel_rfl
theorem lit2 {a:Act} {o:Oper} {w:World} {t0 t1:Tmp} {m0 m1:MP} (ob:OB O w) (h0:m0.S O w (sl a t0)) (c0:cv 3 (sl a t0)) (h1:m1.S O w (sl a t1)) (c1:cv 3 (sl a t1)) (ho:o.op = .buildSlice 37 2 #[(0,.tmp t0),(1,.tmp t1)]:=by rfl):∃ v w',(execOp a.eval o).run Tryz.prog w = .ok (.value v) w'∧Below w.heap.size w w'∧(mSl 3 [m0,m1]).S O w' v:=by
 obtain ⟨x0,x1,x2,e0⟩:=cv3 c0
 have f0:a.eval (.tmp t0) = .agg #[x0,x1,x2]:=e0
 rw [e0] at h0
 obtain ⟨x3,x4,x5,e1⟩:=cv3 c1
 have f1:a.eval (.tmp t1) = .agg #[x3,x4,x5]:=e1
 rw [e1] at h1
 refine ⟨_,_,run_buildSliceR ho Tryz.underlying37 (cells:=#[x0,x1,x2,x3,x4,x5]) ?_,below_alloc _ _,some ⟨w.heap.size,0,none⟩,2,rfl,Nat.le_refl _,by simp [maxLen],Or.inr ⟨_,0,rfl,fun h=>by have:=ob _ h; omega,by simp,fun i m' hm'=>?_⟩⟩
 ·simp only [List.map_toArray,List.map_cons,List.map_nil,f0,f1]
  exact built_l2 _ _ _ _ _ _
 ·match i with
  | 0 =>
   obtain rfl:=Option.some.inj hm'
   exact els1 (heap_alloc_at _ _) 0 rfl rfl rfl (below_alloc _ _) h0
  | 1 =>
   obtain rfl:=Option.some.inj hm'
   exact els1 (heap_alloc_at _ _) 1 rfl rfl rfl (below_alloc _ _) h1
  | i + 2=>simp at hm'
theorem lit2C {a:Act} {o:Oper} {w:World} {t0 t1:Tmp} {q0 q1:Rat} {k:Nat} (ob:OB O w) (h0:isC q0 k w (sl a t0)) (h1:isC q1 k w (sl a t1)) (ho:o.op = .buildSlice 37 2 #[(0,.tmp t0),(1,.tmp t1)]:=by rfl):∃ v w',(execOp a.eval o).run Tryz.prog w = .ok (.value v) w'∧Below w.heap.size w w'∧(mSl 3 (lC [q0,q1] k)).S O w' v:=lit2 (m0:=mC q0 k) (m1:=mC q1 k) ob h0 h0.cv h1 h1.cv ho
theorem built_l3 (x0 x1 x2 x3 x4 x5 x6 x7 x8:Value):Tryz.prog.builtSlice 26 3 [(0,.agg #[x0,x1,x2]),(1,.agg #[x3,x4,x5]),(2,.agg #[x6,x7,x8])]=some #[x0,x1,x2,x3,x4,x5,x6,x7,x8]:=by kernel_rfl
theorem lit3 {a:Act} {o:Oper} {w:World} {t0 t1 t2:Tmp} {m0 m1 m2:MP} (ob:OB O w) (h0:m0.S O w (sl a t0)) (c0:cv 3 (sl a t0)) (h1:m1.S O w (sl a t1)) (c1:cv 3 (sl a t1)) (h2:m2.S O w (sl a t2)) (c2:cv 3 (sl a t2)) (ho:o.op = .buildSlice 37 3 #[(0,.tmp t0),(1,.tmp t1),(2,.tmp t2)]:=by rfl):∃ v w',(execOp a.eval o).run Tryz.prog w = .ok (.value v) w'∧Below w.heap.size w w'∧(mSl 3 [m0,m1,m2]).S O w' v:=by
 obtain ⟨x0,x1,x2,e0⟩:=cv3 c0
 have f0:a.eval (.tmp t0) = .agg #[x0,x1,x2]:=e0
 rw [e0] at h0
 obtain ⟨x3,x4,x5,e1⟩:=cv3 c1
 have f1:a.eval (.tmp t1) = .agg #[x3,x4,x5]:=e1
 rw [e1] at h1
 obtain ⟨x6,x7,x8,e2⟩:=cv3 c2
 have f2:a.eval (.tmp t2) = .agg #[x6,x7,x8]:=e2
 rw [e2] at h2
 refine ⟨_,_,run_buildSliceR ho Tryz.underlying37 (cells:=#[x0,x1,x2,x3,x4,x5,x6,x7,x8]) ?_,below_alloc _ _,some ⟨w.heap.size,0,none⟩,3,rfl,Nat.le_refl _,by simp [maxLen],Or.inr ⟨_,0,rfl,fun h=>by have:=ob _ h; omega,by simp,fun i m' hm'=>?_⟩⟩
 ·simp only [List.map_toArray,List.map_cons,List.map_nil,f0,f1,f2]
  exact built_l3 _ _ _ _ _ _ _ _ _
 ·match i with
  | 0 =>
   obtain rfl:=Option.some.inj hm'
   exact els1 (heap_alloc_at _ _) 0 rfl rfl rfl (below_alloc _ _) h0
  | 1 =>
   obtain rfl:=Option.some.inj hm'
   exact els1 (heap_alloc_at _ _) 1 rfl rfl rfl (below_alloc _ _) h1
  | 2 =>
   obtain rfl:=Option.some.inj hm'
   exact els1 (heap_alloc_at _ _) 2 rfl rfl rfl (below_alloc _ _) h2
  | i + 3=>simp at hm'
theorem lit3C {a:Act} {o:Oper} {w:World} {t0 t1 t2:Tmp} {q0 q1 q2:Rat} {k:Nat} (ob:OB O w) (h0:isC q0 k w (sl a t0)) (h1:isC q1 k w (sl a t1)) (h2:isC q2 k w (sl a t2)) (ho:o.op = .buildSlice 37 3 #[(0,.tmp t0),(1,.tmp t1),(2,.tmp t2)]:=by rfl):∃ v w',(execOp a.eval o).run Tryz.prog w = .ok (.value v) w'∧Below w.heap.size w w'∧(mSl 3 (lC [q0,q1,q2] k)).S O w' v:=lit3 (m0:=mC q0 k) (m1:=mC q1 k) (m2:=mC q2 k) ob h0 h0.cv h1 h1.cv h2 h2.cv ho
theorem built_l4 (x0 x1 x2 x3 x4 x5 x6 x7 x8 x9 x10 x11:Value):Tryz.prog.builtSlice 26 4 [(0,.agg #[x0,x1,x2]),(1,.agg #[x3,x4,x5]),(2,.agg #[x6,x7,x8]),(3,.agg #[x9,x10,x11])]=some #[x0,x1,x2,x3,x4,x5,x6,x7,x8,x9,x10,x11]:=by kernel_rfl
theorem lit4 {a:Act} {o:Oper} {w:World} {t0 t1 t2 t3:Tmp} {m0 m1 m2 m3:MP} (ob:OB O w) (h0:m0.S O w (sl a t0)) (c0:cv 3 (sl a t0)) (h1:m1.S O w (sl a t1)) (c1:cv 3 (sl a t1)) (h2:m2.S O w (sl a t2)) (c2:cv 3 (sl a t2)) (h3:m3.S O w (sl a t3)) (c3:cv 3 (sl a t3)) (ho:o.op = .buildSlice 37 4 #[(0,.tmp t0),(1,.tmp t1),(2,.tmp t2),(3,.tmp t3)]:=by rfl):∃ v w',(execOp a.eval o).run Tryz.prog w = .ok (.value v) w'∧Below w.heap.size w w'∧(mSl 3 [m0,m1,m2,m3]).S O w' v:=by
 obtain ⟨x0,x1,x2,e0⟩:=cv3 c0
 have f0:a.eval (.tmp t0) = .agg #[x0,x1,x2]:=e0
 rw [e0] at h0
 obtain ⟨x3,x4,x5,e1⟩:=cv3 c1
 have f1:a.eval (.tmp t1) = .agg #[x3,x4,x5]:=e1
 rw [e1] at h1
 obtain ⟨x6,x7,x8,e2⟩:=cv3 c2
 have f2:a.eval (.tmp t2) = .agg #[x6,x7,x8]:=e2
 rw [e2] at h2
 obtain ⟨x9,x10,x11,e3⟩:=cv3 c3
 have f3:a.eval (.tmp t3) = .agg #[x9,x10,x11]:=e3
 rw [e3] at h3
 refine ⟨_,_,run_buildSliceR ho Tryz.underlying37 (cells:=#[x0,x1,x2,x3,x4,x5,x6,x7,x8,x9,x10,x11]) ?_,below_alloc _ _,some ⟨w.heap.size,0,none⟩,4,rfl,Nat.le_refl _,by simp [maxLen],Or.inr ⟨_,0,rfl,fun h=>by have:=ob _ h; omega,by simp,fun i m' hm'=>?_⟩⟩
 ·simp only [List.map_toArray,List.map_cons,List.map_nil,f0,f1,f2,f3]
  exact built_l4 _ _ _ _ _ _ _ _ _ _ _ _
 ·match i with
  | 0 =>
   obtain rfl:=Option.some.inj hm'
   exact els1 (heap_alloc_at _ _) 0 rfl rfl rfl (below_alloc _ _) h0
  | 1 =>
   obtain rfl:=Option.some.inj hm'
   exact els1 (heap_alloc_at _ _) 1 rfl rfl rfl (below_alloc _ _) h1
  | 2 =>
   obtain rfl:=Option.some.inj hm'
   exact els1 (heap_alloc_at _ _) 2 rfl rfl rfl (below_alloc _ _) h2
  | 3 =>
   obtain rfl:=Option.some.inj hm'
   exact els1 (heap_alloc_at _ _) 3 rfl rfl rfl (below_alloc _ _) h3
  | i + 4=>simp at hm'
theorem lit4C {a:Act} {o:Oper} {w:World} {t0 t1 t2 t3:Tmp} {q0 q1 q2 q3:Rat} {k:Nat} (ob:OB O w) (h0:isC q0 k w (sl a t0)) (h1:isC q1 k w (sl a t1)) (h2:isC q2 k w (sl a t2)) (h3:isC q3 k w (sl a t3)) (ho:o.op = .buildSlice 37 4 #[(0,.tmp t0),(1,.tmp t1),(2,.tmp t2),(3,.tmp t3)]:=by rfl):∃ v w',(execOp a.eval o).run Tryz.prog w = .ok (.value v) w'∧Below w.heap.size w w'∧(mSl 3 (lC [q0,q1,q2,q3] k)).S O w' v:=lit4 (m0:=mC q0 k) (m1:=mC q1 k) (m2:=mC q2 k) (m3:=mC q3 k) ob h0 h0.cv h1 h1.cv h2 h2.cv h3 h3.cv ho
end Go.Proofs.YtcankknlbljicaaGreatDoor

namespace Go.Proofs.YtcankknlbljicaaGreatDoor
open Go.RowKit Num

set_option maxRecDepth 100000
set_option maxHeartbeats 2000000
theorem l5_awake   {w:World} {O:Bs}   (hT:Tb w) (ho:OB O w) :
    Calls Tryz.prog 22 #[] w (RetM (mV (.bool (true))) O w):=by
 refine st_start 50 Tryz.func22 [] trivial ho fun a S=>?_
 refine wp_seq ?_
 refine st_seq S 0 [] [] trivial (L':=[]) ?_ fun a1 w2 S3=>?_
 · rfl
 refine t_asgC S3 fun a5 S6=>?_
 refine wpList_nil (then_normal ?_)
 refine wp_seq ?_
 refine st_seq S6 1 [?_] [(true,0),(false,0)] ⟨?_,trivial⟩ (L':=[(5,?_),(0,?_)]) ?_ fun a7 w8 S9=>?_
 rotate_left 3
 · exact opC S6.r rfl fun c B=>⟨_,args_1 rfl,(r_of (1) (by omega) (by omega))⟩
 · rfl
 refine t_alloc S9 zero_Rat (fun _ _ _=>bx_Rat) fun O a11 w12 g13 S14=>?_
 refine t_sto S14 0 1 0 rfl isC.cv (fun w15 S16=>?_) info_Rat
 refine wpList_nil (then_normal ?_)
 refine wp_seq ?_
 refine st_mono S16 15 [?_,?_,?_,?_,?_,?_,?_,?_,?_,?_,?_,?_,?_,?_,?_] [(true,12),(true,13),(true,14),(false,0),(false,2)] ⟨?_,?_,?_,?_,?_,?_,?_,?_,?_,?_,?_,?_,?_,?_,?_,trivial⟩ (L':=[(2,?_),(3,?_),(4,?_),(1,?_),(0,?_)]) ?_ fun a17 w18 S19=>?_
 rotate_left 20
 · exact opC S16.r rfl fun c B=>⟨_,args_1 rfl,(r_of (0) (by omega) (by omega))⟩
 · exact opC S16.r rfl fun c B=>⟨_,args_1 rfl,(r_of (0) (by omega) (by omega))⟩
 · exact opL S16.r 0 Tryz.underlying26 info_Rat fun c=>(c.q 0 rfl)
 · exact opN S16.r fun c=>lit3C (S16.obc c.wb) (c.h 0 rfl) (c.h 1 rfl) (c.h 2 rfl)
 · exact opC S16.r rfl fun c B=>⟨_,args_1 rfl,(r_of (-1) (by omega) (by omega))⟩
 · exact opL S16.r 0 Tryz.underlying26 info_Rat fun c=>(c.q 0 rfl)
 · exact opN S16.r fun c=>lit2C (S16.obc c.wb) (c.h 0 rfl) (c.h 1 rfl)
 · exact opC S16.r rfl fun c B=>⟨_,args_2 rfl rfl,(p_divmod (ps:=awp1) (qs:=awp2) (L:=3) (K1:=14) (KR:=1) (KE:=1) (by decide) (by decide) (by omega) (by omega) (by omega) (by omega) (by omega) (by omega) (by omega) (by omega) (fun t l ht=>szl_sz (upto_at aw_1 (Nat.le_trans ht aw_n)) l) (fun t ht=>szb_sz (upto_at aw_2 (Nat.le_trans ht aw_n))) (slC_r (c.h 0 rfl)) (slC_r (c.h 1 rfl)) (hT.below B) (S16.obc c.wb))⟩
 · exact opP S16.r fun c=>⟨_,run_move rfl,(c.h 0 rfl)⟩
 · exact opP S16.r fun c=>ext3_0 rfl (c.h 0 rfl)
 · exact opP S16.r fun c=>ext3_1 rfl (c.h 0 rfl)
 · exact opP S16.r fun c=>ext3_2 rfl (c.h 0 rfl)
 · exact opP S16.r fun c=>⟨_,run_assign rfl,(c.h 0 rfl)⟩
 · exact opP S16.r fun c=>⟨_,run_assign rfl,(c.h 0 rfl)⟩
 · exact opV S16.r fun c=>run_v (run_assign rfl) (c.e 0 rfl)
 · rfl
 refine wpList_nil (then_normal ?_)
 refine wp_seq ?_
 refine st_mono S19 33 [?_,?_,?_,?_,?_,?_,?_,?_,?_,?_,?_,?_,?_,?_,?_,?_,?_,?_,?_,?_,?_,?_,?_,?_,?_,?_,?_,?_,?_,?_,?_,?_,?_] [(true,32)] ⟨?_,?_,?_,?_,?_,?_,?_,?_,?_,?_,?_,?_,?_,?_,?_,?_,?_,?_,?_,?_,?_,?_,?_,?_,?_,?_,?_,?_,?_,?_,?_,?_,?_,trivial⟩ (L':=[(0,?_)]) ?_ fun a21 w22 S23=>?_
 rotate_left 34
 · exact opV S19.r fun c=>run_v (run_move rfl) (c.q 2 rfl)
 · exact opV S19.r fun c=>run_b (y:=true) (run_eql rfl (c.e 0 rfl) rfl) (aw_e0)
 · exact opV S19.r fun c=>run_v (run_move rfl) (c.e 0 rfl)
 · exact opT S19.r 0 (opP S19.r fun c=>⟨_,run_move rfl,(c.o 0 rfl)⟩)
 · exact opT S19.r 0 (opL S19.r 0 Tryz.underlying26 info_Rat fun c=>(c.q 3 rfl))
 · exact opT S19.r 0 (opL S19.r 0 Tryz.underlying26 info_Rat fun c=>(c.q 3 rfl))
 · exact opT S19.r 2 (opN S19.r fun c=>lit2C (S19.obc c.wb) (c.h 0 rfl) (c.h 1 rfl))
 · exact opT S19.r 2 (opC S19.r rfl fun c B=>⟨_,args_2 rfl rfl,ret_b (y:=true) (r5_equal (by first | omega | decide +kernel) (by first | omega | decide +kernel) (by omega) (by omega) (c.h 0 rfl) (c.h 1 rfl) (S19.obc c.wb)) (aw_q)⟩)
 · exact opE S19.r fun c=>⟨_,run_pick rfl (c.e 0 rfl),pick_and (fun _=>(c.e 1 rfl))⟩
 · exact opV S19.r fun c=>run_v (run_move rfl) (c.e 0 rfl)
 · exact opT S19.r 0 (opP S19.r fun c=>⟨_,run_move rfl,(c.o 1 rfl)⟩)
 · exact opT S19.r 0 (opL S19.r 0 Tryz.underlying26 info_Rat fun c=>(c.q 3 rfl))
 · exact opT S19.r 1 (opN S19.r fun c=>lit1C (S19.obc c.wb) (c.h 0 rfl))
 · exact opT S19.r 2 (opC S19.r rfl fun c B=>⟨_,args_2 rfl rfl,ret_b (y:=true) (r5_equal (by first | omega | decide +kernel) (by first | omega | decide +kernel) (by omega) (by omega) (c.h 0 rfl) (c.h 1 rfl) (S19.obc c.wb)) (aw_r)⟩)
 · exact opE S19.r fun c=>⟨_,run_pick rfl (c.e 0 rfl),pick_and (fun _=>(c.e 1 rfl))⟩
 · exact opV S19.r fun c=>run_v (run_move rfl) (c.e 0 rfl)
 · exact opT S19.r 0 (opC S19.r rfl fun c B=>⟨_,args_1 rfl,(p_degree (qs:=[]) (k:=2) (by decide) (by decide) (slC_r (nil_L (qs:=[]) rfl rfl)) (S19.obc c.wb))⟩)
 · exact opT S19.r 1 (opV S19.r fun c=>run_b (y:=true) (run_eql rfl (c.e 0 rfl) rfl) (aw_d))
 · exact opE S19.r fun c=>⟨_,run_pick rfl (c.e 0 rfl),pick_and (fun _=>(c.e 1 rfl))⟩
 · exact opV S19.r fun c=>run_v (run_move rfl) (c.e 0 rfl)
 · exact opT S19.r 0 (opC S19.r rfl fun c B=>⟨_,args_1 rfl,(r_of (0) (by omega) (by omega))⟩)
 · exact opT S19.r 1 (opC S19.r rfl fun c B=>⟨_,args_1 rfl,(r_of (0) (by omega) (by omega))⟩)
 · exact opT S19.r 1 (opC S19.r rfl fun c B=>⟨_,args_1 rfl,(r_of (-1) (by omega) (by omega))⟩)
 · exact opT S19.r 0 (opL S19.r 0 Tryz.underlying26 info_Rat fun c=>(c.q 3 rfl))
 · exact opT S19.r 4 (opN S19.r fun c=>lit4C (S19.obc c.wb) (c.h 0 rfl) (c.h 1 rfl) (c.h 2 rfl) (c.h 3 rfl))
 · exact opT S19.r 2 (opC S19.r rfl fun c B=>⟨_,args_1 rfl,(p_sqf (ps:=awp3) (L:=4) (K1:=78) (K:=2) (K3:=38) (KR:=1) (KE:=1) (KS:=204) (by decide) (by omega) (by omega) (by omega) (by omega) (by omega) (by omega) (by omega) (fun P Q l c g=>gz_at aw_gm aw_g P Q l c g) (by omega) (by omega) (by omega) (by omega) (by omega) (fun t l ht=>szl_sz (upto_at aw_3 (Nat.le_trans ht aw_n3)) l) (fun t ht=>szb_sz (upto_at aw_4 (Nat.le_trans ht aw_n3))) (by omega) (slC_r (c.h 0 rfl)) (hT.below B) (S19.obc c.wb))⟩)
 · exact opT S19.r 1 (opC S19.r rfl fun c B=>⟨_,args_1 rfl,(r_of (0) (by omega) (by omega))⟩)
 · exact opT S19.r 1 (opC S19.r rfl fun c B=>⟨_,args_1 rfl,(r_of (-1) (by omega) (by omega))⟩)
 · exact opT S19.r 0 (opL S19.r 0 Tryz.underlying26 info_Rat fun c=>(c.q 3 rfl))
 · exact opT S19.r 3 (opN S19.r fun c=>lit3C (S19.obc c.wb) (c.h 0 rfl) (c.h 1 rfl) (c.h 2 rfl))
 · exact opT S19.r 3 (opC S19.r rfl fun c B=>⟨_,args_2 rfl rfl,ret_b (y:=true) (r5_equal (by first | omega | decide +kernel) (by first | omega | decide +kernel) (by omega) (by omega) (c.h 0 rfl) (c.h 1 rfl) (S19.obc c.wb)) (aw_s)⟩)
 · exact opE S19.r fun c=>⟨_,run_pick rfl (c.e 0 rfl),pick_and (fun _=>(c.e 1 rfl))⟩
 · exact opV S19.r fun c=>run_v (run_assign rfl) (c.e 0 rfl)
 · rfl
 refine wpList_nil (then_normal ?_)
 refine wp_ret ?_
 exact st_endT S23 0 rfl fun v h=>h
end Go.Proofs.YtcankknlbljicaaGreatDoor

namespace Go.Proofs.YtcankknlbljicaaGreatDoor
open Go.RowKit Num
variable {O : Bs}

theorem lit1L {a:Act} {o:Oper} {w:World} {t:Tmp} {m:MP} (ob:OB O w) (h0:m.S O w (sl a t)) (c0:cv 3 (sl a t)) (ho:o.op = .buildSlice 36 1 #[(0,.tmp t)]:=by rfl):∃ v w',(execOp a.eval o).run Tryz.prog w = .ok (.value v) w'∧Below w.heap.size w w'∧(mSl 3 [m]).S O w' v:=by
 obtain ⟨x0,x1,x2,e0⟩:=cv3 c0
 have e0':a.eval (.tmp t) = .agg #[x0,x1,x2]:=e0
 rw [e0] at h0
 refine ⟨_,_,run_buildSliceR ho Tryz.underlying36 (cells:=#[x0,x1,x2]) ?_,below_alloc _ _,some ⟨w.heap.size,0,none⟩,1,rfl,Nat.le_refl _,by simp [maxLen],Or.inr ⟨_,0,rfl,fun h=>by have:=ob _ h; omega,by simp,fun i m' hm'=>?_⟩⟩
 ·simp only [List.map_toArray,List.map_cons,List.map_nil,e0']
  exact built_l1 _ _ _
 ·match i with
  | 0 =>
   obtain rfl:=Option.some.inj hm'
   exact els1 (heap_alloc_at _ _) 0 rfl rfl rfl (below_alloc _ _) h0
  | i + 1=>simp at hm'
theorem lit1CL {a:Act} {o:Oper} {w:World} {t:Tmp} {q:Rat} {k:Nat} (ob:OB O w) (h0:isC q k w (sl a t)) (ho:o.op = .buildSlice 36 1 #[(0,.tmp t)]:=by rfl):∃ v w',(execOp a.eval o).run Tryz.prog w = .ok (.value v) w'∧Below w.heap.size w w'∧(mSl 3 (lC [q] k)).S O w' v:=lit1L (m:=mC q k) ob h0 h0.cv ho
section
variable {ops : Array Oper} {rest : List Oper} {o : Oper} {a : Act} {w : World} {Q : Exit → Act → World → Prop} {N : Nat} {O0 : Bs} {W0 : World} {L : List (Nat × MP)} {X : List RX}
theorem t_appQL (S:St N O0 O W0 a w L X) (i k:Nat) {d:Tmp} {t u:Tmp} {v:Value} {qs rs:List Rat} {K:Nat} (hi:L[i]?=some (t,mV v)) (hk:X[k]?=some (.own v 26 3 (lC qs K))) (hx:isSl O w 3 (lC rs K) (sl a u)) (hlen:qs.length + rs.length≤1000000000)
  (h:∀ O' a' w' v',St N O0 O' W0 a' w' (setL d (mV v') L) (X.set k (.own v' 26 3 (lC (qs ++ rs) K)))→wpList Tryz.prog ops Q rest a' w') (ho:o.op = .call { callee:=.builtin .append,args:=#[.tmp t,.tmp u],argTypes:=#[36,36] }:=by rfl) (hg:o.guard=none:=by rfl) (hd:o.dst=some d:=by rfl) (hlt:d < N:=by decide):wpList Tryz.prog ops Q (o :: rest) a w:=by
 obtain ⟨inf,h1,h2,h3,h4⟩:=info_parts infoR
 refine t_app S i k Tryz.underlying36 h1 h2 (es:=3) h3 (by rw [h4]; decide) rfl zero_cells (show isSl O w 3 (lC rs K) (a.eval (.tmp u)) from hx) (fun m hm x hx=>lC_ec hm hx) (by rw [lC_len,lC_len]; exact hlen) (fun O' a' w' v' S'=>h O' a' w' v' ?_) ho hk hi hg hd hlt
 have e:lC qs K ++ lC rs K=lC (qs ++ rs) K:=by simp [lC]
 rw [← e]; exact S'
end
theorem lR_set (qs:List Rat) (k n:Nat) (x:Rat):(lR qs k).set n (mR x k)=lR (qs.set n x) k:=by simp [lR,List.map_set]
section
variable {ops : Array Oper} {rest : List Oper} {o : Oper} {a : Act} {w : World} {Q : Exit → Act → World → Prop} {N : Nat} {O0 : Bs} {W0 : World} {L : List (Nat × MP)} {X : List RX}
theorem t_stoR (S:St N O0 O W0 a w L X) (i j k:Nat) {t u:Tmp} {v:Value} {q K:Nat} {qs:List Rat} {x:Rat} {m:MP} (hi:L[i]?=some (t,mV (elP v 3 q))) (hk:X[k]?=some (.own v 26 3 (lR qs K))) (hj:L[j]?=some (u,m)) (hq:q < qs.length) (hA:∀ w y,m.S O w y→isR x K w y)
  (h:∀ w',St N O0 O W0 a w' L (X.set k (.own v 26 3 (lR (qs.set q x) K)))→wpList Tryz.prog ops Q rest a w') (ho:o.op = .store 26 (.tmp t) (.tmp u):=by rfl) (hg:o.guard=none:=by rfl) (hd:o.dst=none:=by rfl):wpList Tryz.prog ops Q (o :: rest) a w:=by
 have hlt:=(List.getElem?_eq_some_iff.1 hk).1
 refine t_stoE S i j k q (by rw [lR_len]; exact hq) (fun hv=>isR.cv (hA _ _ hv)) (fun w' S'=>h w' ?_) info_Rat hk hi hj ho hg hd
 have hk':(X.set k (.own v 26 (2 + 1) ((lR qs K).set q m)))[k]?=some (.own v 26 (2 + 1) ((lR qs K).set q m)):=List.getElem?_set_self hlt
 have S2:=S'.reX k (q:=.own v 26 3 (lR (qs.set q x) K)) hk' rfl (ownR.conv (S'.f k hk') (by simp [lR]) fun l m1 m2 e1 e2 y hy=>?_)
 ·rwa [List.set_set] at S2
 ·rw [← lR_set] at e2
  by_cases hql:q=l
  ·subst hql
   rw [List.getElem?_set_self (by rw [lR_len]; exact hq)] at e1 e2
   obtain rfl:=Option.some.inj e1
   obtain rfl:=Option.some.inj e2
   exact hA _ _ hy
  ·rw [List.getElem?_set_ne hql] at e1 e2
   rw [e1] at e2
   obtain rfl:=Option.some.inj e2
   exact hy
end
theorem own_z {O:Bs} {w:World} {T:TypeId} {v:Value} {n K:Nat} {A:Nat→MP} {qs:List Rat} (hl:qs.length=n) (hz:∀ j,qs.getD j 0=0) (h:ownR O w T 3 v (rowI n 0 A fun _=>mZ)):ownR O w T 3 v (lR qs K) :=
 ownR.conv h (by rw [lR_len,rowI_len,hl]) fun l m1 m2 e1 e2 x hx=>by
  have hln:l < n:=by
   have:=(List.getElem?_eq_some_iff.1 e1).1
   rwa [rowI_len] at this
  rw [rowI_get hln,if_neg (by omega)] at e1
  obtain rfl:=Option.some.inj e1
  rw [(lR_lt e2).2]
  exact isZ.r0 (hz l) hx
def lI (ts:List Int) (_:Nat):List MP:=ts.map fun t=>mV (.int .i64 t)
theorem lI_len (ts:List Int) (k:Nat):(lI ts k).length=ts.length:=by simp [lI]
theorem lI_get {ts:List Int} {k i:Nat} (h:i < ts.length):(lI ts k)[i]?=some (mV (.int .i64 (ts.getD i 0))):=by
 unfold lI; rw [List.getElem?_map,List.getElem?_eq_getElem h]; simp [h]
theorem infoIz:(Tryz.prog.info? 3).map (·.size)=some (zc 0):=by kernel_rfl
end Go.Proofs.YtcankknlbljicaaGreatDoor

namespace Go.Proofs.YtcankknlbljicaaGreatDoor
open Go.RowKit Num

set_option maxRecDepth 100000
set_option maxHeartbeats 2000000
end Go.Proofs.YtcankknlbljicaaGreatDoor

namespace Go.Proofs.YtcankknlbljicaaGreatDoor
open Go.RowKit Num

set_option maxRecDepth 100000
set_option maxHeartbeats 2000000
theorem r5_mul {ps qs:List Rat} {k m:Nat} {L K:Nat} {v0:Value} {v1:Value} {w:World} {O:Bs} (hn:ps.length≤L) (hL:L≤9999) (hl:qs.length≤9999) (hk:k≤99990000) (hm:m≤99990000) (hK:L * (k + m + 3) + 2≤K) (hK2:K≤333330000) (pf0:(mSl 3 (lR ps (k))).S O w v0) (pf1:(mSl 3 (lR qs (m))).S O w v1) (ho:OB O w) :
    Calls Tryz.prog 47 #[v0,v1] w (RetM (mSl 3 (lC (cutQ (mulQ (cutQ ps) (cutQ qs))) (K + 1))) O w):=by
 refine st_start 62 Tryz.func47 [(mSl 3 (lR ps (k))),(mSl 3 (lR qs (m)))] ⟨pf0,pf1,trivial⟩ ho fun a S=>?_
 have hsp:∀ j,Sz ((cutQ ps).getD j 0) (k + 1):=fun j=>by rw [getQ_cut]; exact lR_sz pf0 j
 have hsq:∀ j,Sz ((cutQ qs).getD j 0) (m + 1):=fun j=>by rw [getQ_cut]; exact lR_sz pf1 j
 have hc1:=cutQ_le ps
 have hc2:=cutQ_le qs
 refine wp_seq ?_
 refine st_seq S 0 [] [(false,0),(false,1)] trivial (L':=[(0,?_),(1,?_)]) ?_ fun a1 w2 S3=>?_
 rotate_left 2
 · rfl
 refine t_asgC S3 fun a5 S6=>?_
 refine wpList_nil (then_normal ?_)
 refine wp_seq ?_
 refine st_seq S6 4 [?_,?_,?_,?_] [(true,1),(true,3),(false,0),(false,1),(false,2)] ⟨?_,?_,?_,?_,trivial⟩ (L':=[(9,?_),(11,?_),(4,?_),(0,?_),(1,?_)]) ?_ fun a7 w8 S9=>?_
 rotate_left 9
 · exact opP S6.r fun c=>⟨_,run_move rfl,(c.o 1 rfl)⟩
 · exact opC S6.r rfl fun c B=>⟨_,args_1 rfl,(r5_trim (by omega) (by omega) (c.h 0 rfl) (S6.obc c.wb))⟩
 · exact opP S6.r fun c=>⟨_,run_move rfl,(c.o 2 rfl)⟩
 · exact opC S6.r rfl fun c B=>⟨_,args_1 rfl,(r5_trim (by omega) (by omega) (c.h 0 rfl) (S6.obc c.wb))⟩
 · rfl
 refine t_asg S9 0 fun a11 S12=>?_
 refine t_asg S12 2 fun a13 S14=>?_
 refine wpList_nil (then_normal ?_)
 refine wp_seq ?_
 refine wp_seq ?_
 refine st_seq S14 8 [?_,?_,?_,?_,?_,?_,?_,?_] [(true,7),(false,0),(false,1),(false,4)] ⟨?_,?_,?_,?_,?_,?_,?_,?_,trivial⟩ (L':=[(19,?_),(1,?_),(0,?_),(4,?_)]) ?_ fun a15 w16 S17=>?_
 rotate_left 12
 · exact opP S14.r fun c=>⟨_,run_move rfl,(c.o 1 rfl)⟩
 · exact opV S14.r fun c=>len_L ((cutQ ps).length) Tryz.underlying37 (c.h 0 rfl) (lC_len _ _)
 · exact opV S14.r fun c=>run_eql rfl (c.e 0 rfl) rfl
 · exact opV S14.r fun c=>run_v (run_move rfl) (c.e 0 rfl)
 · exact opG S14.r 0 (fun hγ=>opP S14.r fun c=>⟨_,run_move rfl,(c.o 0 rfl)⟩) gF
 · exact opG S14.r 1 (fun hγ=>opV S14.r fun c=>len_L ((cutQ qs).length) Tryz.underlying37 (c.h 0 rfl hγ) (lC_len _ _)) gF
 · exact opG S14.r 1 (fun hγ=>opV S14.r fun c=>run_eql rfl (ev (c.h 0 rfl hγ)) rfl) gF
 · exact opE S14.r fun c=>⟨_,run_pick rfl (c.e 0 rfl),pick_or fun h=>(c.h 1 rfl) (by rw [h]; rfl)⟩
 · rfl
 refine wpList_nil (then_normal ?_)
 refine cond_b _ (ev (S17.sl 0 rfl)) (fun hb19=>?_) (fun hb19=>?_)
 ·refine wp_seq ?_
  refine st_seq S17 0 [] [(false,1),(false,2),(false,3)] trivial (L':=[(1,?_),(0,?_),(4,?_)]) ?_ fun a20 w21 S22=>?_
  rotate_left 3
  · rfl
  refine t_asgC S22 fun a24 S25=>?_
  refine wpList_nil (then_normal ?_)
  refine wp_ret ?_
  exact st_endT S25 0 rfl fun v h=>(nil_L (mulC_nil hb19) h)
 ·obtain ⟨hp1,hq1⟩:=or0 hb19
  refine wp_skip (then_normal ?_)
  refine wp_seq ?_
  refine st_seq S17 6 [?_,?_,?_,?_,?_,?_] [(true,5),(false,1),(false,2),(false,3)] ⟨?_,?_,?_,?_,?_,?_,trivial⟩ (L':=[(25,?_),(1,?_),(0,?_),(4,?_)]) ?_ fun a26 w27 S28=>?_
  rotate_left 10
  · exact opP S17.r fun c=>⟨_,run_move rfl,(c.o 2 rfl)⟩
  · exact opV S17.r fun c=>len_L ((cutQ ps).length) Tryz.underlying37 (c.h 0 rfl) (lC_len _ _)
  · exact opP S17.r fun c=>⟨_,run_move rfl,(c.o 1 rfl)⟩
  · exact opV S17.r fun c=>len_L ((cutQ qs).length) Tryz.underlying37 (c.h 0 rfl) (lC_len _ _)
  · exact opV S17.r fun c=>run_add rfl (c.e 0 rfl) (c.e 1 rfl) (by omega) (by omega)
  · exact opV S17.r fun c=>run_sub rfl (c.e 0 rfl) rfl (by omega) (by omega)
  · rfl
  refine t_makeI S28 (fun _=>mZ) (S28.e 0 rfl) (n:=((cutQ ps).length) + ((cutQ qs).length) - 1) (by omega) (by omega) fun O a30 w31 v32 S33=>?_
  refine t_asg S33 0 fun a34 S35=>?_
  refine wpList_nil (then_normal ?_)
  refine wp_seq ?_
  refine wp_seq ?_
  refine st_seq S35 3 [?_,?_,?_] [(true,1),(true,2),(false,0),(false,3),(false,4),(false,5)] ⟨?_,?_,?_,trivial⟩ (L':=[(28,?_),(29,?_),(5,?_),(1,?_),(0,?_),(4,?_)]) ?_ fun a36 w37 S38=>?_
  rotate_left 9
  · exact opP S35.r fun c=>⟨_,run_move rfl,(c.o 4 rfl)⟩
  · exact opV S35.r fun c=>len_L ((cutQ ps).length) Tryz.underlying37 (c.h 0 rfl) (lC_len _ _)
  · exact opV S35.r fun c=>run_moveC rfl
  · rfl
  refine wpList_nil (then_normal ?_)
  refine wp_block ?_
  refine st_loop (τ:=Nat) (fun i=>[(28,(mV (.int .i64 (((cutQ ps).length:Nat):Int)))),(29,(mV (.int .i64 ((i:Nat):Int)))),(5,(mV (v32))),(1,(mSl 3 (lC (cutQ qs) (m + 1)))),(0,(mSl 3 (lC (cutQ ps) (k + 1)))),(4,(mV (.slice none 0 0)))]) (fun i=>[.own v32 26 3 (lR (outQ (cutQ ps) (cutQ qs) i) (K))]) (fun i=>i≤(cutQ ps).length) (fun i=>(cutQ ps).length - i) 0 (Nat.zero_le _) (S38.toX ⟨S38.sl 0 rfl,S38.sl 1 rfl,S38.sl 2 rfl,S38.sl 3 rfl,S38.sl 4 rfl,S38.sl 5 rfl,trivial⟩ ⟨(own_z (outQ_len _ _ 0) outQ_zero (S38.f 0 rfl)),trivial⟩) ?_
  rintro i O a42 w43 hp44 S45
  try dsimp only at hp44 S45
  have hol:=outQ_len (cutQ ps) (cutQ qs) i
  refine wp_seq ?_
  refine st_seq S45 1 [?_] [(true,0),(false,0),(false,1),(false,2),(false,3),(false,4),(false,5)] ⟨?_,trivial⟩ (L':=[(30,?_),(28,?_),(29,?_),(5,?_),(1,?_),(0,?_),(4,?_)]) ?_ fun a46 w47 S48=>?_
  rotate_left 8
  · exact opV S45.r fun c=>run_lss rfl (c.q 1 rfl) (c.q 0 rfl)
  · rfl
  refine wpList_nil (then_normal ?_)
  refine wp_seq ?_
  refine cond_b _ (ev (S48.sl 0 rfl)) (fun hb50=>?_) (fun hb50=>?_)
  ·have hb50p:=of_decide_eq_true hb50
   refine wp_skip (then_normal ?_)
   refine wp_seq ?_
   refine wp_block ?_
   refine wp_seq ?_
   refine st_seq S48 1 [?_] [(true,0),(false,1),(false,2),(false,3),(false,4),(false,5),(false,6)] ⟨?_,trivial⟩ (L':=[(31,?_),(28,?_),(29,?_),(5,?_),(1,?_),(0,?_),(4,?_)]) ?_ fun a51 w52 S53=>?_
   rotate_left 8
   · exact opV S48.r fun c=>run_v (run_move rfl) (c.q 2 rfl)
   · rfl
   refine t_asg S53 0 fun a55 S56=>?_
   refine wpList_nil (then_normal ?_)
   refine wp_seq ?_
   refine st_seq S56 3 [?_,?_,?_] [(true,1),(true,2),(false,0),(false,2),(false,3),(false,4),(false,5),(false,6),(false,7)] ⟨?_,?_,?_,trivial⟩ (L':=[(33,?_),(34,?_),(6,?_),(28,?_),(29,?_),(5,?_),(1,?_),(0,?_),(4,?_)]) ?_ fun a57 w58 S59=>?_
   rotate_left 12
   · exact opP S56.r fun c=>⟨_,run_move rfl,(c.o 5 rfl)⟩
   · exact opV S56.r fun c=>len_L ((cutQ qs).length) Tryz.underlying37 (c.h 0 rfl) (lC_len _ _)
   · exact opV S56.r fun c=>run_moveC rfl
   · rfl
   refine wpList_nil (then_normal ?_)
   refine wp_block ?_
   refine st_loop (τ:=Nat) (fun j=>[(33,(mV (.int .i64 (((cutQ qs).length:Nat):Int)))),(34,(mV (.int .i64 ((j:Nat):Int)))),(6,(mV (.int .i64 ((i:Nat):Int)))),(28,(mV (.int .i64 (((cutQ ps).length:Nat):Int)))),(29,(mV (.int .i64 ((i:Nat):Int)))),(5,(mV (v32))),(1,(mSl 3 (lC (cutQ qs) (m + 1)))),(0,(mSl 3 (lC (cutQ ps) (k + 1)))),(4,(mV (.slice none 0 0)))]) (fun j=>[.own v32 26 3 (lR (inQ (cutQ ps) (cutQ qs) i j (outQ (cutQ ps) (cutQ qs) i)) (K))]) (fun j=>j≤(cutQ qs).length) (fun j=>(cutQ qs).length - j) 0 (Nat.zero_le _) (S59.toX ⟨S59.sl 0 rfl,S59.sl 1 rfl,S59.sl 2 rfl,S59.sl 3 rfl,S59.sl 4 rfl,S59.sl 5 rfl,S59.sl 6 rfl,S59.sl 7 rfl,S59.sl 8 rfl,trivial⟩ ⟨S59.f 0 rfl,trivial⟩) ?_
   rintro j O a63 w64 hp65 S66
   try dsimp only at hp65 S66
   have hil:=inQ_len (cutQ ps) (cutQ qs) i j (outQ (cutQ ps) (cutQ qs) i)
   refine wp_seq ?_
   refine st_seq S66 1 [?_] [(true,0),(false,0),(false,1),(false,2),(false,3),(false,4),(false,5),(false,6),(false,7),(false,8)] ⟨?_,trivial⟩ (L':=[(35,?_),(33,?_),(34,?_),(6,?_),(28,?_),(29,?_),(5,?_),(1,?_),(0,?_),(4,?_)]) ?_ fun a67 w68 S69=>?_
   rotate_left 11
   · exact opV S66.r fun c=>run_lss rfl (c.q 1 rfl) (c.q 0 rfl)
   · rfl
   refine wpList_nil (then_normal ?_)
   refine wp_seq ?_
   refine cond_b _ (ev (S69.sl 0 rfl)) (fun hb71=>?_) (fun hb71=>?_)
   ·have hb71p:=of_decide_eq_true hb71
    refine wp_skip (then_normal ?_)
    refine wp_seq ?_
    refine wp_block ?_
    refine wp_seq ?_
    refine st_seq S69 1 [?_] [(true,0),(false,1),(false,2),(false,3),(false,4),(false,5),(false,6),(false,7),(false,8),(false,9)] ⟨?_,trivial⟩ (L':=[(36,?_),(33,?_),(34,?_),(6,?_),(28,?_),(29,?_),(5,?_),(1,?_),(0,?_),(4,?_)]) ?_ fun a72 w73 S74=>?_
    rotate_left 11
    · exact opV S69.r fun c=>run_v (run_move rfl) (c.q 2 rfl)
    · rfl
    refine t_asg S74 0 fun a76 S77=>?_
    refine wpList_nil (then_normal ?_)
    refine st_mono S77 21 [?_,?_,?_,?_,?_,?_,?_,?_,?_,?_,?_,?_,?_,?_,?_,?_,?_,?_,?_,?_,?_] [(true,19),(true,20),(false,2),(false,3),(false,4),(false,5),(false,6),(false,7),(false,8),(false,9),(false,10)] ⟨?_,?_,?_,?_,?_,?_,?_,?_,?_,?_,?_,?_,?_,?_,?_,?_,?_,?_,?_,?_,?_,trivial⟩ (L':=[(56,?_),(57,?_),(33,?_),(34,?_),(6,?_),(28,?_),(29,?_),(5,?_),(1,?_),(0,?_),(4,?_)]) ?_ fun a78 w79 S80=>?_
    rotate_left 32
    · exact opV S77.r fun c=>run_v (run_move rfl) (c.q 7 rfl)
    · exact opV S77.r fun c=>run_v (run_move rfl) (c.q 4 rfl)
    · exact opV S77.r fun c=>run_v (run_move rfl) (c.q 0 rfl)
    · exact opV S77.r fun c=>run_add rfl (c.e 0 rfl) (c.e 1 rfl) (by omega) (by omega)
    · exact opV S77.r fun c=>run_v (run_move rfl) (c.q 7 rfl)
    · exact opV S77.r fun c=>run_v (run_move rfl) (c.q 4 rfl)
    · exact opV S77.r fun c=>run_v (run_move rfl) (c.q 0 rfl)
    · exact opV S77.r fun c=>run_add rfl (c.e 0 rfl) (c.e 1 rfl) (by omega) (by omega)
    · exact opV S77.r fun c=>ix_own Tryz.underlying37 infoRz (c.own 0 rfl) (c.e 0 rfl) (c.e 1 rfl) (i:=i + j) (by omega) (by rw [lR_len]; omega)
    · exact opP S77.r fun c=>ld_own (c.own 0 rfl) (c.e 0 rfl) (lR_get (by omega)) Tryz.underlying26 info_Rat
    · exact opP S77.r fun c=>⟨_,run_move rfl,(c.o 9 rfl)⟩
    · exact opV S77.r fun c=>run_v (run_move rfl) (c.q 4 rfl)
    · exact opP S77.r fun c=>ix_sl Tryz.underlying37 infoRz (c.h 0 rfl) (c.e 1 rfl) (i:=i) (by omega) (lC_get (by omega))
    · exact opP S77.r fun c=>ld_pt (c.h 0 rfl) Tryz.underlying26 info_Rat
    · exact opP S77.r fun c=>⟨_,run_move rfl,(c.o 8 rfl)⟩
    · exact opV S77.r fun c=>run_v (run_move rfl) (c.q 0 rfl)
    · exact opP S77.r fun c=>ix_sl Tryz.underlying37 infoRz (c.h 0 rfl) (c.e 1 rfl) (i:=j) (by omega) (lC_get (by omega))
    · exact opP S77.r fun c=>ld_pt (c.h 0 rfl) Tryz.underlying26 info_Rat
    · exact opC S77.r rfl fun c B=>⟨_,args_2 rfl rfl,(r_mul (by omega) (by omega) (isC.r (c.h 0 rfl)) (isC.r (c.h 1 rfl)))⟩
    · exact opC S77.r rfl fun c B=>⟨_,args_2 rfl rfl,(r_add (by omega) (by omega) (c.h 0 rfl) (isC.r (c.h 1 rfl)))⟩
    · exact opV S77.r fun c=>ix_own Tryz.underlying37 infoRz (c.own 0 rfl) (c.e 0 rfl) (c.e 1 rfl) (i:=i + j) (by omega) (by rw [lR_len]; omega)
    · rfl
    refine t_stoR S80 1 0 0 rfl rfl rfl (by omega) (fun _ _ h=>(isC.re h ((inQ_sz hsp hsq (Nat.le_trans hc1 hn) (by omega) (by omega)).mono hK)).r) fun w82 S83=>?_
    refine wpList_nil (in_normal (then_normal ?_))
    refine st_seq S83 1 [?_] [(true,0),(false,2),(false,3),(false,4),(false,5),(false,6),(false,7),(false,8),(false,9),(false,10)] ⟨?_,trivial⟩ (L':=[(58,?_),(33,?_),(34,?_),(6,?_),(28,?_),(29,?_),(5,?_),(1,?_),(0,?_),(4,?_)]) ?_ fun a84 w85 S86=>?_
    rotate_left 11
    · exact opV S83.r fun c=>run_add rfl (c.q 3 rfl) rfl (by omega) (by omega)
    · rfl
    refine t_val S86 (run_v (run_move rfl) (S86.e 0 rfl)) fun a88 S89=>?_
    refine wpList_nil (then_normal ?_)
    exact ⟨j + 1,(by first | omega | (dsimp only; omega)),(by first | omega | (dsimp only; omega)),_,S89.toX ⟨S89.sl 2 rfl,(S89.sl 0 rfl).trans (by first | rfl | exact congrArg _ (by omega)),S89.sl 3 rfl,S89.sl 4 rfl,S89.sl 5 rfl,S89.sl 6 rfl,S89.sl 7 rfl,S89.sl 8 rfl,S89.sl 9 rfl,trivial⟩ ⟨(by rw [inQ_succ]; exact S89.f 0 rfl),trivial⟩⟩
   ·have hb71p:=of_decide_eq_false hb71
    refine wp_exit ?_
    repeat (first | refine exit_in ?_ | refine exit_then ?_ | refine exit_out (by decide) ?_)
    refine (in_normal (then_normal ?_))
    refine st_seq S69 1 [?_] [(true,0),(false,4),(false,5),(false,6),(false,7),(false,8),(false,9)] ⟨?_,trivial⟩ (L':=[(59,?_),(28,?_),(29,?_),(5,?_),(1,?_),(0,?_),(4,?_)]) ?_ fun a90 w91 S92=>?_
    rotate_left 8
    · exact opV S69.r fun c=>run_add rfl (c.q 5 rfl) rfl (by omega) (by omega)
    · rfl
    refine t_val S92 (run_v (run_move rfl) (S92.e 0 rfl)) fun a94 S95=>?_
    refine wpList_nil (then_normal ?_)
    exact ⟨i + 1,(by first | omega | (dsimp only; omega)),(by first | omega | (dsimp only; omega)),_,S95.toX ⟨S95.sl 2 rfl,(S95.sl 0 rfl).trans (by first | rfl | exact congrArg _ (by omega)),S95.sl 3 rfl,S95.sl 4 rfl,S95.sl 5 rfl,S95.sl 6 rfl,trivial⟩ ⟨(by rw [outQ_succ (j:=j) (by omega)]; exact S95.f 0 rfl),trivial⟩⟩
  ·have hb50p:=of_decide_eq_false hb50
   refine wp_exit ?_
   repeat (first | refine exit_in ?_ | refine exit_then ?_ | refine exit_out (by decide) ?_)
   refine (then_normal ?_)
   refine wp_seq ?_
   obtain ⟨O,S96⟩:=S48.frz 3 0
   refine st_seq S96 2 [?_,?_] [(true,1),(false,6)] ⟨?_,?_,trivial⟩ (L':=[(61,?_),(4,?_)]) ?_ fun a97 w98 S99=>?_
   rotate_left 4
   · exact opP S96.r fun c=>⟨_,run_move rfl,(c.o 0 rfl)⟩
   · exact opC S96.r rfl fun c B=>⟨_,args_1 rfl,(r5_trim (by omega) (by omega) (c.h 0 rfl) (S96.obc c.wb))⟩
   · rfl
   refine t_asg S99 0 fun a101 S102=>?_
   refine wpList_nil (then_normal ?_)
   refine wp_ret ?_
   exact st_endT S102 0 rfl fun v h=>(by rw [mulQ_eq (i:=i) (by omega) (by omega) (by omega)]; exact slC_mono h (by omega))
end Go.Proofs.YtcankknlbljicaaGreatDoor

namespace Go.Proofs.YtcankknlbljicaaGreatDoor
open Go.RowKit Num

set_option maxRecDepth 100000
set_option maxHeartbeats 2000000
end Go.Proofs.YtcankknlbljicaaGreatDoor

namespace Go.Proofs.YtcankknlbljicaaGreatDoor
open Go.ChangeShapes Go.WideShapes Go.ChangeAt Go.RowKit

theorem wf_i64 {n:Int} (h:(Lit.int .i64 n).wf=true) : -9223372036854775808≤n∧n≤9223372036854775807:=by
 have e1:IntKind.i64.min = -9223372036854775808:=rfl
 have e2:IntKind.i64.max=9223372036854775807:=rfl
 simp only [Lit.wf,Bool.and_eq_true,decide_eq_true_eq] at h
 rw [e1,e2] at h
 exact h
theorem open_lI {H:Type} {enc:TypeId × Value→H} {W:World} {r:Reach} {b0 base:Nat} {v:Value} {d:DataW H} {p:List MemPlace}
  (hv:Value.okWide Tryz.prog W r b0 49 v) (h:DataW.Trod enc Tryz.prog W base (fun _=>true) true 49 v d p) :
  ∃ ts:List Int,(mSl 0 (lI ts 0)).S (fun _=>False) W v∧ts.length≤9223372036854775807∧∀ j:Nat,-9223372036854775808≤ts.getD j 0∧ts.getD j 0≤9223372036854775807:=by
 obtain ⟨a0,len0,cap0,rfl⟩:=okWide_slice Tryz.underlying49 hv
 obtain ⟨fuel,hf⟩:=h
 rcases open_ints Tryz.underlying49 Tryz.underlying3 (by kernel_rfl) hf with ⟨hcs,_⟩ | ⟨x,l,c,zs,hcs,_,hl,hm,hz,_,hcell,hwz⟩
 ·simp [Value.cells] at hcs
  obtain ⟨rfl,rfl,rfl⟩:=hcs
  exact ⟨[],isSl.nil,by simp,fun j=>by simp⟩
 ·simp [Value.cells] at hcs
  obtain ⟨rfl,rfl,rfl⟩:=hcs
  have hm':cap0≤9223372036854775807:=hm
  have hz':zs.length=cap0:=by simpa using hz
  have hln:(zs.take len0).length=len0:=by rw [List.length_take]; omega
  refine ⟨zs.take len0,?_,by omega,fun j=>?_⟩
  ·refine ⟨some x,cap0,by rw [lI_len,hln],by rw [lI_len,hln]; exact hl,hm,?_⟩
   cases hcap:cap0 with
   | zero=>exact Or.inl rfl
   | succ c =>
    have h0:=hcell 0 (by omega)
    have hs:x.spot=none:=cell_spot (x:=x) (by simpa [Addr.add] using h0)
    obtain ⟨b,off,sp⟩:=x
    simp only at hs
    subst hs
    refine Or.inr ⟨b,off,rfl,id,?_,fun i m hm=>?_⟩
    ·rw [show Addr.add ⟨b,off,none⟩ 0 = ⟨b,off,none⟩ from rfl] at h0
     refine Nat.lt_of_not_le fun hge=>?_
     unfold World.cell? at h0
     rw [Array.getElem?_eq_none hge] at h0
     cases h0
    ·have hi:i < (zs.take len0).length:=by rw [← lI_len _ 0]; exact (List.getElem?_eq_some_iff.1 hm).1
     rw [lI_get hi] at hm
     obtain rfl:=Option.some.inj hm
     have h1:=hcell i (by omega)
     have e1:Addr.add ⟨b,off,none⟩ i = ⟨b,off + i,none⟩:=by
      unfold Addr.add; split
      ·rename_i h; subst h; rfl
      ·rfl
     rw [e1] at h1
     have e3:(zs.take len0).getD i 0=zs.getD i 0:=by
      rw [List.getD_eq_getElem?_getD,List.getD_eq_getElem?_getD,List.getElem?_take,if_pos (by omega)]
     refine ⟨[.int .i64 (zs.getD i 0)],fun j v hj=>?_,⟨_,rfl,by rw [e3]; rfl⟩⟩
     match j with
     | 0 =>
      obtain rfl:=Option.some.inj hj
      rw [show off + zc 0 * i + 0=off + i by simp [zc]]; exact h1
     | j + 1=>simp at hj
  ·by_cases hj:j < (zs.take len0).length
   ·have hmem:(zs.take len0).getD j 0 ∈ zs:=by
     rw [List.getD_eq_getElem?_getD,List.getElem?_eq_getElem hj]
     exact List.mem_of_mem_take (List.getElem_mem hj)
    exact wf_i64 (hwz _ hmem)
   ·rw [List.getD_eq_getElem?_getD,List.getElem?_eq_none (by omega)]; simp
end Go.Proofs.YtcankknlbljicaaGreatDoor
