/-  -/
import Derived.Test.YtcankknlbljicaaGreatDoorXfk
import Derived.Test.YtcankknlbljicaaGreatDoorXee

set_option linter.unusedVariables false
set_option linter.unusedSimpArgs false
set_option linter.unusedSectionVars false
set_option maxRecDepth 100000
set_option maxHeartbeats 3200000

namespace Go.Proofs.YtcankknlbljicaaGreatDoor
open Go.RowKit Num

variable {O : Bs}
theorem built_l2 (x0 x1 x2 x3 x4 x5 : Value) : Tryz.prog.builtSlice 26 2 [(0,.agg #[x0,x1,x2]),(1,.agg #[x3,x4,x5])] = some #[x0,x1,x2,x3,x4,x5] := by kernel_rfl
theorem lit2 {a : Act} {o : Oper} {w : World} {t0 t1 : Tmp} {m0 m1 : MP} (ob : OB O w) (h0 : m0.S O w (sl a t0)) (c0 : cv 3 (sl a t0)) (h1 : m1.S O w (sl a t1)) (c1 : cv 3 (sl a t1)) (ho : o.op = .buildSlice 37 2 #[(0,.tmp t0),(1,.tmp t1)] := by rfl) : ∃ v w',(execOp a.eval o).run Tryz.prog w = .ok (.value v) w' ∧ Below w.heap.size w w' ∧ (mSl 3 [m0,m1]).S O w' v := by
 obtain ⟨x0,x1,x2,e0⟩ := cv3 c0
 have f0 : a.eval (.tmp t0) = .agg #[x0,x1,x2] := e0
 rw [e0] at h0
 obtain ⟨x3,x4,x5,e1⟩ := cv3 c1
 have f1 : a.eval (.tmp t1) = .agg #[x3,x4,x5] := e1
 rw [e1] at h1
 refine ⟨_,_,run_buildSliceR ho Tryz.underlying37 (cells := #[x0,x1,x2,x3,x4,x5]) ?_,below_alloc _ _,some ⟨w.heap.size,0,none⟩,2,rfl,Nat.le_refl _,by simp [maxLen],Or.inr ⟨_,0,rfl,fun h => by have := ob _ h; omega,by simp,fun i m' hm' => ?_⟩⟩
 ·simp only [List.map_toArray,List.map_cons,List.map_nil,f0,f1]
  exact built_l2 _ _ _ _ _ _
 ·match i with
  | 0 =>
   obtain rfl := Option.some.inj hm'
   exact els1 (heap_alloc_at _ _) 0 rfl rfl rfl (below_alloc _ _) h0
  | 1 =>
   obtain rfl := Option.some.inj hm'
   exact els1 (heap_alloc_at _ _) 1 rfl rfl rfl (below_alloc _ _) h1
  | i + 2 => simp at hm'
theorem lit2C {a : Act} {o : Oper} {w : World} {t0 t1 : Tmp} {q0 q1 : Rat} {k : Nat} (ob : OB O w) (h0 : isC q0 k w (sl a t0)) (h1 : isC q1 k w (sl a t1)) (ho : o.op = .buildSlice 37 2 #[(0,.tmp t0),(1,.tmp t1)] := by rfl) : ∃ v w',(execOp a.eval o).run Tryz.prog w = .ok (.value v) w' ∧ Below w.heap.size w w' ∧ (mSl 3 (lC [q0,q1] k)).S O w' v := lit2 (m0 := mC q0 k) (m1 := mC q1 k) ob h0 h0.cv h1 h1.cv ho
theorem built_l3 (x0 x1 x2 x3 x4 x5 x6 x7 x8 : Value) : Tryz.prog.builtSlice 26 3 [(0,.agg #[x0,x1,x2]),(1,.agg #[x3,x4,x5]),(2,.agg #[x6,x7,x8])] = some #[x0,x1,x2,x3,x4,x5,x6,x7,x8] := by kernel_rfl
theorem lit3 {a : Act} {o : Oper} {w : World} {t0 t1 t2 : Tmp} {m0 m1 m2 : MP} (ob : OB O w) (h0 : m0.S O w (sl a t0)) (c0 : cv 3 (sl a t0)) (h1 : m1.S O w (sl a t1)) (c1 : cv 3 (sl a t1)) (h2 : m2.S O w (sl a t2)) (c2 : cv 3 (sl a t2)) (ho : o.op = .buildSlice 37 3 #[(0,.tmp t0),(1,.tmp t1),(2,.tmp t2)] := by rfl) : ∃ v w',(execOp a.eval o).run Tryz.prog w = .ok (.value v) w' ∧ Below w.heap.size w w' ∧ (mSl 3 [m0,m1,m2]).S O w' v := by
 obtain ⟨x0,x1,x2,e0⟩ := cv3 c0
 have f0 : a.eval (.tmp t0) = .agg #[x0,x1,x2] := e0
 rw [e0] at h0
 obtain ⟨x3,x4,x5,e1⟩ := cv3 c1
 have f1 : a.eval (.tmp t1) = .agg #[x3,x4,x5] := e1
 rw [e1] at h1
 obtain ⟨x6,x7,x8,e2⟩ := cv3 c2
 have f2 : a.eval (.tmp t2) = .agg #[x6,x7,x8] := e2
 rw [e2] at h2
 refine ⟨_,_,run_buildSliceR ho Tryz.underlying37 (cells := #[x0,x1,x2,x3,x4,x5,x6,x7,x8]) ?_,below_alloc _ _,some ⟨w.heap.size,0,none⟩,3,rfl,Nat.le_refl _,by simp [maxLen],Or.inr ⟨_,0,rfl,fun h => by have := ob _ h; omega,by simp,fun i m' hm' => ?_⟩⟩
 ·simp only [List.map_toArray,List.map_cons,List.map_nil,f0,f1,f2]
  exact built_l3 _ _ _ _ _ _ _ _ _
 ·match i with
  | 0 =>
   obtain rfl := Option.some.inj hm'
   exact els1 (heap_alloc_at _ _) 0 rfl rfl rfl (below_alloc _ _) h0
  | 1 =>
   obtain rfl := Option.some.inj hm'
   exact els1 (heap_alloc_at _ _) 1 rfl rfl rfl (below_alloc _ _) h1
  | 2 =>
   obtain rfl := Option.some.inj hm'
   exact els1 (heap_alloc_at _ _) 2 rfl rfl rfl (below_alloc _ _) h2
  | i + 3 => simp at hm'
theorem lit3C {a : Act} {o : Oper} {w : World} {t0 t1 t2 : Tmp} {q0 q1 q2 : Rat} {k : Nat} (ob : OB O w) (h0 : isC q0 k w (sl a t0)) (h1 : isC q1 k w (sl a t1)) (h2 : isC q2 k w (sl a t2)) (ho : o.op = .buildSlice 37 3 #[(0,.tmp t0),(1,.tmp t1),(2,.tmp t2)] := by rfl) : ∃ v w',(execOp a.eval o).run Tryz.prog w = .ok (.value v) w' ∧ Below w.heap.size w w' ∧ (mSl 3 (lC [q0,q1,q2] k)).S O w' v := lit3 (m0 := mC q0 k) (m1 := mC q1 k) (m2 := mC q2 k) ob h0 h0.cv h1 h1.cv h2 h2.cv ho
theorem built_l4 (x0 x1 x2 x3 x4 x5 x6 x7 x8 x9 x10 x11 : Value) : Tryz.prog.builtSlice 26 4 [(0,.agg #[x0,x1,x2]),(1,.agg #[x3,x4,x5]),(2,.agg #[x6,x7,x8]),(3,.agg #[x9,x10,x11])] = some #[x0,x1,x2,x3,x4,x5,x6,x7,x8,x9,x10,x11] := by kernel_rfl
theorem lit4 {a : Act} {o : Oper} {w : World} {t0 t1 t2 t3 : Tmp} {m0 m1 m2 m3 : MP} (ob : OB O w) (h0 : m0.S O w (sl a t0)) (c0 : cv 3 (sl a t0)) (h1 : m1.S O w (sl a t1)) (c1 : cv 3 (sl a t1)) (h2 : m2.S O w (sl a t2)) (c2 : cv 3 (sl a t2)) (h3 : m3.S O w (sl a t3)) (c3 : cv 3 (sl a t3)) (ho : o.op = .buildSlice 37 4 #[(0,.tmp t0),(1,.tmp t1),(2,.tmp t2),(3,.tmp t3)] := by rfl) : ∃ v w',(execOp a.eval o).run Tryz.prog w = .ok (.value v) w' ∧ Below w.heap.size w w' ∧ (mSl 3 [m0,m1,m2,m3]).S O w' v := by
 obtain ⟨x0,x1,x2,e0⟩ := cv3 c0
 have f0 : a.eval (.tmp t0) = .agg #[x0,x1,x2] := e0
 rw [e0] at h0
 obtain ⟨x3,x4,x5,e1⟩ := cv3 c1
 have f1 : a.eval (.tmp t1) = .agg #[x3,x4,x5] := e1
 rw [e1] at h1
 obtain ⟨x6,x7,x8,e2⟩ := cv3 c2
 have f2 : a.eval (.tmp t2) = .agg #[x6,x7,x8] := e2
 rw [e2] at h2
 obtain ⟨x9,x10,x11,e3⟩ := cv3 c3
 have f3 : a.eval (.tmp t3) = .agg #[x9,x10,x11] := e3
 rw [e3] at h3
 refine ⟨_,_,run_buildSliceR ho Tryz.underlying37 (cells := #[x0,x1,x2,x3,x4,x5,x6,x7,x8,x9,x10,x11]) ?_,below_alloc _ _,some ⟨w.heap.size,0,none⟩,4,rfl,Nat.le_refl _,by simp [maxLen],Or.inr ⟨_,0,rfl,fun h => by have := ob _ h; omega,by simp,fun i m' hm' => ?_⟩⟩
 ·simp only [List.map_toArray,List.map_cons,List.map_nil,f0,f1,f2,f3]
  exact built_l4 _ _ _ _ _ _ _ _ _ _ _ _
 ·match i with
  | 0 =>
   obtain rfl := Option.some.inj hm'
   exact els1 (heap_alloc_at _ _) 0 rfl rfl rfl (below_alloc _ _) h0
  | 1 =>
   obtain rfl := Option.some.inj hm'
   exact els1 (heap_alloc_at _ _) 1 rfl rfl rfl (below_alloc _ _) h1
  | 2 =>
   obtain rfl := Option.some.inj hm'
   exact els1 (heap_alloc_at _ _) 2 rfl rfl rfl (below_alloc _ _) h2
  | 3 =>
   obtain rfl := Option.some.inj hm'
   exact els1 (heap_alloc_at _ _) 3 rfl rfl rfl (below_alloc _ _) h3
  | i + 4 => simp at hm'
theorem lit4C {a : Act} {o : Oper} {w : World} {t0 t1 t2 t3 : Tmp} {q0 q1 q2 q3 : Rat} {k : Nat} (ob : OB O w) (h0 : isC q0 k w (sl a t0)) (h1 : isC q1 k w (sl a t1)) (h2 : isC q2 k w (sl a t2)) (h3 : isC q3 k w (sl a t3)) (ho : o.op = .buildSlice 37 4 #[(0,.tmp t0),(1,.tmp t1),(2,.tmp t2),(3,.tmp t3)] := by rfl) : ∃ v w',(execOp a.eval o).run Tryz.prog w = .ok (.value v) w' ∧ Below w.heap.size w w' ∧ (mSl 3 (lC [q0,q1,q2,q3] k)).S O w' v := lit4 (m0 := mC q0 k) (m1 := mC q1 k) (m2 := mC q2 k) (m3 := mC q3 k) ob h0 h0.cv h1 h1.cv h2 h2.cv h3 h3.cv ho
end Go.Proofs.YtcankknlbljicaaGreatDoor

namespace Go.Proofs.YtcankknlbljicaaGreatDoor
open Go.RowKit Num

set_option maxRecDepth 100000
set_option maxHeartbeats 2000000
theorem l5_awake   {w : World} {O : Bs}   (hT : Tb w) (ho : OB O w) :
    Calls Tryz.prog 22 #[] w (RetM (mV (.bool (true))) O w) := by
 refine st_start 50 Tryz.func22 [] trivial ho fun a S => ?_
 refine wp_seq ?_
 refine st_seq S 0 [] [] trivial (L' := []) ?_ fun a1 w2 S3 => ?_
 · rfl
 refine t_asgC S3 fun a5 S6 => ?_
 refine wpList_nil (then_normal ?_)
 refine wp_seq ?_
 refine st_seq S6 1 [?_] [(true,0),(false,0)] ⟨?_,trivial⟩ (L' := [(5,?_),(0,?_)]) ?_ fun a7 w8 S9 => ?_
 rotate_left 3
 · exact opC S6.r rfl fun c B => ⟨_,args_1 rfl,(r_of (1) (by omega) (by omega))⟩
 · rfl
 refine t_alloc S9 zero_Rat (fun _ _ _ => bx_Rat) fun O a11 w12 g13 S14 => ?_
 refine t_sto S14 0 1 0 rfl isC.cv (fun w15 S16 => ?_) info_Rat
 refine wpList_nil (then_normal ?_)
 refine wp_seq ?_
 refine st_mono S16 15 [?_,?_,?_,?_,?_,?_,?_,?_,?_,?_,?_,?_,?_,?_,?_] [(true,12),(true,13),(true,14),(false,0),(false,2)] ⟨?_,?_,?_,?_,?_,?_,?_,?_,?_,?_,?_,?_,?_,?_,?_,trivial⟩ (L' := [(2,?_),(3,?_),(4,?_),(1,?_),(0,?_)]) ?_ fun a17 w18 S19 => ?_
 rotate_left 20
 · exact opC S16.r rfl fun c B => ⟨_,args_1 rfl,(r_of (0) (by omega) (by omega))⟩
 · exact opC S16.r rfl fun c B => ⟨_,args_1 rfl,(r_of (0) (by omega) (by omega))⟩
 · exact opL S16.r 0 Tryz.underlying26 info_Rat fun c => (c.q 0 rfl)
 · exact opN S16.r fun c => lit3C (S16.obc c.wb) (c.h 0 rfl) (c.h 1 rfl) (c.h 2 rfl)
 · exact opC S16.r rfl fun c B => ⟨_,args_1 rfl,(r_of (-1) (by omega) (by omega))⟩
 · exact opL S16.r 0 Tryz.underlying26 info_Rat fun c => (c.q 0 rfl)
 · exact opN S16.r fun c => lit2C (S16.obc c.wb) (c.h 0 rfl) (c.h 1 rfl)
 · exact opC S16.r rfl fun c B => ⟨_,args_2 rfl rfl,(p_divmod (ps := awp1) (qs := awp2) (L := 3) (K1 := 14) (KR := 1) (KE := 1) (by decide) (by decide) (by omega) (by omega) (by omega) (by omega) (by omega) (by omega) (by omega) (by omega) (fun t l ht => szl_sz (upto_at aw_1 (Nat.le_trans ht aw_n)) l) (fun t ht => szb_sz (upto_at aw_2 (Nat.le_trans ht aw_n))) (slC_r (c.h 0 rfl)) (slC_r (c.h 1 rfl)) (hT.below B) (S16.obc c.wb))⟩
 · exact opP S16.r fun c => ⟨_,run_move rfl,(c.h 0 rfl)⟩
 · exact opP S16.r fun c => ext3_0 rfl (c.h 0 rfl)
 · exact opP S16.r fun c => ext3_1 rfl (c.h 0 rfl)
 · exact opP S16.r fun c => ext3_2 rfl (c.h 0 rfl)
 · exact opP S16.r fun c => ⟨_,run_assign rfl,(c.h 0 rfl)⟩
 · exact opP S16.r fun c => ⟨_,run_assign rfl,(c.h 0 rfl)⟩
 · exact opV S16.r fun c => run_v (run_assign rfl) (c.e 0 rfl)
 · rfl
 refine wpList_nil (then_normal ?_)
 refine wp_seq ?_
 refine st_mono S19 33 [?_,?_,?_,?_,?_,?_,?_,?_,?_,?_,?_,?_,?_,?_,?_,?_,?_,?_,?_,?_,?_,?_,?_,?_,?_,?_,?_,?_,?_,?_,?_,?_,?_] [(true,32)] ⟨?_,?_,?_,?_,?_,?_,?_,?_,?_,?_,?_,?_,?_,?_,?_,?_,?_,?_,?_,?_,?_,?_,?_,?_,?_,?_,?_,?_,?_,?_,?_,?_,?_,trivial⟩ (L' := [(0,?_)]) ?_ fun a21 w22 S23 => ?_
 rotate_left 34
 · exact opV S19.r fun c => run_v (run_move rfl) (c.q 2 rfl)
 · exact opV S19.r fun c => run_b (y := true) (run_eql rfl (c.e 0 rfl) rfl) (aw_e0)
 · exact opV S19.r fun c => run_v (run_move rfl) (c.e 0 rfl)
 · exact opT S19.r 0 (opP S19.r fun c => ⟨_,run_move rfl,(c.o 0 rfl)⟩)
 · exact opT S19.r 0 (opL S19.r 0 Tryz.underlying26 info_Rat fun c => (c.q 3 rfl))
 · exact opT S19.r 0 (opL S19.r 0 Tryz.underlying26 info_Rat fun c => (c.q 3 rfl))
 · exact opT S19.r 2 (opN S19.r fun c => lit2C (S19.obc c.wb) (c.h 0 rfl) (c.h 1 rfl))
 · exact opT S19.r 2 (opC S19.r rfl fun c B => ⟨_,args_2 rfl rfl,ret_b (y := true) (r5_equal (by first | omega | decide +kernel) (by first | omega | decide +kernel) (by omega) (by omega) (c.h 0 rfl) (c.h 1 rfl) (S19.obc c.wb)) (aw_q)⟩)
 · exact opE S19.r fun c => ⟨_,run_pick rfl (c.e 0 rfl),pick_and (fun _ => (c.e 1 rfl))⟩
 · exact opV S19.r fun c => run_v (run_move rfl) (c.e 0 rfl)
 · exact opT S19.r 0 (opP S19.r fun c => ⟨_,run_move rfl,(c.o 1 rfl)⟩)
 · exact opT S19.r 0 (opL S19.r 0 Tryz.underlying26 info_Rat fun c => (c.q 3 rfl))
 · exact opT S19.r 1 (opN S19.r fun c => lit1C (S19.obc c.wb) (c.h 0 rfl))
 · exact opT S19.r 2 (opC S19.r rfl fun c B => ⟨_,args_2 rfl rfl,ret_b (y := true) (r5_equal (by first | omega | decide +kernel) (by first | omega | decide +kernel) (by omega) (by omega) (c.h 0 rfl) (c.h 1 rfl) (S19.obc c.wb)) (aw_r)⟩)
 · exact opE S19.r fun c => ⟨_,run_pick rfl (c.e 0 rfl),pick_and (fun _ => (c.e 1 rfl))⟩
 · exact opV S19.r fun c => run_v (run_move rfl) (c.e 0 rfl)
 · exact opT S19.r 0 (opC S19.r rfl fun c B => ⟨_,args_1 rfl,(p_degree (qs := []) (k := 2) (by decide) (by decide) (slC_r (nil_L (qs := []) rfl rfl)) (S19.obc c.wb))⟩)
 · exact opT S19.r 1 (opV S19.r fun c => run_b (y := true) (run_eql rfl (c.e 0 rfl) rfl) (aw_d))
 · exact opE S19.r fun c => ⟨_,run_pick rfl (c.e 0 rfl),pick_and (fun _ => (c.e 1 rfl))⟩
 · exact opV S19.r fun c => run_v (run_move rfl) (c.e 0 rfl)
 · exact opT S19.r 0 (opC S19.r rfl fun c B => ⟨_,args_1 rfl,(r_of (0) (by omega) (by omega))⟩)
 · exact opT S19.r 1 (opC S19.r rfl fun c B => ⟨_,args_1 rfl,(r_of (0) (by omega) (by omega))⟩)
 · exact opT S19.r 1 (opC S19.r rfl fun c B => ⟨_,args_1 rfl,(r_of (-1) (by omega) (by omega))⟩)
 · exact opT S19.r 0 (opL S19.r 0 Tryz.underlying26 info_Rat fun c => (c.q 3 rfl))
 · exact opT S19.r 4 (opN S19.r fun c => lit4C (S19.obc c.wb) (c.h 0 rfl) (c.h 1 rfl) (c.h 2 rfl) (c.h 3 rfl))
 · exact opT S19.r 2 (opC S19.r rfl fun c B => ⟨_,args_1 rfl,(p_sqf (ps := awp3) (L := 4) (K1 := 78) (K := 2) (K3 := 38) (KR := 1) (KE := 1) (KS := 204) (by decide) (by omega) (by omega) (by omega) (by omega) (by omega) (by omega) (by omega) (fun P Q l c g => gz_at aw_gm aw_g P Q l c g) (by omega) (by omega) (by omega) (by omega) (by omega) (fun t l ht => szl_sz (upto_at aw_3 (Nat.le_trans ht aw_n3)) l) (fun t ht => szb_sz (upto_at aw_4 (Nat.le_trans ht aw_n3))) (by omega) (slC_r (c.h 0 rfl)) (hT.below B) (S19.obc c.wb))⟩)
 · exact opT S19.r 1 (opC S19.r rfl fun c B => ⟨_,args_1 rfl,(r_of (0) (by omega) (by omega))⟩)
 · exact opT S19.r 1 (opC S19.r rfl fun c B => ⟨_,args_1 rfl,(r_of (-1) (by omega) (by omega))⟩)
 · exact opT S19.r 0 (opL S19.r 0 Tryz.underlying26 info_Rat fun c => (c.q 3 rfl))
 · exact opT S19.r 3 (opN S19.r fun c => lit3C (S19.obc c.wb) (c.h 0 rfl) (c.h 1 rfl) (c.h 2 rfl))
 · exact opT S19.r 3 (opC S19.r rfl fun c B => ⟨_,args_2 rfl rfl,ret_b (y := true) (r5_equal (by first | omega | decide +kernel) (by first | omega | decide +kernel) (by omega) (by omega) (c.h 0 rfl) (c.h 1 rfl) (S19.obc c.wb)) (aw_s)⟩)
 · exact opE S19.r fun c => ⟨_,run_pick rfl (c.e 0 rfl),pick_and (fun _ => (c.e 1 rfl))⟩
 · exact opV S19.r fun c => run_v (run_assign rfl) (c.e 0 rfl)
 · rfl
 refine wpList_nil (then_normal ?_)
 refine wp_ret ?_
 exact st_endT S23 0 rfl fun v h => h
end Go.Proofs.YtcankknlbljicaaGreatDoor

namespace Go.Proofs.YtcankknlbljicaaGreatDoor
open Go.RowKit Num
variable {O : Bs}

theorem lit1L {a : Act} {o : Oper} {w : World} {t : Tmp} {m : MP} (ob : OB O w) (h0 : m.S O w (sl a t)) (c0 : cv 3 (sl a t)) (ho : o.op = .buildSlice 36 1 #[(0,.tmp t)] := by rfl) : ∃ v w',(execOp a.eval o).run Tryz.prog w = .ok (.value v) w' ∧ Below w.heap.size w w' ∧ (mSl 3 [m]).S O w' v := by
 obtain ⟨x0,x1,x2,e0⟩ := cv3 c0
 have e0' : a.eval (.tmp t) = .agg #[x0,x1,x2] := e0
 rw [e0] at h0
 refine ⟨_,_,run_buildSliceR ho Tryz.underlying36 (cells := #[x0,x1,x2]) ?_,below_alloc _ _,some ⟨w.heap.size,0,none⟩,1,rfl,Nat.le_refl _,by simp [maxLen],Or.inr ⟨_,0,rfl,fun h => by have := ob _ h; omega,by simp,fun i m' hm' => ?_⟩⟩
 ·simp only [List.map_toArray,List.map_cons,List.map_nil,e0']
  exact built_l1 _ _ _
 ·match i with
  | 0 =>
   obtain rfl := Option.some.inj hm'
   exact els1 (heap_alloc_at _ _) 0 rfl rfl rfl (below_alloc _ _) h0
  | i + 1 => simp at hm'
theorem lit1CL {a : Act} {o : Oper} {w : World} {t : Tmp} {q : Rat} {k : Nat} (ob : OB O w) (h0 : isC q k w (sl a t)) (ho : o.op = .buildSlice 36 1 #[(0,.tmp t)] := by rfl) : ∃ v w',(execOp a.eval o).run Tryz.prog w = .ok (.value v) w' ∧ Below w.heap.size w w' ∧ (mSl 3 (lC [q] k)).S O w' v := lit1L (m := mC q k) ob h0 h0.cv ho
section
variable {ops : Array Oper} {rest : List Oper} {o : Oper} {a : Act} {w : World} {Q : Exit → Act → World → Prop} {N : Nat} {O0 : Bs} {W0 : World} {L : List (Nat × MP)} {X : List RX}
theorem t_appQL (S : St N O0 O W0 a w L X) (i k : Nat) {d : Tmp} {t u : Tmp} {v : Value} {qs rs : List Rat} {K : Nat} (hi : L[i]? = some (t,mV v)) (hk : X[k]? = some (.own v 26 3 (lC qs K))) (hx : isSl O w 3 (lC rs K) (sl a u)) (hlen : qs.length + rs.length ≤ 1000000000)
  (h : ∀ O' a' w' v',St N O0 O' W0 a' w' (setL d (mV v') L) (X.set k (.own v' 26 3 (lC (qs ++ rs) K))) → wpList Tryz.prog ops Q rest a' w') (ho : o.op = .call { callee := .builtin .append,args := #[.tmp t,.tmp u],argTypes := #[36,36] } := by rfl) (hg : o.guard = none := by rfl) (hd : o.dst = some d := by rfl) (hlt : d < N := by decide) : wpList Tryz.prog ops Q (o :: rest) a w := by
 obtain ⟨inf,h1,h2,h3,h4⟩ := info_parts infoR
 refine t_app S i k Tryz.underlying36 h1 h2 (es := 3) h3 (by rw [h4]; decide) rfl zero_cells (show isSl O w 3 (lC rs K) (a.eval (.tmp u)) from hx) (fun m hm x hx => lC_ec hm hx) (by rw [lC_len,lC_len]; exact hlen) (fun O' a' w' v' S' => h O' a' w' v' ?_) ho hk hi hg hd hlt
 have e : lC qs K ++ lC rs K = lC (qs ++ rs) K := by simp [lC]
 rw [← e]; exact S'
end
section
variable {ops : Array Oper} {rest : List Oper} {o : Oper} {a : Act} {w : World} {Q : Exit → Act → World → Prop} {N : Nat} {O0 : Bs} {W0 : World} {L : List (Nat × MP)} {X : List RX}
end
def lI (ts : List Int) (_ : Nat) : List MP := ts.map fun t => mV (.int .i64 t)
theorem lI_len (ts : List Int) (k : Nat) : (lI ts k).length = ts.length := by simp [lI]
theorem lI_get {ts : List Int} {k i : Nat} (h : i < ts.length) : (lI ts k)[i]? = some (mV (.int .i64 (ts.getD i 0))) := by
 unfold lI; rw [List.getElem?_map,List.getElem?_eq_getElem h]; simp [h]
theorem lI_take (ts : List Int) (k n : Nat) : (lI ts k).take n = lI (ts.take n) k := by simp [lI,List.map_take]
theorem infoIz : (Tryz.prog.info? 3).map (·.size) = some (zc 0) := by kernel_rfl
theorem sl_hI {a : Act} {o : Oper} {w : World} {x : Tmp} {y : Operand} {ts : List Int} {k : Nat} {j : Int} (n : Nat) (h : isSl O w 0 (lI ts k) (sl a x)) (hy : a.eval y = .int .i64 j) (hj : j = (n : Int)) (hn : n ≤ ts.length) (ho : o.op = .slice 49 (.tmp x) none (some y) none := by rfl) : ∃ v,(execOp a.eval o).run Tryz.prog w = .ok (.value v) w ∧ (mSl 0 (lI (ts.take n) k)).S O w v := by
 rw [← lI_take]
 exact sl_h n Tryz.underlying49 infoIz h hy hj (by rw [lI_len]; exact hn) ho
end Go.Proofs.YtcankknlbljicaaGreatDoor

namespace Go.Proofs.YtcankknlbljicaaGreatDoor
open Go.RowKit Num

set_option maxRecDepth 100000
set_option maxHeartbeats 2000000
theorem k_rats {ts : List Int} {v0 : Value} {w : World} {O : Bs} (hn : ts.length ≤ 99999) (hI : ∀ j : Nat,-9223372036854775808 ≤ ts.getD j 0 ∧ ts.getD j 0 ≤ 9223372036854775807) (pf0 : (mSl 0 (lI ts 0)).S O w v0) (ho : OB O w) :
    Calls Tryz.prog 129 #[v0] w (RetM (mSl 3 (lC (ts.map ratQ) (2))) O w) := by
 refine st_start 19 Tryz.func129 [(mSl 0 (lI ts 0))] ⟨pf0,trivial⟩ ho fun a S => ?_
 refine wp_seq ?_
 refine st_seq S 0 [] [(false,0)] trivial (L' := [(0,?_)]) ?_ fun a1 w2 S3 => ?_
 rotate_left 1
 · rfl
 refine t_asgC S3 fun a5 S6 => ?_
 refine wpList_nil (then_normal ?_)
 refine wp_seq ?_
 refine st_seq S6 0 [] [(false,0),(false,1)] trivial (L' := [(2,?_),(0,?_)]) ?_ fun a7 w8 S9 => ?_
 rotate_left 2
 · rfl
 refine t_asgC S9 fun a11 S12 => ?_
 have S13 := S12.nil 26 3
 refine wpList_nil (then_normal ?_)
 refine wp_seq ?_
 refine wp_seq ?_
 refine st_seq S13 3 [?_,?_,?_] [(true,0),(true,1),(true,2),(false,0),(false,1)] ⟨?_,?_,?_,trivial⟩ (L' := [(6,?_),(7,?_),(8,?_),(3,?_),(2,?_)]) ?_ fun a14 w15 S16 => ?_
 rotate_left 8
 · exact opP S13.r fun c => ⟨_,run_move rfl,(c.o 2 rfl)⟩
 · exact opV S13.r fun c => len_L ts.length Tryz.underlying49 (c.h 0 rfl) (lI_len _ _)
 · exact opV S13.r fun c => run_moveC rfl
 · rfl
 refine wpList_nil (then_normal ?_)
 refine wp_block ?_
 refine st_loop (τ := Nat × Value) (fun ⟨i,v⟩ => [(6,(mSl 0 (lI ts 0))),(7,(mV (.int .i64 ((ts.length : Nat) : Int)))),(8,(mV (.int .i64 ((i : Nat) : Int)))),(3,(mV (v))),(2,(mV (.slice none 0 0)))]) (fun ⟨i,v⟩ => [.own v 26 3 (lC ((ts.map ratQ).take i) (2))]) (fun ⟨i,v⟩ => i ≤ ts.length) (fun ⟨i,v⟩ => ts.length - i) (0,.slice none 0 0) (by omega) (S16.toX ⟨S16.sl 0 rfl,S16.sl 1 rfl,S16.sl 2 rfl,S16.sl 3 rfl,S16.sl 4 rfl,trivial⟩ ⟨S16.f 0 rfl,trivial⟩) ?_
 rintro ⟨i,v⟩ O a20 w21 hp22 S23
 try dsimp only at hp22 S23
 have htl : ((ts.map ratQ).take i).length = i := by rw [List.length_take,List.length_map]; omega
 refine wp_seq ?_
 refine st_seq S23 1 [?_] [(true,0),(false,0),(false,1),(false,2),(false,3),(false,4)] ⟨?_,trivial⟩ (L' := [(9,?_),(6,?_),(7,?_),(8,?_),(3,?_),(2,?_)]) ?_ fun a24 w25 S26 => ?_
 rotate_left 7
 · exact opV S23.r fun c => run_lss rfl (c.q 2 rfl) (c.q 1 rfl)
 · rfl
 refine wpList_nil (then_normal ?_)
 refine wp_seq ?_
 refine cond_b _ (ev (S26.sl 0 rfl)) (fun hb28 => ?_) (fun hb28 => ?_)
 ·have hb28p := of_decide_eq_true hb28
  refine wp_skip (then_normal ?_)
  refine wp_seq ?_
  refine wp_block ?_
  refine wp_seq ?_
  refine st_seq S26 2 [?_,?_] [(true,1),(false,1),(false,2),(false,3),(false,4),(false,5)] ⟨?_,?_,trivial⟩ (L' := [(11,?_),(6,?_),(7,?_),(8,?_),(3,?_),(2,?_)]) ?_ fun a29 w30 S31 => ?_
  rotate_left 8
  · exact opP S26.r fun c => ix_sl Tryz.underlying49 infoIz (c.o 1 rfl) (c.q 3 rfl) (i := i) (by omega) (lI_get (by omega))
  · exact opP S26.r fun c => ld_pt0 (c.h 0 rfl) Tryz.underlying3
  · rfl
  refine t_asg S31 0 fun a33 S34 => ?_
  refine wpList_nil (then_normal ?_)
  refine st_seq S34 4 [?_,?_,?_,?_] [(true,0),(true,3),(false,2),(false,3),(false,4),(false,5),(false,6)] ⟨?_,?_,?_,?_,trivial⟩ (L' := [(12,?_),(15,?_),(6,?_),(7,?_),(8,?_),(3,?_),(2,?_)]) ?_ fun a35 w36 S37 => ?_
  rotate_left 11
  · exact opV S34.r fun c => run_v (run_move rfl) (c.q 5 rfl)
  · exact opV S34.r fun c => run_v (run_move rfl) (c.q 0 rfl)
  · exact opC S34.r rfl fun c B => ⟨_,args_1 (c.e 0 rfl),(k_rat (ts.getD i 0) (hI _).1 (hI _).2 (S34.obc c.wb))⟩
  · exact opN S34.r fun c => lit1CL (S34.obc c.wb) (c.h 0 rfl)
  · rfl
  refine t_appQL S37 0 0 rfl rfl (slC_mono ((S37.sl 1 rfl)) (by omega)) (by simp; omega) fun O a39 w40 v41 S42 => ?_
  refine t_asg S42 0 fun a43 S44 => ?_
  refine wpList_nil (in_normal (then_normal ?_))
  refine st_seq S44 1 [?_] [(true,0),(false,0),(false,4),(false,5),(false,6),(false,7)] ⟨?_,trivial⟩ (L' := [(17,?_),(3,?_),(6,?_),(7,?_),(8,?_),(2,?_)]) ?_ fun a45 w46 S47 => ?_
  rotate_left 7
  · exact opV S44.r fun c => run_add rfl (c.q 6 rfl) rfl (by omega) (by omega)
  · rfl
  refine t_val S47 (run_v (run_move rfl) (S47.e 0 rfl)) fun a49 S50 => ?_
  refine wpList_nil (then_normal ?_)
  exact ⟨(i + 1,v41),(by first | omega | (dsimp only; omega)),(by first | omega | (dsimp only; omega)),_,S50.toX ⟨S50.sl 3 rfl,S50.sl 4 rfl,(S50.sl 0 rfl).trans (by first | rfl | exact congrArg _ (by omega)),(S50.sl 2 rfl).trans (by first | rfl | exact congrArg _ (by omega)),S50.sl 5 rfl,trivial⟩ ⟨(by rw [← rats_snoc (by omega)]; exact S50.f 0 rfl),trivial⟩⟩
 ·have hb28p := of_decide_eq_false hb28
  refine wp_exit ?_
  repeat (first | refine exit_in ?_ | refine exit_then ?_ | refine exit_out (by decide) ?_)
  refine (then_normal ?_)
  refine wp_seq ?_
  obtain ⟨O,S51⟩ := S26.frz 4 0
  refine st_seq S51 1 [?_] [(true,0),(false,5)] ⟨?_,trivial⟩ (L' := [(18,?_),(2,?_)]) ?_ fun a52 w53 S54 => ?_
  rotate_left 3
  · exact opP S51.r fun c => ⟨_,run_move rfl,(c.o 0 rfl)⟩
  · rfl
  refine t_asg S54 0 fun a56 S57 => ?_
  refine wpList_nil (then_normal ?_)
  refine wp_ret ?_
  exact st_endT S57 0 rfl fun v h => (by rw [← take_allQ (qs := ts.map ratQ) (i := i) (by rw [List.length_map]; omega)]; exact h)

theorem k_poly {ts : List Int} {n : Nat} {v0 : Value} {w : World} {O : Bs} (hn : ts.length ≤ 9223372036854775807) (hI : ∀ j : Nat,-9223372036854775808 ≤ ts.getD j 0 ∧ ts.getD j 0 ≤ 9223372036854775807) (hm : n ≤ 9999) (pf0 : (mSl 0 (lI ts 0)).S O w v0) (ho : OB O w) :
    Calls Tryz.prog 61 #[v0,.int .i64 ((n : Nat) : Int)] w (RetM (mSl 3 (lC (polQ ts n) (3))) O w) := by
 refine st_start 17 Tryz.func61 [(mSl 0 (lI ts 0)),(mV (.int .i64 ((n : Nat) : Int)))] ⟨pf0,rfl,trivial⟩ ho fun a S => ?_
 have hml : (ts.map ratQ).length = ts.length := List.length_map _
 have hml2 : ((ts.take (n + 1)).map ratQ).length = (ts.take (n + 1)).length := List.length_map _
 have htl : (ts.take (n + 1)).length = min (n + 1) ts.length := List.length_take
 refine wp_seq ?_
 refine st_seq S 0 [] [(false,0),(false,1)] trivial (L' := [(0,?_),(1,?_)]) ?_ fun a1 w2 S3 => ?_
 rotate_left 2
 · rfl
 refine t_asgC S3 fun a5 S6 => ?_
 refine wpList_nil (then_normal ?_)
 refine wp_seq ?_
 refine wp_seq ?_
 refine st_seq S6 5 [?_,?_,?_,?_,?_] [(true,4),(false,0),(false,1),(false,2)] ⟨?_,?_,?_,?_,?_,trivial⟩ (L' := [(9,?_),(4,?_),(0,?_),(1,?_)]) ?_ fun a7 w8 S9 => ?_
 rotate_left 9
 · exact opP S6.r fun c => ⟨_,run_move rfl,(c.o 1 rfl)⟩
 · exact opV S6.r fun c => len_L ts.length Tryz.underlying49 (c.h 0 rfl) (lI_len _ _)
 · exact opV S6.r fun c => run_v (run_move rfl) (c.q 2 rfl)
 · exact opV S6.r fun c => run_add rfl (c.e 0 rfl) rfl (by omega) (by omega)
 · exact opV S6.r fun c => run_gtr rfl (c.e 0 rfl) (c.e 1 rfl)
 · rfl
 refine wpList_nil (then_normal ?_)
 refine cond_b _ (ev (S9.sl 0 rfl)) (fun hb11 => ?_) (fun hb11 => ?_)
 ·have hb11p := of_decide_eq_true hb11
  refine st_seq S9 4 [?_,?_,?_,?_] [(true,3),(false,1),(false,2)] ⟨?_,?_,?_,?_,trivial⟩ (L' := [(13,?_),(4,?_),(0,?_)]) ?_ fun a12 w13 S14 => ?_
  rotate_left 7
  · exact opP S9.r fun c => ⟨_,run_move rfl,(c.o 2 rfl)⟩
  · exact opV S9.r fun c => run_v (run_move rfl) (c.q 3 rfl)
  · exact opV S9.r fun c => run_add rfl (c.e 0 rfl) rfl (by omega) (by omega)
  · exact opP S9.r fun c => sl_hI (n + 1) (c.h 0 rfl) (c.e 1 rfl) (by omega) (by omega)
  · rfl
  refine t_asg S14 0 fun a16 S17 => ?_
  refine wpList_nil (then_normal ?_)
  refine wp_seq ?_
  refine st_seq S17 3 [?_,?_,?_] [(true,2),(false,2)] ⟨?_,?_,?_,trivial⟩ (L' := [(16,?_),(4,?_)]) ?_ fun a18 w19 S20 => ?_
  rotate_left 5
  · exact opP S17.r fun c => ⟨_,run_move rfl,(c.o 0 rfl)⟩
  · exact opC S17.r rfl fun c B => ⟨_,args_1 rfl,(k_rats (by omega) (hI_take hI) (c.h 0 rfl) (S17.obc c.wb))⟩
  · exact opC S17.r rfl fun c B => ⟨_,args_1 rfl,(r5_trim (by omega) (by omega) (slC_r (c.h 0 rfl)) (S17.obc c.wb))⟩
  · rfl
  refine t_asg S20 0 fun a22 S23 => ?_
  refine wpList_nil (then_normal ?_)
  refine wp_ret ?_
  exact st_endT S23 0 rfl fun v h => h
 ·have hb11p := of_decide_eq_false hb11
  refine wp_skip (then_normal ?_)
  refine wp_seq ?_
  refine st_seq S9 3 [?_,?_,?_] [(true,2),(false,1)] ⟨?_,?_,?_,trivial⟩ (L' := [(16,?_),(4,?_)]) ?_ fun a24 w25 S26 => ?_
  rotate_left 5
  · exact opP S9.r fun c => ⟨_,run_move rfl,(c.o 2 rfl)⟩
  · exact opC S9.r rfl fun c B => ⟨_,args_1 rfl,(k_rats (by omega) hI (c.h 0 rfl) (S9.obc c.wb))⟩
  · exact opC S9.r rfl fun c B => ⟨_,args_1 rfl,(r5_trim (by omega) (by omega) (slC_r (c.h 0 rfl)) (S9.obc c.wb))⟩
  · rfl
  refine t_asg S26 0 fun a28 S29 => ?_
  refine wpList_nil (then_normal ?_)
  refine wp_ret ?_
  exact st_endT S29 0 rfl fun v h => (by rw [polQ_f hb11]; exact h)
end Go.Proofs.YtcankknlbljicaaGreatDoor

namespace Go.Proofs.YtcankknlbljicaaGreatDoor
open Go.RowKit Num

set_option maxRecDepth 100000
set_option maxHeartbeats 2000000
end Go.Proofs.YtcankknlbljicaaGreatDoor

namespace Go.Proofs.YtcankknlbljicaaGreatDoor
open Go.RowKit Num

set_option maxRecDepth 100000
set_option maxHeartbeats 2000000
end Go.Proofs.YtcankknlbljicaaGreatDoor

namespace Go.Proofs.YtcankknlbljicaaGreatDoor
open Go.ChangeShapes Go.WideShapes Go.ChangeAt Go.RowKit

theorem wf_i64 {n : Int} (h : (Lit.int .i64 n).wf = true) : -9223372036854775808 ≤ n ∧ n ≤ 9223372036854775807 := by
 have e1 : IntKind.i64.min = -9223372036854775808 := rfl
 have e2 : IntKind.i64.max = 9223372036854775807 := rfl
 simp only [Lit.wf,Bool.and_eq_true,decide_eq_true_eq] at h
 rw [e1,e2] at h
 exact h
theorem open_lI {H : Type} {enc : TypeId × Value → H} {W : World} {r : Reach} {b0 base : Nat} {v : Value} {d : DataW H} {p : List MemPlace}
  (hv : Value.okWide Tryz.prog W r b0 49 v) (h : DataW.Trod enc Tryz.prog W base (fun _ => true) true 49 v d p) :
  ∃ ts : List Int,(mSl 0 (lI ts 0)).S (fun _ => False) W v ∧ ts.length ≤ 9223372036854775807 ∧ ∀ j : Nat,-9223372036854775808 ≤ ts.getD j 0 ∧ ts.getD j 0 ≤ 9223372036854775807 := by
 obtain ⟨a0,len0,cap0,rfl⟩ := okWide_slice Tryz.underlying49 hv
 obtain ⟨fuel,hf⟩ := h
 rcases open_ints Tryz.underlying49 Tryz.underlying3 (by kernel_rfl) hf with ⟨hcs,_⟩ | ⟨x,l,c,zs,hcs,_,hl,hm,hz,_,hcell,hwz⟩
 ·simp [Value.cells] at hcs
  obtain ⟨rfl,rfl,rfl⟩ := hcs
  exact ⟨[],isSl.nil,by simp,fun j => by simp⟩
 ·simp [Value.cells] at hcs
  obtain ⟨rfl,rfl,rfl⟩ := hcs
  have hm' : cap0 ≤ 9223372036854775807 := hm
  have hz' : zs.length = cap0 := by simpa using hz
  have hln : (zs.take len0).length = len0 := by rw [List.length_take]; omega
  refine ⟨zs.take len0,?_,by omega,fun j => ?_⟩
  ·refine ⟨some x,cap0,by rw [lI_len,hln],by rw [lI_len,hln]; exact hl,hm,?_⟩
   cases hcap : cap0 with
   | zero => exact Or.inl rfl
   | succ c =>
    have h0 := hcell 0 (by omega)
    have hs : x.spot = none := cell_spot (x := x) (by simpa [Addr.add] using h0)
    obtain ⟨b,off,sp⟩ := x
    simp only at hs
    subst hs
    refine Or.inr ⟨b,off,rfl,id,?_,fun i m hm => ?_⟩
    ·rw [show Addr.add ⟨b,off,none⟩ 0 = ⟨b,off,none⟩ from rfl] at h0
     refine Nat.lt_of_not_le fun hge => ?_
     unfold World.cell? at h0
     rw [Array.getElem?_eq_none hge] at h0
     cases h0
    ·have hi : i < (zs.take len0).length := by rw [← lI_len _ 0]; exact (List.getElem?_eq_some_iff.1 hm).1
     rw [lI_get hi] at hm
     obtain rfl := Option.some.inj hm
     have h1 := hcell i (by omega)
     have e1 : Addr.add ⟨b,off,none⟩ i = ⟨b,off + i,none⟩ := by
      unfold Addr.add; split
      ·rename_i h; subst h; rfl
      ·rfl
     rw [e1] at h1
     have e3 : (zs.take len0).getD i 0 = zs.getD i 0 := by
      rw [List.getD_eq_getElem?_getD,List.getD_eq_getElem?_getD,List.getElem?_take,if_pos (by omega)]
     refine ⟨[.int .i64 (zs.getD i 0)],fun j v hj => ?_,⟨_,rfl,by rw [e3]; rfl⟩⟩
     match j with
     | 0 =>
      obtain rfl := Option.some.inj hj
      rw [show off + zc 0 * i + 0 = off + i by simp [zc]]; exact h1
     | j + 1 => simp at hj
  ·by_cases hj : j < (zs.take len0).length
   ·have hmem : (zs.take len0).getD j 0 ∈ zs := by
     rw [List.getD_eq_getElem?_getD,List.getElem?_eq_getElem hj]
     exact List.mem_of_mem_take (List.getElem_mem hj)
    exact wf_i64 (hwz _ hmem)
   ·rw [List.getD_eq_getElem?_getD,List.getElem?_eq_none (by omega)]; simp
end Go.Proofs.YtcankknlbljicaaGreatDoor
