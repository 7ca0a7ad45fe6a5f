/-  -/
import Derived.Test.YtcankknlbljicaaGreatDoorXec

set_option linter.unusedVariables false
set_option linter.unusedSimpArgs false
set_option linter.unusedSectionVars false
set_option maxRecDepth 100000
set_option maxHeartbeats 3200000

namespace Go.Proofs.YtcankknlbljicaaGreatDoor
open Go.RowKit Num

set_option maxRecDepth 100000
set_option maxHeartbeats 2000000
theorem iv_ordered {p0 q0 : Rat} {k0 : Nat} {v0 : Value} {w : World} {O : Bs} (hk0 : k0 ≤ 199999) (pf0 : (mP (mR (p0) (k0)) (mR (q0) (k0))).S O w v0) (hT : Tb w) (ho : OB O w) :
    Calls Tryz.prog 171 #[v0] w (RetM (mP (mR (mnQ (p0) (q0)) (k0)) (mR (mxQ (p0) (q0)) (k0))) O w) := by
 refine st_start 16 Tryz.func171 [(mP (mR (p0) (k0)) (mR (q0) (k0)))] ⟨pf0,trivial⟩ ho fun a S => ?_
 refine wp_seq ?_
 refine st_seq S 0 [] [(false,0)] trivial (L' := [(0,?_)]) ?_ fun a1 w2 S3 => ?_
 rotate_left 1
 · rfl
 refine t_box S3 0 rfl (fun h => (mP.cv (fun _ h => (isR.cv h)) (fun _ h => (isR.cv h)) h)) fun O a5 w6 g7 S8 => ?_
 refine t_alloc S8 zero_Interval (fun _ _ _ => bx_Interval) fun O a9 w10 g11 S12 => ?_
 refine wpList_nil (then_normal ?_)
 refine wp_seq ?_
 refine wp_seq ?_
 refine st_seq S12 6 [?_,?_,?_,?_,?_,?_] [(true,5),(false,0),(false,1)] ⟨?_,?_,?_,?_,?_,?_,trivial⟩ (L' := [(8,?_),(2,?_),(1,?_)]) ?_ fun a13 w14 S15 => ?_
 rotate_left 9
 · exact opV S12.r fun c => fa_Interval_0 rfl (c.q 1 rfl)
 · exact opP S12.r fun c => ld_part rfl (c.e 0 rfl) (c.bx 1 rfl).lo Tryz.underlying26 info_Rat
 · exact opV S12.r fun c => fa_Interval_1 rfl (c.q 1 rfl)
 · exact opP S12.r fun c => ld_part rfl (c.e 0 rfl) (c.bx 1 rfl).hi Tryz.underlying26 info_Rat
 · exact opC S12.r rfl fun c B => ⟨_,args_2 rfl rfl,(c_cmp (by omega) (by omega) (c.h 0 rfl) (c.h 1 rfl) (hT.below B))⟩
 · exact opV S12.r fun c => run_gtr rfl (c.e 0 rfl) rfl
 · rfl
 refine wpList_nil (then_normal ?_)
 refine cond_b _ (ev (S15.sl 0 rfl)) (fun hb17 => ?_) (fun hb17 => ?_)
 ·have hb17p := of_decide_eq_true hb17
  refine st_seq S15 5 [?_,?_,?_,?_,?_] [(true,1),(true,3),(true,4),(false,1),(false,2)] ⟨?_,?_,?_,?_,?_,trivial⟩ (L' := [(10,?_),(12,?_),(13,?_),(2,?_),(1,?_)]) ?_ fun a18 w19 S20 => ?_
  rotate_left 10
  · exact opV S15.r fun c => fa_Interval_1 rfl (c.q 2 rfl)
  · exact opP S15.r fun c => ld_part rfl (c.e 0 rfl) (c.bx 1 rfl).hi Tryz.underlying26 info_Rat
  · exact opV S15.r fun c => fa_Interval_0 rfl (c.q 2 rfl)
  · exact opP S15.r fun c => ld_part rfl (c.e 0 rfl) (c.bx 1 rfl).lo Tryz.underlying26 info_Rat
  · exact opV S15.r fun c => fa_Interval_0 rfl (c.q 2 rfl)
  · rfl
  refine t_sto_lo S20 2 0 1 rfl isR.cv (fun w22 S23 => ?_) info_Rat
  refine t_val S23 (fa_Interval_1 rfl (S23.e 4 rfl)) fun a24 S25 => ?_
  refine t_sto_hi S25 0 2 1 rfl isR.cv (fun w26 S27 => ?_) info_Rat
  refine wpList_nil (then_normal ?_)
  refine wp_seq ?_
  refine st_seq S27 1 [?_] [(true,0),(false,4)] ⟨?_,trivial⟩ (L' := [(15,?_),(2,?_)]) ?_ fun a28 w29 S30 => ?_
  rotate_left 3
  · exact opL S27.r 1 Tryz.underlying39 info_Interval fun c => (c.q 5 rfl)
  · rfl
  refine t_sto S30 1 0 0 rfl (fun h => (mP.cv (fun _ h => (isR.cv h)) (fun _ h => (isR.cv h)) h)) (fun w32 S33 => ?_) info_Interval
  refine wpList_nil (then_normal ?_)
  refine wp_ret ?_
  exact st_end S33 1 0 rfl Tryz.underlying39 info_Interval fun v h => (by first | (rw [(ord_t (by assumption)).1,(ord_t (by assumption)).2]; exact h) | (rw [(ord_f (by assumption)).1,(ord_f (by assumption)).2]; exact h))
 ·have hb17p := of_decide_eq_false hb17
  refine wp_skip (then_normal ?_)
  refine wp_seq ?_
  refine st_seq S15 1 [?_] [(true,0),(false,1)] ⟨?_,trivial⟩ (L' := [(15,?_),(2,?_)]) ?_ fun a34 w35 S36 => ?_
  rotate_left 3
  · exact opL S15.r 1 Tryz.underlying39 info_Interval fun c => (c.q 2 rfl)
  · rfl
  refine t_sto S36 1 0 0 rfl (fun h => (mP.cv (fun _ h => (isR.cv h)) (fun _ h => (isR.cv h)) h)) (fun w38 S39 => ?_) info_Interval
  refine wpList_nil (then_normal ?_)
  refine wp_ret ?_
  exact st_end S39 1 0 rfl Tryz.underlying39 info_Interval fun v h => (by first | (rw [(ord_t (by assumption)).1,(ord_t (by assumption)).2]; exact h) | (rw [(ord_f (by assumption)).1,(ord_f (by assumption)).2]; exact h))

end Go.Proofs.YtcankknlbljicaaGreatDoor

namespace Go.Proofs.YtcankknlbljicaaGreatDoor
open Go.RowKit Num

set_option maxRecDepth 100000
set_option maxHeartbeats 2000000
theorem iv_trim {p0 q0 : Rat} {k0 : Nat} {v0 : Value} {w : World} {O : Bs} (hk0 : k0 ≤ 99999) (pf0 : (mP (mR (p0) (k0)) (mR (q0) (k0))).S O w v0) (hT : Tb w) (ho : OB O w) :
    Calls Tryz.prog 213 #[v0] w (RetM (mP (mC (mnQ (p0) (q0)) (k0 + 1)) (mC (mxQ (p0) (q0)) (k0 + 1))) O w) := by
 refine st_start 12 Tryz.func213 [(mP (mR (p0) (k0)) (mR (q0) (k0)))] ⟨pf0,trivial⟩ ho fun a S => ?_
 refine wp_seq ?_
 refine st_seq S 0 [] [(false,0)] trivial (L' := [(0,?_)]) ?_ fun a1 w2 S3 => ?_
 rotate_left 1
 · rfl
 refine t_box S3 0 rfl (fun h => (mP.cv (fun _ h => (isR.cv h)) (fun _ h => (isR.cv h)) h)) fun O a5 w6 g7 S8 => ?_
 refine t_alloc S8 zero_Interval (fun _ _ _ => bx_Interval) fun O a9 w10 g11 S12 => ?_
 refine wpList_nil (then_normal ?_)
 refine wp_seq ?_
 refine st_seq S12 2 [?_,?_] [(true,1),(false,0),(false,1)] ⟨?_,?_,trivial⟩ (L' := [(4,?_),(2,?_),(1,?_)]) ?_ fun a13 w14 S15 => ?_
 rotate_left 5
 · exact opL S12.r 1 Tryz.underlying39 info_Interval fun c => (c.q 1 rfl)
 · exact opC S12.r rfl fun c B => ⟨_,args_1 rfl,(iv_ordered  (by omega) (c.h 0 rfl) (hT.below B) (S12.obc c.wb))⟩
 · rfl
 refine t_sto S15 2 0 1 rfl (fun h => (mP.cv (fun _ h => (isR.cv h)) (fun _ h => (isR.cv h)) h)) (fun w17 S18 => ?_) info_Interval
 refine wpList_nil (then_normal ?_)
 refine wp_seq ?_
 refine st_mono S18 7 [?_,?_,?_,?_,?_,?_,?_] [(true,6),(false,1)] ⟨?_,?_,?_,?_,?_,?_,?_,trivial⟩ (L' := [(11,?_),(2,?_)]) ?_ fun a19 w20 S21 => ?_
 rotate_left 9
 · exact opV S18.r fun c => fa_Interval_0 rfl (c.q 2 rfl)
 · exact opP S18.r fun c => ld_part rfl (c.e 0 rfl) (c.bx 1 rfl).lo Tryz.underlying26 info_Rat
 · exact opC S18.r rfl fun c B => ⟨_,args_1 rfl,(c_trim (by omega) (c.h 0 rfl) (hT.below B))⟩
 · exact opV S18.r fun c => fa_Interval_1 rfl (c.q 2 rfl)
 · exact opP S18.r fun c => ld_part rfl (c.e 0 rfl) (c.bx 1 rfl).hi Tryz.underlying26 info_Rat
 · exact opC S18.r rfl fun c B => ⟨_,args_1 rfl,(c_trim (by omega) (c.h 0 rfl) (hT.below B))⟩
 · exact opP S18.r fun c => bld_pair rfl (c.h 0 rfl) (c.h 1 rfl) (isC.cv (c.h 0 rfl)) (isC.cv (c.h 1 rfl))
 · rfl
 refine t_sto S21 1 0 0 rfl (fun h => (mP.cv (fun _ h => (isC.cv h)) (fun _ h => (isC.cv h)) h)) (fun w23 S24 => ?_) info_Interval
 refine wpList_nil (then_normal ?_)
 refine wp_ret ?_
 exact st_end S24 1 0 rfl Tryz.underlying39 info_Interval fun v h => (mP_imp (fun _ h => (isC.mono h (by omega))) (fun _ h => (isC.mono h (by omega))) h)

theorem iv_make {p0 : Rat} {k0 : Nat} {p1 : Rat} {k1 : Nat} {v0 : Value} {v1 : Value} {w : World} {O : Bs} (hk0 : k0 ≤ 29999) (hk1 : k1 ≤ 29999) (pf0 : (mR (p0) (k0)).S O w v0) (pf1 : (mR (p1) (k1)).S O w v1) (hT : Tb w) (ho : OB O w) :
    Calls Tryz.prog 170 #[v0,v1] w (RetM (mP (mC (mnQ (p0) (p1)) (k0 + k1 + 1)) (mC (mxQ (p0) (p1)) (k0 + k1 + 1))) O w) := by
 refine st_start 9 Tryz.func170 [(mR (p0) (k0)),(mR (p1) (k1))] ⟨pf0,pf1,trivial⟩ ho fun a S => ?_
 refine wp_seq ?_
 refine st_seq S 0 [] [(false,0),(false,1)] trivial (L' := [(0,?_),(1,?_)]) ?_ fun a1 w2 S3 => ?_
 rotate_left 2
 · rfl
 refine t_box S3 0 rfl isR.cv fun O a5 w6 g7 S8 => ?_
 refine t_box S8 2 rfl isR.cv fun O a9 w10 g11 S12 => ?_
 refine t_alloc S12 zero_Interval (fun _ _ _ => bx_Interval) fun O a13 w14 g15 S16 => ?_
 refine wpList_nil (then_normal ?_)
 refine wp_seq ?_
 refine st_seq S16 4 [?_,?_,?_,?_] [(true,3),(false,0)] ⟨?_,?_,?_,?_,trivial⟩ (L' := [(8,?_),(4,?_)]) ?_ fun a17 w18 S19 => ?_
 rotate_left 6
 · exact opL S16.r 2 Tryz.underlying26 info_Rat fun c => (c.q 2 rfl)
 · exact opL S16.r 1 Tryz.underlying26 info_Rat fun c => (c.q 1 rfl)
 · exact opP S16.r fun c => bld_pair rfl (c.h 0 rfl) (c.h 1 rfl) (isR.cv (c.h 0 rfl)) (isR.cv (c.h 1 rfl))
 · exact opC S16.r rfl fun c B => ⟨_,args_1 rfl,(iv_trim  (by omega) (mP_imp (m1' := (mR (p0) (k0 + k1))) (m2' := (mR (p1) (k0 + k1))) (fun _ h => (isR.mono h (by omega))) (fun _ h => (isR.mono h (by omega))) (c.h 0 rfl)) (hT.below B) (S16.obc c.wb))⟩
 · rfl
 refine t_sto S19 1 0 0 rfl (fun h => (mP.cv (fun _ h => (isC.cv h)) (fun _ h => (isC.cv h)) h)) (fun w21 S22 => ?_) info_Interval
 refine wpList_nil (then_normal ?_)
 refine wp_ret ?_
 exact st_end S22 1 0 rfl Tryz.underlying39 info_Interval fun v h => (mP_imp (fun _ h => (isC.mono h (by omega))) (fun _ h => (isC.mono h (by omega))) h)





theorem iv_add {p0 q0 : Rat} {k0 : Nat} {p1 q1 : Rat} {k1 : Nat} {v0 : Value} {v1 : Value} {w : World} {O : Bs} (hk0 : k0 ≤ 9999) (hk1 : k1 ≤ 9999) (pf0 : (mP (mR (p0) (k0)) (mR (q0) (k0))).S O w v0) (pf1 : (mP (mR (p1) (k1)) (mR (q1) (k1))).S O w v1) (hT : Tb w) (ho : OB O w) :
    Calls Tryz.prog 104 #[v0,v1] w (RetM (mP (mC ((mnQ (p0) (q0)) + (mnQ (p1) (q1))) (k0 + k1 + 3)) (mC ((mxQ (p0) (q0)) + (mxQ (p1) (q1))) (k0 + k1 + 3))) O w) := by
 refine st_start 20 Tryz.func104 [(mP (mR (p0) (k0)) (mR (q0) (k0))),(mP (mR (p1) (k1)) (mR (q1) (k1)))] ⟨pf0,pf1,trivial⟩ ho fun a S => ?_
 refine wp_seq ?_
 refine st_seq S 0 [] [(false,0),(false,1)] trivial (L' := [(0,?_),(1,?_)]) ?_ fun a1 w2 S3 => ?_
 rotate_left 2
 · rfl
 refine t_box S3 0 rfl (fun h => (mP.cv (fun _ h => (isR.cv h)) (fun _ h => (isR.cv h)) h)) fun O a5 w6 g7 S8 => ?_
 refine t_box S8 2 rfl (fun h => (mP.cv (fun _ h => (isR.cv h)) (fun _ h => (isR.cv h)) h)) fun O a9 w10 g11 S12 => ?_
 refine t_alloc S12 zero_Interval (fun _ _ _ => bx_Interval) fun O a13 w14 g15 S16 => ?_
 refine wpList_nil (then_normal ?_)
 refine wp_seq ?_
 refine st_mono S16 4 [?_,?_,?_,?_] [(true,1),(true,3),(false,0),(false,1),(false,2)] ⟨?_,?_,?_,?_,trivial⟩ (L' := [(6,?_),(8,?_),(4,?_),(3,?_),(2,?_)]) ?_ fun a17 w18 S19 => ?_
 rotate_left 9
 · exact opL S16.r 2 Tryz.underlying39 info_Interval fun c => (c.q 2 rfl)
 · exact opC S16.r rfl fun c B => ⟨_,args_1 rfl,(iv_ordered  (by omega) (c.h 0 rfl) (hT.below B) (S16.obc c.wb))⟩
 · exact opL S16.r 1 Tryz.underlying39 info_Interval fun c => (c.q 1 rfl)
 · exact opC S16.r rfl fun c B => ⟨_,args_1 rfl,(iv_ordered  (by omega) (c.h 0 rfl) (hT.below B) (S16.obc c.wb))⟩
 · rfl
 refine t_sto S19 4 0 2 rfl (fun h => (mP.cv (fun _ h => (isR.cv h)) (fun _ h => (isR.cv h)) h)) (fun w21 S22 => ?_) info_Interval
 refine t_sto S22 3 1 1 rfl (fun h => (mP.cv (fun _ h => (isR.cv h)) (fun _ h => (isR.cv h)) h)) (fun w23 S24 => ?_) info_Interval
 refine wpList_nil (then_normal ?_)
 refine wp_seq ?_
 refine st_mono S24 11 [?_,?_,?_,?_,?_,?_,?_,?_,?_,?_,?_] [(true,10),(false,2)] ⟨?_,?_,?_,?_,?_,?_,?_,?_,?_,?_,?_,trivial⟩ (L' := [(19,?_),(4,?_)]) ?_ fun a25 w26 S27 => ?_
 rotate_left 13
 · exact opV S24.r fun c => fa_Interval_0 rfl (c.q 4 rfl)
 · exact opP S24.r fun c => ld_part rfl (c.e 0 rfl) (c.bx 2 rfl).lo Tryz.underlying26 info_Rat
 · exact opV S24.r fun c => fa_Interval_0 rfl (c.q 3 rfl)
 · exact opP S24.r fun c => ld_part rfl (c.e 0 rfl) (c.bx 1 rfl).lo Tryz.underlying26 info_Rat
 · exact opC S24.r rfl fun c B => ⟨_,args_2 rfl rfl,(c_add (by omega) (by omega) (c.h 0 rfl) (c.h 1 rfl) (hT.below B))⟩
 · exact opV S24.r fun c => fa_Interval_1 rfl (c.q 4 rfl)
 · exact opP S24.r fun c => ld_part rfl (c.e 0 rfl) (c.bx 2 rfl).hi Tryz.underlying26 info_Rat
 · exact opV S24.r fun c => fa_Interval_1 rfl (c.q 3 rfl)
 · exact opP S24.r fun c => ld_part rfl (c.e 0 rfl) (c.bx 1 rfl).hi Tryz.underlying26 info_Rat
 · exact opC S24.r rfl fun c B => ⟨_,args_2 rfl rfl,(c_add (by omega) (by omega) (c.h 0 rfl) (c.h 1 rfl) (hT.below B))⟩
 · exact opP S24.r fun c => bld_pair rfl (c.h 0 rfl) (c.h 1 rfl) (isC.cv (c.h 0 rfl)) (isC.cv (c.h 1 rfl))
 · rfl
 refine t_sto S27 1 0 0 rfl (fun h => (mP.cv (fun _ h => (isC.cv h)) (fun _ h => (isC.cv h)) h)) (fun w29 S30 => ?_) info_Interval
 refine wpList_nil (then_normal ?_)
 refine wp_ret ?_
 exact st_end S30 1 0 rfl Tryz.underlying39 info_Interval fun v h => (mP_imp (fun _ h => (isC.mono h (by omega))) (fun _ h => (isC.mono h (by omega))) h)

end Go.Proofs.YtcankknlbljicaaGreatDoor

namespace Go.Proofs.YtcankknlbljicaaGreatDoor
open Go.RowKit Num

set_option maxRecDepth 100000
set_option maxHeartbeats 2000000







end Go.Proofs.YtcankknlbljicaaGreatDoor

namespace Go.Proofs.YtcankknlbljicaaGreatDoor
open Go.RowKit Num

def ext (qs : Nat → Rat) (i l g : Nat) : Prop := i ≤ 4 ∧ l < 4 ∧ g < 4 ∧ (∀ j,j < i → qs l ≤ qs j) ∧ (∀ j,j < i → qs j ≤ qs g)
theorem ext_init (qs : Nat → Rat) : ext qs 0 0 0 := ⟨by omega,by omega,by omega,fun j hj => by omega,fun j hj => by omega⟩
def XL (qs : Nat → Rat) (i l l' : Nat) : Prop := (l' = i ∧ qs i < qs l) ∨ (l' = l ∧ qs l ≤ qs i)
def XG (qs : Nat → Rat) (i g g' : Nat) : Prop := (g' = i ∧ qs g ≤ qs i) ∨ (g' = g ∧ qs i ≤ qs g)
theorem xl_t {qs : Nat → Rat} {i l : Nat} (h : cmpQ (qs i) (qs l) < 0) : XL qs i l i := by
 refine Or.inl ⟨rfl,?_⟩
 have h1 := @cmpq_pos (qs l) (qs i)
 have h2 := cmpQ_swap (qs i) (qs l)
 exact h1.1 (by omega)
theorem xl_f {qs : Nat → Rat} {i l : Nat} (h : ¬ cmpQ (qs i) (qs l) < 0) : XL qs i l l := Or.inr ⟨rfl,Rat.not_lt.1 (cmpq_ge.1 (by omega))⟩
theorem xg_t {qs : Nat → Rat} {i g : Nat} (h : 0 ≤ cmpQ (qs i) (qs g)) : XG qs i g i := Or.inl ⟨rfl,Rat.not_lt.1 (cmpq_ge.1 h)⟩
theorem xg_f {qs : Nat → Rat} {i g : Nat} (h : ¬ 0 ≤ cmpQ (qs i) (qs g)) : XG qs i g g := Or.inr ⟨rfl,Rat.not_lt.1 (cmpq_le.1 (by omega))⟩
theorem ext_step {qs : Nat → Rat} {i l g l' g' : Nat} (h : ext qs i l g) (hi : i < 4) (h1 : XL qs i l l') (h2 : XG qs i g g') : ext qs (i + 1) l' g' := by
 obtain ⟨e1,e2,e3,e4,e5⟩ := h
 refine ⟨by omega,?_,?_,fun j hj => ?_,fun j hj => ?_⟩
 ·rcases h1 with ⟨rfl,_⟩ | ⟨rfl,_⟩ <;> omega
 ·rcases h2 with ⟨rfl,_⟩ | ⟨rfl,_⟩ <;> omega
 ·rcases h1 with ⟨rfl,h⟩ | ⟨rfl,h⟩
  ·by_cases hj' : j < l'
   ·exact Rat.le_trans (Rat.le_of_lt h) (e4 j hj')
   ·obtain rfl : j = l' := by omega
    exact Rat.le_refl
  ·by_cases hj' : j < i
   ·exact e4 j hj'
   ·obtain rfl : j = i := by omega
    exact h
 ·rcases h2 with ⟨rfl,h⟩ | ⟨rfl,h⟩
  ·by_cases hj' : j < g'
   ·exact Rat.le_trans (e5 j hj') h
   ·obtain rfl : j = g' := by omega
    exact Rat.le_refl
  ·by_cases hj' : j < i
   ·exact e5 j hj'
   ·obtain rfl : j = i := by omega
    exact h
theorem mn_cases (p q : Rat) : mnQ p q = p ∨ mnQ p q = q := by unfold mnQ; split <;> simp
theorem mx_cases (p q : Rat) : mxQ p q = p ∨ mxQ p q = q := by unfold mxQ; split <;> simp
theorem ext_end {qs : Nat → Rat} {i l g : Nat} (h : ext qs i l g) (hi : ¬ i < 4) : qs l = mn4 (qs 0) (qs 1) (qs 2) (qs 3) ∧ qs g = mx4 (qs 0) (qs 1) (qs 2) (qs 3) := by
 obtain ⟨e1,e2,e3,e4,e5⟩ := h
 have a0 := e4 0 (by omega)
 have a1 := e4 1 (by omega)
 have a2 := e4 2 (by omega)
 have a3 := e4 3 (by omega)
 have b0 := e5 0 (by omega)
 have b1 := e5 1 (by omega)
 have b2 := e5 2 (by omega)
 have b3 := e5 3 (by omega)
 constructor
 ·refine Rat.le_antisymm ?_ ?_
  ·unfold mn4
   rcases mn_cases (mnQ (qs 0) (qs 1)) (mnQ (qs 2) (qs 3)) with h | h <;> rw [h]
   ·rcases mn_cases (qs 0) (qs 1) with h | h <;> rw [h] <;> assumption
   ·rcases mn_cases (qs 2) (qs 3) with h | h <;> rw [h] <;> assumption
  ·have m1 : mn4 (qs 0) (qs 1) (qs 2) (qs 3) ≤ mnQ (qs 0) (qs 1) := mn_le_l _ _
   have m2 : mn4 (qs 0) (qs 1) (qs 2) (qs 3) ≤ mnQ (qs 2) (qs 3) := mn_le_r _ _
   match l,e2 with
   | 0,_ => exact Rat.le_trans m1 (mn_le_l _ _)
   | 1,_ => exact Rat.le_trans m1 (mn_le_r _ _)
   | 2,_ => exact Rat.le_trans m2 (mn_le_l _ _)
   | 3,_ => exact Rat.le_trans m2 (mn_le_r _ _)
 ·refine Rat.le_antisymm ?_ ?_
  ·have m1 : mxQ (qs 0) (qs 1) ≤ mx4 (qs 0) (qs 1) (qs 2) (qs 3) := le_mx_l _ _
   have m2 : mxQ (qs 2) (qs 3) ≤ mx4 (qs 0) (qs 1) (qs 2) (qs 3) := le_mx_r _ _
   match g,e3 with
   | 0,_ => exact Rat.le_trans (le_mx_l _ _) m1
   | 1,_ => exact Rat.le_trans (le_mx_r _ _) m1
   | 2,_ => exact Rat.le_trans (le_mx_l _ _) m2
   | 3,_ => exact Rat.le_trans (le_mx_r _ _) m2
  ·unfold mx4
   rcases mx_cases (mxQ (qs 0) (qs 1)) (mxQ (qs 2) (qs 3)) with h | h <;> rw [h]
   ·rcases mx_cases (qs 0) (qs 1) with h | h <;> rw [h] <;> assumption
   ·rcases mx_cases (qs 2) (qs 3) with h | h <;> rw [h] <;> assumption
end Go.Proofs.YtcankknlbljicaaGreatDoor

namespace Go.Proofs.YtcankknlbljicaaGreatDoor
open Go.RowKit Num

set_option maxRecDepth 100000
set_option maxHeartbeats 2000000
theorem iv_extremesC {qs : Nat → Rat} {k : Nat} {v0 : Value} {w : World} {O : Bs} (hk : k ≤ 99999) (pf0 : (mA4C qs (k)).S O w v0) (hT : Tb w) (ho : OB O w) :
    Calls Tryz.prog 173 #[v0] w (RetM (mP (mC (mn4 (qs 0) (qs 1) (qs 2) (qs 3)) (k)) (mC (mx4 (qs 0) (qs 1) (qs 2) (qs 3)) (k))) O w) := by
 refine st_start 34 Tryz.func173 [(mA4C qs (k))] ⟨pf0,trivial⟩ ho fun a S => ?_
 refine wp_seq ?_
 refine st_seq S 0 [] [(false,0)] trivial (L' := [(0,?_)]) ?_ fun a1 w2 S3 => ?_
 rotate_left 1
 · rfl
 refine t_box S3 0 rfl isA4C.cv fun O a5 w6 g7 S8 => ?_
 refine t_alloc S8 zero_Interval (fun _ _ _ => bx_Interval) fun O a9 w10 g11 S12 => ?_
 refine wpList_nil (then_normal ?_)
 refine wp_seq ?_
 refine st_seq S12 0 [] [(false,0),(false,1)] trivial (L' := [(2,?_),(1,?_)]) ?_ fun a13 w14 S15 => ?_
 rotate_left 2
 · rfl
 refine t_asgC S15 fun a17 S18 => ?_
 refine t_asgC S18 fun a19 S20 => ?_
 refine wpList_nil (then_normal ?_)
 refine wp_seq ?_
 refine wp_seq ?_
 refine st_seq S20 2 [?_,?_] [(true,0),(true,1),(false,0),(false,1),(false,2),(false,3)] ⟨?_,?_,trivial⟩ (L' := [(7,?_),(8,?_),(4,?_),(3,?_),(2,?_),(1,?_)]) ?_ fun a21 w22 S23 => ?_
 rotate_left 8
 · exact opL S20.r 1 Tryz.underlying146 info_Arr4 fun c => (c.q 3 rfl)
 · exact opV S20.r fun c => run_moveC rfl
 · rfl
 refine wpList_nil (then_normal ?_)
 refine wp_block ?_
 refine st_loop (τ := Nat × Nat × Nat) (fun ⟨i,l,g⟩ => [(7,(mA4C qs (k))),(8,(mV (.int .i64 ((i : Nat) : Int)))),(4,(mV (.int .i64 ((g : Nat) : Int)))),(3,(mV (.int .i64 ((l : Nat) : Int)))),(2,(mV (.pointer (some ⟨g11,0,none⟩)))),(1,(mV (.pointer (some ⟨g7,0,none⟩))))]) (fun ⟨i,l,g⟩ => [.box g11 39 6 mTop,.box g7 146 12 (mA4C qs (k))]) (fun ⟨i,l,g⟩ => ext qs i l g) (fun ⟨i,l,g⟩ => 4 - i) (0,0,0) (ext_init qs) (S23.toX ⟨S23.sl 0 rfl,S23.sl 1 rfl,S23.sl 2 rfl,S23.sl 3 rfl,S23.sl 4 rfl,S23.sl 5 rfl,trivial⟩ ⟨S23.f 0 rfl,S23.f 1 rfl,trivial⟩) ?_
 rintro ⟨i,l,g⟩ O a27 w28 hp29 S30
 try dsimp only at hp29 S30
 have hi0 := hp29.1
 have hl0 := hp29.2.1
 have hg0 := hp29.2.2.1
 refine wp_seq ?_
 refine st_seq S30 1 [?_] [(true,0),(false,0),(false,1),(false,2),(false,3),(false,4),(false,5)] ⟨?_,trivial⟩ (L' := [(9,?_),(7,?_),(8,?_),(4,?_),(3,?_),(2,?_),(1,?_)]) ?_ fun a31 w32 S33 => ?_
 rotate_left 8
 · exact opV S30.r fun c => run_lss rfl (c.q 1 rfl) rfl
 · rfl
 refine wpList_nil (then_normal ?_)
 refine wp_seq ?_
 refine cond_b _ (ev (S33.sl 0 rfl)) (fun hb35 => ?_) (fun hb35 => ?_)
 ·have hb35p := of_decide_eq_true hb35
  refine wp_skip (then_normal ?_)
  refine wp_seq ?_
  refine wp_block ?_
  refine wp_seq ?_
  refine st_seq S33 2 [?_,?_] [(true,0),(true,1),(false,1),(false,2),(false,3),(false,4),(false,5),(false,6)] ⟨?_,?_,trivial⟩ (L' := [(10,?_),(11,?_),(7,?_),(8,?_),(4,?_),(3,?_),(2,?_),(1,?_)]) ?_ fun a36 w37 S38 => ?_
  rotate_left 10
  · exact opV S33.r fun c => run_v (run_move rfl) (c.q 2 rfl)
  · exact opP S33.r fun c => idx_a4c (c.o 1 rfl) (c.q 2 rfl) (by omega)
  · rfl
  refine t_alloc S38 zero_Rat (fun _ _ _ => bx_Rat) fun O a40 w41 g42 S43 => ?_
  refine t_asg S43 1 fun a44 S45 => ?_
  refine t_sto S45 1 3 0 rfl isC.cv (fun w46 S47 => ?_) info_Rat
  refine wpList_nil (then_normal ?_)
  refine wp_seq ?_
  refine wp_seq ?_
  refine st_mono S47 6 [?_,?_,?_,?_,?_,?_] [(true,5),(false,0),(false,1),(false,4),(false,5),(false,6),(false,7),(false,8),(false,9)] ⟨?_,?_,?_,?_,?_,?_,trivial⟩ (L' := [(17,?_),(5,?_),(6,?_),(7,?_),(8,?_),(4,?_),(3,?_),(2,?_),(1,?_)]) ?_ fun a48 w49 S50 => ?_
  rotate_left 15
  · exact opL S47.r 0 Tryz.underlying26 info_Rat fun c => (c.q 1 rfl)
  · exact opV S47.r fun c => run_v (run_move rfl) (c.q 7 rfl)
  · exact opV S47.r fun c => addr_a4 rfl (c.q 9 rfl) (c.e 0 rfl) (by omega)
  · exact opP S47.r fun c => ld_part (m := (mC (qs l) (k))) rfl (c.e 0 rfl) (bx.a4c (c.bx 2 rfl) l (by omega)) Tryz.underlying26 info_Rat
  · exact opC S47.r rfl fun c B => ⟨_,args_2 rfl rfl,(c_cmp (by omega) (by omega) (isC.r (c.h 0 rfl)) (isC.r (c.h 1 rfl)) (hT.below B))⟩
  · exact opV S47.r fun c => run_lss rfl (c.e 0 rfl) rfl
  · rfl
  refine wpList_nil (then_normal ?_)
  refine cond_b _ (ev (S50.sl 0 rfl)) (fun hb52 => ?_) (fun hb52 => ?_)
  ·have hb52p := of_decide_eq_true hb52
   refine st_seq S50 1 [?_] [(true,0),(false,1),(false,2),(false,3),(false,4),(false,5),(false,6),(false,7),(false,8)] ⟨?_,trivial⟩ (L' := [(18,?_),(5,?_),(6,?_),(7,?_),(8,?_),(4,?_),(3,?_),(2,?_),(1,?_)]) ?_ fun a53 w54 S55 => ?_
   rotate_left 10
   · exact opV S50.r fun c => run_v (run_move rfl) (c.q 1 rfl)
   · rfl
   refine t_asg S55 0 fun a57 S58 => ?_
   refine wpList_nil (then_normal ?_)
   refine wp_seq ?_
   refine st_mono S58 6 [?_,?_,?_,?_,?_,?_] [(true,5),(false,0),(false,2),(false,4),(false,5),(false,6),(false,7),(false,8)] ⟨?_,?_,?_,?_,?_,?_,trivial⟩ (L' := [(24,?_),(3,?_),(5,?_),(7,?_),(8,?_),(4,?_),(2,?_),(1,?_)]) ?_ fun a59 w60 S61 => ?_
   rotate_left 14
   · exact opL S58.r 0 Tryz.underlying26 info_Rat fun c => (c.q 3 rfl)
   · exact opV S58.r fun c => run_v (run_move rfl) (c.q 6 rfl)
   · exact opV S58.r fun c => addr_a4 rfl (c.q 8 rfl) (c.e 0 rfl) (by omega)
   · exact opP S58.r fun c => ld_part (m := (mC (qs g) (k))) rfl (c.e 0 rfl) (bx.a4c (c.bx 2 rfl) g (by omega)) Tryz.underlying26 info_Rat
   · exact opC S58.r rfl fun c B => ⟨_,args_2 rfl rfl,(c_cmp (by omega) (by omega) (isC.r (c.h 0 rfl)) (isC.r (c.h 1 rfl)) (hT.below B))⟩
   · exact opV S58.r fun c => run_geq rfl (c.e 0 rfl) rfl
   · rfl
   refine wpList_nil (then_normal ?_)
   refine cond_b _ (ev (S61.sl 0 rfl)) (fun hb63 => ?_) (fun hb63 => ?_)
   ·have hb63p := of_decide_eq_true hb63
    refine st_seq S61 1 [?_] [(true,0),(false,1),(false,3),(false,4),(false,5),(false,6),(false,7)] ⟨?_,trivial⟩ (L' := [(25,?_),(3,?_),(7,?_),(8,?_),(4,?_),(2,?_),(1,?_)]) ?_ fun a64 w65 S66 => ?_
    rotate_left 8
    · exact opV S61.r fun c => run_v (run_move rfl) (c.q 2 rfl)
    · rfl
    refine t_asg S66 0 fun a68 S69 => ?_
    refine wpList_nil (in_normal (then_normal ?_))
    refine st_seq S69 1 [?_] [(true,0),(false,0),(false,2),(false,3),(false,4),(false,5),(false,6)] ⟨?_,trivial⟩ (L' := [(26,?_),(4,?_),(3,?_),(7,?_),(8,?_),(2,?_),(1,?_)]) ?_ fun a70 w71 S72 => ?_
    rotate_left 8
    · exact opV S69.r fun c => run_add rfl (c.q 4 rfl) rfl (by omega) (by omega)
    · rfl
    refine t_val S72 (run_v (run_move rfl) (S72.e 0 rfl)) fun a74 S75 => ?_
    refine wpList_nil (then_normal ?_)
    exact ⟨(i + 1,i,i),(by first | omega | (dsimp only; omega)),(ext_step hp29 (by omega) (xl_t hb52p) (xg_t hb63p)),_,(S75.dropN 1).toX ⟨S75.sl 4 rfl,(S75.sl 0 rfl).trans (by first | rfl | exact congrArg _ (by omega)),(S75.sl 2 rfl).trans (by first | rfl | exact congrArg _ (by omega)),(S75.sl 3 rfl).trans (by first | rfl | exact congrArg _ (by omega)),S75.sl 5 rfl,S75.sl 6 rfl,trivial⟩ ⟨S75.f 1 rfl,S75.f 2 rfl,trivial⟩⟩
   ·have hb63p := of_decide_eq_false hb63
    refine wp_skip (in_normal (then_normal ?_))
    refine st_seq S61 1 [?_] [(true,0),(false,1),(false,3),(false,4),(false,5),(false,6),(false,7)] ⟨?_,trivial⟩ (L' := [(26,?_),(3,?_),(7,?_),(8,?_),(4,?_),(2,?_),(1,?_)]) ?_ fun a76 w77 S78 => ?_
    rotate_left 8
    · exact opV S61.r fun c => run_add rfl (c.q 4 rfl) rfl (by omega) (by omega)
    · rfl
    refine t_val S78 (run_v (run_move rfl) (S78.e 0 rfl)) fun a80 S81 => ?_
    refine wpList_nil (then_normal ?_)
    exact ⟨(i + 1,i,g),(by first | omega | (dsimp only; omega)),(ext_step hp29 (by omega) (xl_t hb52p) (xg_f hb63p)),_,(S81.dropN 1).toX ⟨S81.sl 3 rfl,(S81.sl 0 rfl).trans (by first | rfl | exact congrArg _ (by omega)),(S81.sl 4 rfl).trans (by first | rfl | exact congrArg _ (by omega)),(S81.sl 2 rfl).trans (by first | rfl | exact congrArg _ (by omega)),S81.sl 5 rfl,S81.sl 6 rfl,trivial⟩ ⟨S81.f 1 rfl,S81.f 2 rfl,trivial⟩⟩
  ·have hb52p := of_decide_eq_false hb52
   refine wp_skip (then_normal ?_)
   refine wp_seq ?_
   refine st_mono S50 6 [?_,?_,?_,?_,?_,?_] [(true,5),(false,1),(false,3),(false,4),(false,5),(false,6),(false,7),(false,8)] ⟨?_,?_,?_,?_,?_,?_,trivial⟩ (L' := [(24,?_),(5,?_),(7,?_),(8,?_),(4,?_),(3,?_),(2,?_),(1,?_)]) ?_ fun a82 w83 S84 => ?_
   rotate_left 14
   · exact opL S50.r 0 Tryz.underlying26 info_Rat fun c => (c.q 2 rfl)
   · exact opV S50.r fun c => run_v (run_move rfl) (c.q 5 rfl)
   · exact opV S50.r fun c => addr_a4 rfl (c.q 8 rfl) (c.e 0 rfl) (by omega)
   · exact opP S50.r fun c => ld_part (m := (mC (qs g) (k))) rfl (c.e 0 rfl) (bx.a4c (c.bx 2 rfl) g (by omega)) Tryz.underlying26 info_Rat
   · exact opC S50.r rfl fun c B => ⟨_,args_2 rfl rfl,(c_cmp (by omega) (by omega) (isC.r (c.h 0 rfl)) (isC.r (c.h 1 rfl)) (hT.below B))⟩
   · exact opV S50.r fun c => run_geq rfl (c.e 0 rfl) rfl
   · rfl
   refine wpList_nil (then_normal ?_)
   refine cond_b _ (ev (S84.sl 0 rfl)) (fun hb86 => ?_) (fun hb86 => ?_)
   ·have hb86p := of_decide_eq_true hb86
    refine st_seq S84 1 [?_] [(true,0),(false,2),(false,3),(false,4),(false,5),(false,6),(false,7)] ⟨?_,trivial⟩ (L' := [(25,?_),(7,?_),(8,?_),(4,?_),(3,?_),(2,?_),(1,?_)]) ?_ fun a87 w88 S89 => ?_
    rotate_left 8
    · exact opV S84.r fun c => run_v (run_move rfl) (c.q 1 rfl)
    · rfl
    refine t_asg S89 0 fun a91 S92 => ?_
    refine wpList_nil (in_normal (then_normal ?_))
    refine st_seq S92 1 [?_] [(true,0),(false,0),(false,2),(false,3),(false,4),(false,5),(false,6)] ⟨?_,trivial⟩ (L' := [(26,?_),(4,?_),(7,?_),(8,?_),(3,?_),(2,?_),(1,?_)]) ?_ fun a93 w94 S95 => ?_
    rotate_left 8
    · exact opV S92.r fun c => run_add rfl (c.q 3 rfl) rfl (by omega) (by omega)
    · rfl
    refine t_val S95 (run_v (run_move rfl) (S95.e 0 rfl)) fun a97 S98 => ?_
    refine wpList_nil (then_normal ?_)
    exact ⟨(i + 1,l,i),(by first | omega | (dsimp only; omega)),(ext_step hp29 (by omega) (xl_f hb52p) (xg_t hb86p)),_,(S98.dropN 1).toX ⟨S98.sl 3 rfl,(S98.sl 0 rfl).trans (by first | rfl | exact congrArg _ (by omega)),(S98.sl 2 rfl).trans (by first | rfl | exact congrArg _ (by omega)),(S98.sl 4 rfl).trans (by first | rfl | exact congrArg _ (by omega)),S98.sl 5 rfl,S98.sl 6 rfl,trivial⟩ ⟨S98.f 1 rfl,S98.f 2 rfl,trivial⟩⟩
   ·have hb86p := of_decide_eq_false hb86
    refine wp_skip (in_normal (then_normal ?_))
    refine st_seq S84 1 [?_] [(true,0),(false,2),(false,3),(false,4),(false,5),(false,6),(false,7)] ⟨?_,trivial⟩ (L' := [(26,?_),(7,?_),(8,?_),(4,?_),(3,?_),(2,?_),(1,?_)]) ?_ fun a99 w100 S101 => ?_
    rotate_left 8
    · exact opV S84.r fun c => run_add rfl (c.q 3 rfl) rfl (by omega) (by omega)
    · rfl
    refine t_val S101 (run_v (run_move rfl) (S101.e 0 rfl)) fun a103 S104 => ?_
    refine wpList_nil (then_normal ?_)
    exact ⟨(i + 1,l,g),(by first | omega | (dsimp only; omega)),(ext_step hp29 (by omega) (xl_f hb52p) (xg_f hb86p)),_,(S104.dropN 1).toX ⟨S104.sl 2 rfl,(S104.sl 0 rfl).trans (by first | rfl | exact congrArg _ (by omega)),(S104.sl 3 rfl).trans (by first | rfl | exact congrArg _ (by omega)),(S104.sl 4 rfl).trans (by first | rfl | exact congrArg _ (by omega)),S104.sl 5 rfl,S104.sl 6 rfl,trivial⟩ ⟨S104.f 1 rfl,S104.f 2 rfl,trivial⟩⟩
 ·have hb35p := of_decide_eq_false hb35
  refine wp_exit ?_
  repeat (first | refine exit_in ?_ | refine exit_then ?_ | refine exit_out (by decide) ?_)
  refine (then_normal ?_)
  refine wp_seq ?_
  refine st_mono S33 7 [?_,?_,?_,?_,?_,?_,?_] [(true,6),(false,5)] ⟨?_,?_,?_,?_,?_,?_,?_,trivial⟩ (L' := [(33,?_),(2,?_)]) ?_ fun a105 w106 S107 => ?_
  rotate_left 9
  · exact opV S33.r fun c => run_v (run_move rfl) (c.q 4 rfl)
  · exact opV S33.r fun c => addr_a4 rfl (c.q 6 rfl) (c.e 0 rfl) (by omega)
  · exact opP S33.r fun c => ld_part (m := (mC (qs l) (k))) rfl (c.e 0 rfl) (bx.a4c (c.bx 1 rfl) l (by omega)) Tryz.underlying26 info_Rat
  · exact opV S33.r fun c => run_v (run_move rfl) (c.q 3 rfl)
  · exact opV S33.r fun c => addr_a4 rfl (c.q 6 rfl) (c.e 0 rfl) (by omega)
  · exact opP S33.r fun c => ld_part (m := (mC (qs g) (k))) rfl (c.e 0 rfl) (bx.a4c (c.bx 1 rfl) g (by omega)) Tryz.underlying26 info_Rat
  · exact opP S33.r fun c => bld_pair rfl (c.h 0 rfl) (c.h 1 rfl) (isC.cv (c.h 0 rfl)) (isC.cv (c.h 1 rfl))
  · rfl
  refine t_sto S107 1 0 0 rfl (fun h => (mP.cv (fun _ h => (isC.cv h)) (fun _ h => (isC.cv h)) h)) (fun w109 S110 => ?_) info_Interval
  refine wpList_nil (then_normal ?_)
  refine wp_ret ?_
  exact st_end S110 1 0 rfl Tryz.underlying39 info_Interval fun v h => (by have e := ext_end hp29 (by omega); rw [← e.1,← e.2]; exact h)
end Go.Proofs.YtcankknlbljicaaGreatDoor

namespace Go.Proofs.YtcankknlbljicaaGreatDoor
open Go.RowKit Num

set_option maxRecDepth 100000
set_option maxHeartbeats 2000000
theorem iv_mul {p0 q0 : Rat} {k0 : Nat} {p1 q1 : Rat} {k1 : Nat} {v0 : Value} {v1 : Value} {w : World} {O : Bs} (hk0 : k0 ≤ 29999) (hk1 : k1 ≤ 29999) (pf0 : (mP (mR (p0) (k0)) (mR (q0) (k0))).S O w v0) (pf1 : (mP (mR (p1) (k1)) (mR (q1) (k1))).S O w v1) (hT : Tb w) (ho : OB O w) :
    Calls Tryz.prog 105 #[v0,v1] w (RetM (mP (mC (mn4 ((p0) * (p1)) ((p0) * (q1)) ((q0) * (p1)) ((q0) * (q1))) (k0 + k1 + 3)) (mC (mx4 ((p0) * (p1)) ((p0) * (q1)) ((q0) * (p1)) ((q0) * (q1))) (k0 + k1 + 3))) O w) := by
 refine st_start 27 Tryz.func105 [(mP (mR (p0) (k0)) (mR (q0) (k0))),(mP (mR (p1) (k1)) (mR (q1) (k1)))] ⟨pf0,pf1,trivial⟩ ho fun a S => ?_
 refine wp_seq ?_
 refine st_seq S 0 [] [(false,0),(false,1)] trivial (L' := [(0,?_),(1,?_)]) ?_ fun a1 w2 S3 => ?_
 rotate_left 2
 · rfl
 refine t_box S3 0 rfl (fun h => (mP.cv (fun _ h => (isR.cv h)) (fun _ h => (isR.cv h)) h)) fun O a5 w6 g7 S8 => ?_
 refine t_box S8 2 rfl (fun h => (mP.cv (fun _ h => (isR.cv h)) (fun _ h => (isR.cv h)) h)) fun O a9 w10 g11 S12 => ?_
 refine t_alloc S12 zero_Interval (fun _ _ _ => bx_Interval) fun O a13 w14 g15 S16 => ?_
 refine wpList_nil (then_normal ?_)
 refine wp_seq ?_
 refine st_mono S16 22 [?_,?_,?_,?_,?_,?_,?_,?_,?_,?_,?_,?_,?_,?_,?_,?_,?_,?_,?_,?_,?_,?_] [(true,21),(false,0)] ⟨?_,?_,?_,?_,?_,?_,?_,?_,?_,?_,?_,?_,?_,?_,?_,?_,?_,?_,?_,?_,?_,?_,trivial⟩ (L' := [(26,?_),(4,?_)]) ?_ fun a17 w18 S19 => ?_
 rotate_left 24
 · exact opV S16.r fun c => fa_Interval_0 rfl (c.q 2 rfl)
 · exact opP S16.r fun c => ld_part rfl (c.e 0 rfl) (c.bx 2 rfl).lo Tryz.underlying26 info_Rat
 · exact opV S16.r fun c => fa_Interval_0 rfl (c.q 1 rfl)
 · exact opP S16.r fun c => ld_part rfl (c.e 0 rfl) (c.bx 1 rfl).lo Tryz.underlying26 info_Rat
 · exact opC S16.r rfl fun c B => ⟨_,args_2 rfl rfl,(c_mul (by omega) (by omega) (c.h 0 rfl) (c.h 1 rfl) (hT.below B))⟩
 · exact opV S16.r fun c => fa_Interval_0 rfl (c.q 2 rfl)
 · exact opP S16.r fun c => ld_part rfl (c.e 0 rfl) (c.bx 2 rfl).lo Tryz.underlying26 info_Rat
 · exact opV S16.r fun c => fa_Interval_1 rfl (c.q 1 rfl)
 · exact opP S16.r fun c => ld_part rfl (c.e 0 rfl) (c.bx 1 rfl).hi Tryz.underlying26 info_Rat
 · exact opC S16.r rfl fun c B => ⟨_,args_2 rfl rfl,(c_mul (by omega) (by omega) (c.h 0 rfl) (c.h 1 rfl) (hT.below B))⟩
 · exact opV S16.r fun c => fa_Interval_1 rfl (c.q 2 rfl)
 · exact opP S16.r fun c => ld_part rfl (c.e 0 rfl) (c.bx 2 rfl).hi Tryz.underlying26 info_Rat
 · exact opV S16.r fun c => fa_Interval_0 rfl (c.q 1 rfl)
 · exact opP S16.r fun c => ld_part rfl (c.e 0 rfl) (c.bx 1 rfl).lo Tryz.underlying26 info_Rat
 · exact opC S16.r rfl fun c B => ⟨_,args_2 rfl rfl,(c_mul (by omega) (by omega) (c.h 0 rfl) (c.h 1 rfl) (hT.below B))⟩
 · exact opV S16.r fun c => fa_Interval_1 rfl (c.q 2 rfl)
 · exact opP S16.r fun c => ld_part rfl (c.e 0 rfl) (c.bx 2 rfl).hi Tryz.underlying26 info_Rat
 · exact opV S16.r fun c => fa_Interval_1 rfl (c.q 1 rfl)
 · exact opP S16.r fun c => ld_part rfl (c.e 0 rfl) (c.bx 1 rfl).hi Tryz.underlying26 info_Rat
 · exact opC S16.r rfl fun c B => ⟨_,args_2 rfl rfl,(c_mul (by omega) (by omega) (c.h 0 rfl) (c.h 1 rfl) (hT.below B))⟩
 · exact opP S16.r fun c => bld_a4c rfl (c.h 0 rfl) (c.h 1 rfl) (c.h 2 rfl) (c.h 3 rfl)
 · exact opC S16.r rfl fun c B => ⟨_,args_1 rfl,(iv_extremesC (qs := (qs4 ((p0) * (p1)) ((p0) * (q1)) ((q0) * (p1)) ((q0) * (q1)))) (k := k0 + k1 + 3) (by omega) (c.h 0 rfl) (hT.below B) (S16.obc c.wb))⟩
 · rfl
 refine t_sto S19 1 0 0 rfl (fun h => (mP.cv (fun _ h => (isC.cv h)) (fun _ h => (isC.cv h)) h)) (fun w21 S22 => ?_) info_Interval
 refine wpList_nil (then_normal ?_)
 refine wp_ret ?_
 exact st_end S22 1 0 rfl Tryz.underlying39 info_Interval fun v h => (mP_imp (fun _ h => (isC.mono h (by omega))) (fun _ h => (isC.mono h (by omega))) h)

end Go.Proofs.YtcankknlbljicaaGreatDoor
