/-  -/
import Derived.Test.YtiljjhhkklnlgaaGreatDoorQec

set_option linter.unusedVariables false
set_option linter.unusedSimpArgs false
set_option linter.unusedSectionVars false
set_option maxRecDepth 100000
set_option maxHeartbeats 3200000

namespace Go.Proofs.YtiljjhhkklnlgaaGreatDoor
open Go.RowKit Num

set_option maxRecDepth 100000
set_option maxHeartbeats 2000000
theorem iv_ordered {p0 q0 : Rat} {k0 : Nat} {v0 : Value} {w : World} {O : Bs} (hk0 : k0 ≤ 199999) (pf0 : (mP (mR (p0) (k0)) (mR (q0) (k0))).S O w v0) (hT : Tb w) (ho : OB O w) :
    Calls Tryz.prog 129 #[v0] w (RetM (mP (mR (mnQ (p0) (q0)) (k0)) (mR (mxQ (p0) (q0)) (k0))) O w) := by
 refine st_start 16 Tryz.func129 [(mP (mR (p0) (k0)) (mR (q0) (k0)))] ⟨pf0, trivial⟩ ho fun a S => ?_
 refine wp_seq ?_
 refine st_seq S 0 [] [(false, 0)] trivial (L' := [(0, ?_)]) ?_ fun a1 w2 S3 => ?_
 rotate_left 1
 · rfl
 refine t_box S3 0 rfl (fun h => (mP.cv (fun _ h => (isR.cv h)) (fun _ h => (isR.cv h)) h)) fun O a5 w6 g7 S8 => ?_
 refine t_alloc S8 zero_Interval (fun _ _ _ => bx_Interval) fun O a9 w10 g11 S12 => ?_
 refine wpList_nil (then_normal ?_)
 refine wp_seq ?_
 refine wp_seq ?_
 refine st_seq S12 6 [?_, ?_, ?_, ?_, ?_, ?_] [(true, 5), (false, 0), (false, 1)] ⟨?_, ?_, ?_, ?_, ?_, ?_, trivial⟩ (L' := [(8, ?_), (2, ?_), (1, ?_)]) ?_ fun a13 w14 S15 => ?_
 rotate_left 9
 · exact opV S12 fun c => fa_Interval_0 rfl (c.q 1 rfl)
 · exact opP S12 fun c => ld_part rfl (c.e 0 rfl) (c.bx 1 rfl).lo Tryz.underlying26 info_Rat
 · exact opV S12 fun c => fa_Interval_1 rfl (c.q 1 rfl)
 · exact opP S12 fun c => ld_part rfl (c.e 0 rfl) (c.bx 1 rfl).hi Tryz.underlying26 info_Rat
 · exact opC S12 rfl fun c B => ⟨_, args_2 rfl rfl, (c_cmp (by omega) (by omega) (c.h 0 rfl) (c.h 1 rfl) (hT.below B))⟩
 · exact opV S12 fun c => run_gtr rfl (c.e 0 rfl) rfl
 · rfl
 refine wpList_nil (then_normal ?_)
 refine cond_b _ (ev (S15.sl 0 rfl)) (fun hb17 => ?_) (fun hb17 => ?_)
 ·have hb17p := of_decide_eq_true hb17
  refine st_seq S15 5 [?_, ?_, ?_, ?_, ?_] [(true, 1), (true, 3), (true, 4), (false, 1), (false, 2)] ⟨?_, ?_, ?_, ?_, ?_, trivial⟩ (L' := [(10, ?_), (12, ?_), (13, ?_), (2, ?_), (1, ?_)]) ?_ fun a18 w19 S20 => ?_
  rotate_left 10
  · exact opV S15 fun c => fa_Interval_1 rfl (c.q 2 rfl)
  · exact opP S15 fun c => ld_part rfl (c.e 0 rfl) (c.bx 1 rfl).hi Tryz.underlying26 info_Rat
  · exact opV S15 fun c => fa_Interval_0 rfl (c.q 2 rfl)
  · exact opP S15 fun c => ld_part rfl (c.e 0 rfl) (c.bx 1 rfl).lo Tryz.underlying26 info_Rat
  · exact opV S15 fun c => fa_Interval_0 rfl (c.q 2 rfl)
  · rfl
  refine t_sto_lo S20 2 0 1 rfl isR.cv (fun w22 S23 => ?_) info_Rat
  refine t_val S23 (fa_Interval_1 rfl (S23.e 4 rfl)) fun a24 S25 => ?_
  refine t_sto_hi S25 0 2 1 rfl isR.cv (fun w26 S27 => ?_) info_Rat
  refine wpList_nil (then_normal ?_)
  refine wp_seq ?_
  refine st_seq S27 1 [?_] [(true, 0), (false, 4)] ⟨?_, trivial⟩ (L' := [(15, ?_), (2, ?_)]) ?_ fun a28 w29 S30 => ?_
  rotate_left 3
  · exact opL S27 1 Tryz.underlying37 info_Interval fun c => (c.q 5 rfl)
  · rfl
  refine t_sto S30 1 0 0 rfl (fun h => (mP.cv (fun _ h => (isR.cv h)) (fun _ h => (isR.cv h)) h)) (fun w32 S33 => ?_) info_Interval
  refine wpList_nil (then_normal ?_)
  refine wp_ret ?_
  exact st_end S33 1 0 rfl Tryz.underlying37 info_Interval fun v h => (by first | (rw [(ord_t (by assumption)).1, (ord_t (by assumption)).2]; exact h) | (rw [(ord_f (by assumption)).1, (ord_f (by assumption)).2]; exact h))
 ·have hb17p := of_decide_eq_false hb17
  refine wp_skip (then_normal ?_)
  refine wp_seq ?_
  refine st_seq S15 1 [?_] [(true, 0), (false, 1)] ⟨?_, trivial⟩ (L' := [(15, ?_), (2, ?_)]) ?_ fun a34 w35 S36 => ?_
  rotate_left 3
  · exact opL S15 1 Tryz.underlying37 info_Interval fun c => (c.q 2 rfl)
  · rfl
  refine t_sto S36 1 0 0 rfl (fun h => (mP.cv (fun _ h => (isR.cv h)) (fun _ h => (isR.cv h)) h)) (fun w38 S39 => ?_) info_Interval
  refine wpList_nil (then_normal ?_)
  refine wp_ret ?_
  exact st_end S39 1 0 rfl Tryz.underlying37 info_Interval fun v h => (by first | (rw [(ord_t (by assumption)).1, (ord_t (by assumption)).2]; exact h) | (rw [(ord_f (by assumption)).1, (ord_f (by assumption)).2]; exact h))

theorem iv_orderedC {p q : Rat} {k : Nat} {v0 : Value} {w : World} {O : Bs} (hk : k ≤ 199999) (pf0 : (mP (mC (p) (k)) (mC (q) (k))).S O w v0) (hT : Tb w) (ho : OB O w) :
    Calls Tryz.prog 129 #[v0] w (RetM (mP (mC (mnQ (p) (q)) (k)) (mC (mxQ (p) (q)) (k))) O w) := by
 refine st_start 16 Tryz.func129 [(mP (mC (p) (k)) (mC (q) (k)))] ⟨pf0, trivial⟩ ho fun a S => ?_
 refine wp_seq ?_
 refine st_seq S 0 [] [(false, 0)] trivial (L' := [(0, ?_)]) ?_ fun a1 w2 S3 => ?_
 rotate_left 1
 · rfl
 refine t_box S3 0 rfl (fun h => (mP.cv (fun _ h => (isC.cv h)) (fun _ h => (isC.cv h)) h)) fun O a5 w6 g7 S8 => ?_
 refine t_alloc S8 zero_Interval (fun _ _ _ => bx_Interval) fun O a9 w10 g11 S12 => ?_
 refine wpList_nil (then_normal ?_)
 refine wp_seq ?_
 refine wp_seq ?_
 refine st_seq S12 6 [?_, ?_, ?_, ?_, ?_, ?_] [(true, 5), (false, 0), (false, 1)] ⟨?_, ?_, ?_, ?_, ?_, ?_, trivial⟩ (L' := [(8, ?_), (2, ?_), (1, ?_)]) ?_ fun a13 w14 S15 => ?_
 rotate_left 9
 · exact opV S12 fun c => fa_Interval_0 rfl (c.q 1 rfl)
 · exact opP S12 fun c => ld_part rfl (c.e 0 rfl) (c.bx 1 rfl).lo Tryz.underlying26 info_Rat
 · exact opV S12 fun c => fa_Interval_1 rfl (c.q 1 rfl)
 · exact opP S12 fun c => ld_part rfl (c.e 0 rfl) (c.bx 1 rfl).hi Tryz.underlying26 info_Rat
 · exact opC S12 rfl fun c B => ⟨_, args_2 rfl rfl, (c_cmp (by omega) (by omega) (isC.r (c.h 0 rfl)) (isC.r (c.h 1 rfl)) (hT.below B))⟩
 · exact opV S12 fun c => run_gtr rfl (c.e 0 rfl) rfl
 · rfl
 refine wpList_nil (then_normal ?_)
 refine cond_b _ (ev (S15.sl 0 rfl)) (fun hb17 => ?_) (fun hb17 => ?_)
 ·have hb17p := of_decide_eq_true hb17
  refine st_seq S15 5 [?_, ?_, ?_, ?_, ?_] [(true, 1), (true, 3), (true, 4), (false, 1), (false, 2)] ⟨?_, ?_, ?_, ?_, ?_, trivial⟩ (L' := [(10, ?_), (12, ?_), (13, ?_), (2, ?_), (1, ?_)]) ?_ fun a18 w19 S20 => ?_
  rotate_left 10
  · exact opV S15 fun c => fa_Interval_1 rfl (c.q 2 rfl)
  · exact opP S15 fun c => ld_part rfl (c.e 0 rfl) (c.bx 1 rfl).hi Tryz.underlying26 info_Rat
  · exact opV S15 fun c => fa_Interval_0 rfl (c.q 2 rfl)
  · exact opP S15 fun c => ld_part rfl (c.e 0 rfl) (c.bx 1 rfl).lo Tryz.underlying26 info_Rat
  · exact opV S15 fun c => fa_Interval_0 rfl (c.q 2 rfl)
  · rfl
  refine t_sto_lo S20 2 0 1 rfl isC.cv (fun w22 S23 => ?_) info_Rat
  refine t_val S23 (fa_Interval_1 rfl (S23.e 4 rfl)) fun a24 S25 => ?_
  refine t_sto_hi S25 0 2 1 rfl isC.cv (fun w26 S27 => ?_) info_Rat
  refine wpList_nil (then_normal ?_)
  refine wp_seq ?_
  refine st_seq S27 1 [?_] [(true, 0), (false, 4)] ⟨?_, trivial⟩ (L' := [(15, ?_), (2, ?_)]) ?_ fun a28 w29 S30 => ?_
  rotate_left 3
  · exact opL S27 1 Tryz.underlying37 info_Interval fun c => (c.q 5 rfl)
  · rfl
  refine t_sto S30 1 0 0 rfl (fun h => (mP.cv (fun _ h => (isC.cv h)) (fun _ h => (isC.cv h)) h)) (fun w32 S33 => ?_) info_Interval
  refine wpList_nil (then_normal ?_)
  refine wp_ret ?_
  exact st_end S33 1 0 rfl Tryz.underlying37 info_Interval fun v h => (by first | (rw [(ord_t (by assumption)).1, (ord_t (by assumption)).2]; exact h) | (rw [(ord_f (by assumption)).1, (ord_f (by assumption)).2]; exact h))
 ·have hb17p := of_decide_eq_false hb17
  refine wp_skip (then_normal ?_)
  refine wp_seq ?_
  refine st_seq S15 1 [?_] [(true, 0), (false, 1)] ⟨?_, trivial⟩ (L' := [(15, ?_), (2, ?_)]) ?_ fun a34 w35 S36 => ?_
  rotate_left 3
  · exact opL S15 1 Tryz.underlying37 info_Interval fun c => (c.q 2 rfl)
  · rfl
  refine t_sto S36 1 0 0 rfl (fun h => (mP.cv (fun _ h => (isC.cv h)) (fun _ h => (isC.cv h)) h)) (fun w38 S39 => ?_) info_Interval
  refine wpList_nil (then_normal ?_)
  refine wp_ret ?_
  exact st_end S39 1 0 rfl Tryz.underlying37 info_Interval fun v h => (by first | (rw [(ord_t (by assumption)).1, (ord_t (by assumption)).2]; exact h) | (rw [(ord_f (by assumption)).1, (ord_f (by assumption)).2]; exact h))

theorem iv_lesser {p0 : Rat} {k0 : Nat} {p1 : Rat} {k1 : Nat} {v0 : Value} {v1 : Value} {w : World} {O : Bs} (hk0 : k0 ≤ 199999) (hk1 : k1 ≤ 199999) (pf0 : (mR (p0) (k0)).S O w v0) (pf1 : (mR (p1) (k1)).S O w v1) (hT : Tb w) (ho : OB O w) :
    Calls Tryz.prog 131 #[v0, v1] w (RetM (mR (mnQ (p0) (p1)) (k0 + k1)) O w) := by
 refine st_start 11 Tryz.func131 [(mR (p0) (k0)), (mR (p1) (k1))] ⟨pf0, pf1, trivial⟩ ho fun a S => ?_
 refine wp_seq ?_
 refine st_seq S 0 [] [(false, 0), (false, 1)] trivial (L' := [(0, ?_), (1, ?_)]) ?_ fun a1 w2 S3 => ?_
 rotate_left 2
 · rfl
 refine t_box S3 0 rfl isR.cv fun O a5 w6 g7 S8 => ?_
 refine t_box S8 2 rfl isR.cv fun O a9 w10 g11 S12 => ?_
 refine t_alloc S12 zero_Rat (fun _ _ _ => bx_Rat) fun O a13 w14 g15 S16 => ?_
 refine wpList_nil (then_normal ?_)
 refine wp_seq ?_
 refine wp_seq ?_
 refine st_seq S16 4 [?_, ?_, ?_, ?_] [(true, 3), (false, 0), (false, 1), (false, 2)] ⟨?_, ?_, ?_, ?_, trivial⟩ (L' := [(8, ?_), (4, ?_), (3, ?_), (2, ?_)]) ?_ fun a17 w18 S19 => ?_
 rotate_left 8
 · exact opL S16 2 Tryz.underlying26 info_Rat fun c => (c.q 2 rfl)
 · exact opL S16 1 Tryz.underlying26 info_Rat fun c => (c.q 1 rfl)
 · exact opC S16 rfl fun c B => ⟨_, args_2 rfl rfl, (c_cmp (by omega) (by omega) (c.h 0 rfl) (c.h 1 rfl) (hT.below B))⟩
 · exact opV S16 fun c => run_leq rfl (c.e 0 rfl) rfl
 · rfl
 refine wpList_nil (then_normal ?_)
 refine cond_b _ (ev (S19.sl 0 rfl)) (fun hb21 => ?_) (fun hb21 => ?_)
 ·have hb21p := of_decide_eq_true hb21
  refine wp_seq ?_
  refine st_seq S19 1 [?_] [(true, 0), (false, 1), (false, 2)] ⟨?_, trivial⟩ (L' := [(9, ?_), (4, ?_), (3, ?_)]) ?_ fun a22 w23 S24 => ?_
  rotate_left 4
  · exact opL S19 2 Tryz.underlying26 info_Rat fun c => (c.q 3 rfl)
  · rfl
  refine t_sto S24 1 0 0 rfl isR.cv (fun w26 S27 => ?_) info_Rat
  refine wpList_nil (then_normal ?_)
  refine wp_ret ?_
  exact st_end S27 1 0 rfl Tryz.underlying26 info_Rat fun v h => (by first | (rw [les_t (by assumption)]; exact isR.mono h (by omega)) | (rw [les_f (by assumption)]; exact isR.mono h (by omega)))
 ·have hb21p := of_decide_eq_false hb21
  refine wp_skip (then_normal ?_)
  refine wp_seq ?_
  refine st_seq S19 1 [?_] [(true, 0), (false, 1)] ⟨?_, trivial⟩ (L' := [(10, ?_), (4, ?_)]) ?_ fun a28 w29 S30 => ?_
  rotate_left 3
  · exact opL S19 1 Tryz.underlying26 info_Rat fun c => (c.q 2 rfl)
  · rfl
  refine t_sto S30 1 0 0 rfl isR.cv (fun w32 S33 => ?_) info_Rat
  refine wpList_nil (then_normal ?_)
  refine wp_ret ?_
  exact st_end S33 1 0 rfl Tryz.underlying26 info_Rat fun v h => (by first | (rw [les_t (by assumption)]; exact isR.mono h (by omega)) | (rw [les_f (by assumption)]; exact isR.mono h (by omega)))

theorem iv_greater {p0 : Rat} {k0 : Nat} {p1 : Rat} {k1 : Nat} {v0 : Value} {v1 : Value} {w : World} {O : Bs} (hk0 : k0 ≤ 199999) (hk1 : k1 ≤ 199999) (pf0 : (mR (p0) (k0)).S O w v0) (pf1 : (mR (p1) (k1)).S O w v1) (hT : Tb w) (ho : OB O w) :
    Calls Tryz.prog 130 #[v0, v1] w (RetM (mR (mxQ (p0) (p1)) (k0 + k1)) O w) := by
 refine st_start 11 Tryz.func130 [(mR (p0) (k0)), (mR (p1) (k1))] ⟨pf0, pf1, trivial⟩ ho fun a S => ?_
 refine wp_seq ?_
 refine st_seq S 0 [] [(false, 0), (false, 1)] trivial (L' := [(0, ?_), (1, ?_)]) ?_ fun a1 w2 S3 => ?_
 rotate_left 2
 · rfl
 refine t_box S3 0 rfl isR.cv fun O a5 w6 g7 S8 => ?_
 refine t_box S8 2 rfl isR.cv fun O a9 w10 g11 S12 => ?_
 refine t_alloc S12 zero_Rat (fun _ _ _ => bx_Rat) fun O a13 w14 g15 S16 => ?_
 refine wpList_nil (then_normal ?_)
 refine wp_seq ?_
 refine wp_seq ?_
 refine st_seq S16 4 [?_, ?_, ?_, ?_] [(true, 3), (false, 0), (false, 1), (false, 2)] ⟨?_, ?_, ?_, ?_, trivial⟩ (L' := [(8, ?_), (4, ?_), (3, ?_), (2, ?_)]) ?_ fun a17 w18 S19 => ?_
 rotate_left 8
 · exact opL S16 2 Tryz.underlying26 info_Rat fun c => (c.q 2 rfl)
 · exact opL S16 1 Tryz.underlying26 info_Rat fun c => (c.q 1 rfl)
 · exact opC S16 rfl fun c B => ⟨_, args_2 rfl rfl, (c_cmp (by omega) (by omega) (c.h 0 rfl) (c.h 1 rfl) (hT.below B))⟩
 · exact opV S16 fun c => run_geq rfl (c.e 0 rfl) rfl
 · rfl
 refine wpList_nil (then_normal ?_)
 refine cond_b _ (ev (S19.sl 0 rfl)) (fun hb21 => ?_) (fun hb21 => ?_)
 ·have hb21p := of_decide_eq_true hb21
  refine wp_seq ?_
  refine st_seq S19 1 [?_] [(true, 0), (false, 1), (false, 2)] ⟨?_, trivial⟩ (L' := [(9, ?_), (4, ?_), (3, ?_)]) ?_ fun a22 w23 S24 => ?_
  rotate_left 4
  · exact opL S19 2 Tryz.underlying26 info_Rat fun c => (c.q 3 rfl)
  · rfl
  refine t_sto S24 1 0 0 rfl isR.cv (fun w26 S27 => ?_) info_Rat
  refine wpList_nil (then_normal ?_)
  refine wp_ret ?_
  exact st_end S27 1 0 rfl Tryz.underlying26 info_Rat fun v h => (by first | (rw [gre_t (by assumption)]; exact isR.mono h (by omega)) | (rw [gre_f (by assumption)]; exact isR.mono h (by omega)))
 ·have hb21p := of_decide_eq_false hb21
  refine wp_skip (then_normal ?_)
  refine wp_seq ?_
  refine st_seq S19 1 [?_] [(true, 0), (false, 1)] ⟨?_, trivial⟩ (L' := [(10, ?_), (4, ?_)]) ?_ fun a28 w29 S30 => ?_
  rotate_left 3
  · exact opL S19 1 Tryz.underlying26 info_Rat fun c => (c.q 2 rfl)
  · rfl
  refine t_sto S30 1 0 0 rfl isR.cv (fun w32 S33 => ?_) info_Rat
  refine wpList_nil (then_normal ?_)
  refine wp_ret ?_
  exact st_end S33 1 0 rfl Tryz.underlying26 info_Rat fun v h => (by first | (rw [gre_t (by assumption)]; exact isR.mono h (by omega)) | (rw [gre_f (by assumption)]; exact isR.mono h (by omega)))
end Go.Proofs.YtiljjhhkklnlgaaGreatDoor

namespace Go.Proofs.YtiljjhhkklnlgaaGreatDoor
open Go.RowKit Num

set_option maxRecDepth 100000
set_option maxHeartbeats 2000000
theorem iv_trim {p0 q0 : Rat} {k0 : Nat} {v0 : Value} {w : World} {O : Bs} (hk0 : k0 ≤ 99999) (pf0 : (mP (mR (p0) (k0)) (mR (q0) (k0))).S O w v0) (hT : Tb w) (ho : OB O w) :
    Calls Tryz.prog 39 #[v0] w (RetM (mP (mC (mnQ (p0) (q0)) (k0 + 1)) (mC (mxQ (p0) (q0)) (k0 + 1))) O w) := by
 refine st_start 12 Tryz.func39 [(mP (mR (p0) (k0)) (mR (q0) (k0)))] ⟨pf0, trivial⟩ ho fun a S => ?_
 refine wp_seq ?_
 refine st_seq S 0 [] [(false, 0)] trivial (L' := [(0, ?_)]) ?_ fun a1 w2 S3 => ?_
 rotate_left 1
 · rfl
 refine t_box S3 0 rfl (fun h => (mP.cv (fun _ h => (isR.cv h)) (fun _ h => (isR.cv h)) h)) fun O a5 w6 g7 S8 => ?_
 refine t_alloc S8 zero_Interval (fun _ _ _ => bx_Interval) fun O a9 w10 g11 S12 => ?_
 refine wpList_nil (then_normal ?_)
 refine wp_seq ?_
 refine st_seq S12 2 [?_, ?_] [(true, 1), (false, 0), (false, 1)] ⟨?_, ?_, trivial⟩ (L' := [(4, ?_), (2, ?_), (1, ?_)]) ?_ fun a13 w14 S15 => ?_
 rotate_left 5
 · exact opL S12 1 Tryz.underlying37 info_Interval fun c => (c.q 1 rfl)
 · exact opC S12 rfl fun c B => ⟨_, args_1 rfl, (iv_ordered  (by omega) (c.h 0 rfl) (hT.below B) c.ob)⟩
 · rfl
 refine t_sto S15 2 0 1 rfl (fun h => (mP.cv (fun _ h => (isR.cv h)) (fun _ h => (isR.cv h)) h)) (fun w17 S18 => ?_) info_Interval
 refine wpList_nil (then_normal ?_)
 refine wp_seq ?_
 refine st_mono S18 7 [?_, ?_, ?_, ?_, ?_, ?_, ?_] [(true, 6), (false, 1)] ⟨?_, ?_, ?_, ?_, ?_, ?_, ?_, trivial⟩ (L' := [(11, ?_), (2, ?_)]) ?_ fun a19 w20 S21 => ?_
 rotate_left 9
 · exact opV S18 fun c => fa_Interval_0 rfl (c.q 2 rfl)
 · exact opP S18 fun c => ld_part rfl (c.e 0 rfl) (c.bx 1 rfl).lo Tryz.underlying26 info_Rat
 · exact opC S18 rfl fun c B => ⟨_, args_1 rfl, (c_trim (by omega) (c.h 0 rfl) (hT.below B))⟩
 · exact opV S18 fun c => fa_Interval_1 rfl (c.q 2 rfl)
 · exact opP S18 fun c => ld_part rfl (c.e 0 rfl) (c.bx 1 rfl).hi Tryz.underlying26 info_Rat
 · exact opC S18 rfl fun c B => ⟨_, args_1 rfl, (c_trim (by omega) (c.h 0 rfl) (hT.below B))⟩
 · exact opP S18 fun c => bld_pair rfl (c.h 0 rfl) (c.h 1 rfl) (isC.cv (c.h 0 rfl)) (isC.cv (c.h 1 rfl))
 · rfl
 refine t_sto S21 1 0 0 rfl (fun h => (mP.cv (fun _ h => (isC.cv h)) (fun _ h => (isC.cv h)) h)) (fun w23 S24 => ?_) info_Interval
 refine wpList_nil (then_normal ?_)
 refine wp_ret ?_
 exact st_end S24 1 0 rfl Tryz.underlying37 info_Interval fun v h => (mP_imp (fun _ h => (isC.mono h (by omega))) (fun _ h => (isC.mono h (by omega))) h)

theorem iv_make {p0 : Rat} {k0 : Nat} {p1 : Rat} {k1 : Nat} {v0 : Value} {v1 : Value} {w : World} {O : Bs} (hk0 : k0 ≤ 29999) (hk1 : k1 ≤ 29999) (pf0 : (mR (p0) (k0)).S O w v0) (pf1 : (mR (p1) (k1)).S O w v1) (hT : Tb w) (ho : OB O w) :
    Calls Tryz.prog 41 #[v0, v1] w (RetM (mP (mC (mnQ (p0) (p1)) (k0 + k1 + 1)) (mC (mxQ (p0) (p1)) (k0 + k1 + 1))) O w) := by
 refine st_start 9 Tryz.func41 [(mR (p0) (k0)), (mR (p1) (k1))] ⟨pf0, pf1, trivial⟩ ho fun a S => ?_
 refine wp_seq ?_
 refine st_seq S 0 [] [(false, 0), (false, 1)] trivial (L' := [(0, ?_), (1, ?_)]) ?_ fun a1 w2 S3 => ?_
 rotate_left 2
 · rfl
 refine t_box S3 0 rfl isR.cv fun O a5 w6 g7 S8 => ?_
 refine t_box S8 2 rfl isR.cv fun O a9 w10 g11 S12 => ?_
 refine t_alloc S12 zero_Interval (fun _ _ _ => bx_Interval) fun O a13 w14 g15 S16 => ?_
 refine wpList_nil (then_normal ?_)
 refine wp_seq ?_
 refine st_seq S16 4 [?_, ?_, ?_, ?_] [(true, 3), (false, 0)] ⟨?_, ?_, ?_, ?_, trivial⟩ (L' := [(8, ?_), (4, ?_)]) ?_ fun a17 w18 S19 => ?_
 rotate_left 6
 · exact opL S16 2 Tryz.underlying26 info_Rat fun c => (c.q 2 rfl)
 · exact opL S16 1 Tryz.underlying26 info_Rat fun c => (c.q 1 rfl)
 · exact opP S16 fun c => bld_pair rfl (c.h 0 rfl) (c.h 1 rfl) (isR.cv (c.h 0 rfl)) (isR.cv (c.h 1 rfl))
 · exact opC S16 rfl fun c B => ⟨_, args_1 rfl, (iv_trim  (by omega) (mP_imp (m1' := (mR (p0) (k0 + k1))) (m2' := (mR (p1) (k0 + k1))) (fun _ h => (isR.mono h (by omega))) (fun _ h => (isR.mono h (by omega))) (c.h 0 rfl)) (hT.below B) c.ob)⟩
 · rfl
 refine t_sto S19 1 0 0 rfl (fun h => (mP.cv (fun _ h => (isC.cv h)) (fun _ h => (isC.cv h)) h)) (fun w21 S22 => ?_) info_Interval
 refine wpList_nil (then_normal ?_)
 refine wp_ret ?_
 exact st_end S22 1 0 rfl Tryz.underlying37 info_Interval fun v h => (mP_imp (fun _ h => (isC.mono h (by omega))) (fun _ h => (isC.mono h (by omega))) h)

theorem iv_contains {p0 q0 : Rat} {k0 : Nat} {p1 : Rat} {k1 : Nat} {v0 : Value} {v1 : Value} {w : World} {O : Bs} (hk0 : k0 ≤ 9999) (hk1 : k1 ≤ 9999) (pf0 : (mP (mR (p0) (k0)) (mR (q0) (k0))).S O w v0) (pf1 : (mR (p1) (k1)).S O w v1) (hT : Tb w) (ho : OB O w) :
    Calls Tryz.prog 30 #[v0, v1] w (RetM (mV (.bool ((decide ((cmpQ (mnQ (p0) (q0)) (p1)) ≤ (0))) && (decide ((cmpQ (p1) (mxQ (p0) (q0))) ≤ (0)))))) O w) := by
 refine st_start 19 Tryz.func30 [(mP (mR (p0) (k0)) (mR (q0) (k0))), (mR (p1) (k1))] ⟨pf0, pf1, trivial⟩ ho fun a S => ?_
 refine wp_seq ?_
 refine st_seq S 0 [] [(false, 0), (false, 1)] trivial (L' := [(0, ?_), (1, ?_)]) ?_ fun a1 w2 S3 => ?_
 rotate_left 2
 · rfl
 refine t_box S3 0 rfl (fun h => (mP.cv (fun _ h => (isR.cv h)) (fun _ h => (isR.cv h)) h)) fun O a5 w6 g7 S8 => ?_
 refine t_box S8 2 rfl isR.cv fun O a9 w10 g11 S12 => ?_
 refine t_asgC S12 fun a13 S14 => ?_
 refine wpList_nil (then_normal ?_)
 refine wp_seq ?_
 refine st_seq S14 2 [?_, ?_] [(true, 1), (false, 0), (false, 1), (false, 2)] ⟨?_, ?_, trivial⟩ (L' := [(6, ?_), (4, ?_), (3, ?_), (2, ?_)]) ?_ fun a15 w16 S17 => ?_
 rotate_left 6
 · exact opL S14 1 Tryz.underlying37 info_Interval fun c => (c.q 2 rfl)
 · exact opC S14 rfl fun c B => ⟨_, args_1 rfl, (iv_ordered  (by omega) (c.h 0 rfl) (hT.below B) c.ob)⟩
 · rfl
 refine t_sto S17 3 0 1 rfl (fun h => (mP.cv (fun _ h => (isR.cv h)) (fun _ h => (isR.cv h)) h)) (fun w19 S20 => ?_) info_Interval
 refine wpList_nil (then_normal ?_)
 refine wp_seq ?_
 refine st_seq S20 12 [?_, ?_, ?_, ?_, ?_, ?_, ?_, ?_, ?_, ?_, ?_, ?_] [(true, 11), (false, 1)] ⟨?_, ?_, ?_, ?_, ?_, ?_, ?_, ?_, ?_, ?_, ?_, ?_, trivial⟩ (L' := [(18, ?_), (4, ?_)]) ?_ fun a21 w22 S23 => ?_
 rotate_left 14
 · exact opV S20 fun c => fa_Interval_0 rfl (c.q 3 rfl)
 · exact opP S20 fun c => ld_part rfl (c.e 0 rfl) (c.bx 1 rfl).lo Tryz.underlying26 info_Rat
 · exact opL S20 0 Tryz.underlying26 info_Rat fun c => (c.q 2 rfl)
 · exact opC S20 rfl fun c B => ⟨_, args_2 rfl rfl, (c_cmp (by omega) (by omega) (c.h 0 rfl) (c.h 1 rfl) (hT.below B))⟩
 · exact opV S20 fun c => run_leq rfl (c.e 0 rfl) rfl
 · exact opV S20 fun c => run_v (run_move rfl) (c.e 0 rfl)
 · exact opG S20 0 (fun hγ => opL S20 0 Tryz.underlying26 info_Rat fun c => (c.q 2 rfl)) gT
 · exact opG S20 0 (fun hγ => opV S20 fun c => fa_Interval_1 rfl (c.q 3 rfl)) gT
 · exact opG S20 1 (fun hγ => opP S20 fun c => ld_part rfl (ev (c.h 0 rfl hγ)) (c.bx 1 rfl).hi Tryz.underlying26 info_Rat) gT
 · exact opG S20 2 (fun hγ => opC S20 rfl fun c B => ⟨_, args_2 rfl rfl, (c_cmp (by omega) (by omega) (c.h 0 rfl hγ) (c.h 1 rfl hγ) (hT.below B))⟩) gT
 · exact opG S20 1 (fun hγ => opV S20 fun c => run_leq rfl (ev (c.h 0 rfl hγ)) rfl) gT
 · exact opE S20 fun c => ⟨_, run_pick rfl (c.e 0 rfl), pick_and (c.h 1 rfl)⟩
 · rfl
 refine t_asg S23 0 fun a25 S26 => ?_
 refine wpList_nil (then_normal ?_)
 refine wp_ret ?_
 exact st_endT S26 0 rfl fun v h => h

theorem iv_inside {p0 q0 : Rat} {k0 : Nat} {p1 q1 : Rat} {k1 : Nat} {v0 : Value} {v1 : Value} {w : World} {O : Bs} (hk0 : k0 ≤ 9999) (hk1 : k1 ≤ 9999) (pf0 : (mP (mR (p0) (k0)) (mR (q0) (k0))).S O w v0) (pf1 : (mP (mR (p1) (k1)) (mR (q1) (k1))).S O w v1) (hT : Tb w) (ho : OB O w) :
    Calls Tryz.prog 32 #[v0, v1] w (RetM (mV (.bool ((decide ((cmpQ (mnQ (p1) (q1)) (mnQ (p0) (q0))) ≤ (0))) && (decide ((cmpQ (mxQ (p0) (q0)) (mxQ (p1) (q1))) ≤ (0)))))) O w) := by
 refine st_start 23 Tryz.func32 [(mP (mR (p0) (k0)) (mR (q0) (k0))), (mP (mR (p1) (k1)) (mR (q1) (k1)))] ⟨pf0, pf1, trivial⟩ ho fun a S => ?_
 refine wp_seq ?_
 refine st_seq S 0 [] [(false, 0), (false, 1)] trivial (L' := [(0, ?_), (1, ?_)]) ?_ fun a1 w2 S3 => ?_
 rotate_left 2
 · rfl
 refine t_box S3 0 rfl (fun h => (mP.cv (fun _ h => (isR.cv h)) (fun _ h => (isR.cv h)) h)) fun O a5 w6 g7 S8 => ?_
 refine t_box S8 2 rfl (fun h => (mP.cv (fun _ h => (isR.cv h)) (fun _ h => (isR.cv h)) h)) fun O a9 w10 g11 S12 => ?_
 refine t_asgC S12 fun a13 S14 => ?_
 refine wpList_nil (then_normal ?_)
 refine wp_seq ?_
 refine st_mono S14 4 [?_, ?_, ?_, ?_] [(true, 1), (true, 3), (false, 0), (false, 1), (false, 2)] ⟨?_, ?_, ?_, ?_, trivial⟩ (L' := [(6, ?_), (8, ?_), (4, ?_), (3, ?_), (2, ?_)]) ?_ fun a15 w16 S17 => ?_
 rotate_left 9
 · exact opL S14 1 Tryz.underlying37 info_Interval fun c => (c.q 2 rfl)
 · exact opC S14 rfl fun c B => ⟨_, args_1 rfl, (iv_ordered  (by omega) (c.h 0 rfl) (hT.below B) c.ob)⟩
 · exact opL S14 0 Tryz.underlying37 info_Interval fun c => (c.q 1 rfl)
 · exact opC S14 rfl fun c B => ⟨_, args_1 rfl, (iv_ordered  (by omega) (c.h 0 rfl) (hT.below B) c.ob)⟩
 · rfl
 refine t_sto S17 4 0 1 rfl (fun h => (mP.cv (fun _ h => (isR.cv h)) (fun _ h => (isR.cv h)) h)) (fun w19 S20 => ?_) info_Interval
 refine t_sto S20 3 1 0 rfl (fun h => (mP.cv (fun _ h => (isR.cv h)) (fun _ h => (isR.cv h)) h)) (fun w21 S22 => ?_) info_Interval
 refine wpList_nil (then_normal ?_)
 refine wp_seq ?_
 refine st_seq S22 14 [?_, ?_, ?_, ?_, ?_, ?_, ?_, ?_, ?_, ?_, ?_, ?_, ?_, ?_] [(true, 13), (false, 2)] ⟨?_, ?_, ?_, ?_, ?_, ?_, ?_, ?_, ?_, ?_, ?_, ?_, ?_, ?_, trivial⟩ (L' := [(22, ?_), (4, ?_)]) ?_ fun a23 w24 S25 => ?_
 rotate_left 16
 · exact opV S22 fun c => fa_Interval_0 rfl (c.q 3 rfl)
 · exact opP S22 fun c => ld_part rfl (c.e 0 rfl) (c.bx 0 rfl).lo Tryz.underlying26 info_Rat
 · exact opV S22 fun c => fa_Interval_0 rfl (c.q 4 rfl)
 · exact opP S22 fun c => ld_part rfl (c.e 0 rfl) (c.bx 1 rfl).lo Tryz.underlying26 info_Rat
 · exact opC S22 rfl fun c B => ⟨_, args_2 rfl rfl, (c_cmp (by omega) (by omega) (c.h 0 rfl) (c.h 1 rfl) (hT.below B))⟩
 · exact opV S22 fun c => run_leq rfl (c.e 0 rfl) rfl
 · exact opV S22 fun c => run_v (run_move rfl) (c.e 0 rfl)
 · exact opG S22 0 (fun hγ => opV S22 fun c => fa_Interval_1 rfl (c.q 4 rfl)) gT
 · exact opG S22 1 (fun hγ => opP S22 fun c => ld_part rfl (ev (c.h 0 rfl hγ)) (c.bx 1 rfl).hi Tryz.underlying26 info_Rat) gT
 · exact opG S22 0 (fun hγ => opV S22 fun c => fa_Interval_1 rfl (c.q 3 rfl)) gT
 · exact opG S22 1 (fun hγ => opP S22 fun c => ld_part rfl (ev (c.h 0 rfl hγ)) (c.bx 0 rfl).hi Tryz.underlying26 info_Rat) gT
 · exact opG S22 2 (fun hγ => opC S22 rfl fun c B => ⟨_, args_2 rfl rfl, (c_cmp (by omega) (by omega) (c.h 0 rfl hγ) (c.h 1 rfl hγ) (hT.below B))⟩) gT
 · exact opG S22 1 (fun hγ => opV S22 fun c => run_leq rfl (ev (c.h 0 rfl hγ)) rfl) gT
 · exact opE S22 fun c => ⟨_, run_pick rfl (c.e 0 rfl), pick_and (c.h 1 rfl)⟩
 · rfl
 refine t_asg S25 0 fun a27 S28 => ?_
 refine wpList_nil (then_normal ?_)
 refine wp_ret ?_
 exact st_endT S28 0 rfl fun v h => h

theorem iv_width {p0 q0 : Rat} {k0 : Nat} {v0 : Value} {w : World} {O : Bs} (hk0 : k0 ≤ 9999) (pf0 : (mP (mR (p0) (k0)) (mR (q0) (k0))).S O w v0) (hT : Tb w) (ho : OB O w) :
    Calls Tryz.prog 43 #[v0] w (RetM (mC (rabs ((q0) - (p0))) (k0 + k0 + 4)) O w) := by
 refine st_start 9 Tryz.func43 [(mP (mR (p0) (k0)) (mR (q0) (k0)))] ⟨pf0, trivial⟩ ho fun a S => ?_
 refine wp_seq ?_
 refine st_seq S 0 [] [(false, 0)] trivial (L' := [(0, ?_)]) ?_ fun a1 w2 S3 => ?_
 rotate_left 1
 · rfl
 refine t_box S3 0 rfl (fun h => (mP.cv (fun _ h => (isR.cv h)) (fun _ h => (isR.cv h)) h)) fun O a5 w6 g7 S8 => ?_
 refine t_alloc S8 zero_Rat (fun _ _ _ => bx_Rat) fun O a9 w10 g11 S12 => ?_
 refine wpList_nil (then_normal ?_)
 refine wp_seq ?_
 refine st_seq S12 6 [?_, ?_, ?_, ?_, ?_, ?_] [(true, 5), (false, 0)] ⟨?_, ?_, ?_, ?_, ?_, ?_, trivial⟩ (L' := [(8, ?_), (2, ?_)]) ?_ fun a13 w14 S15 => ?_
 rotate_left 8
 · exact opV S12 fun c => fa_Interval_1 rfl (c.q 1 rfl)
 · exact opP S12 fun c => ld_part rfl (c.e 0 rfl) (c.bx 1 rfl).hi Tryz.underlying26 info_Rat
 · exact opV S12 fun c => fa_Interval_0 rfl (c.q 1 rfl)
 · exact opP S12 fun c => ld_part rfl (c.e 0 rfl) (c.bx 1 rfl).lo Tryz.underlying26 info_Rat
 · exact opC S12 rfl fun c B => ⟨_, args_2 rfl rfl, (c_sub (by omega) (by omega) (c.h 0 rfl) (c.h 1 rfl) (hT.below B))⟩
 · exact opC S12 rfl fun c B => ⟨_, args_1 rfl, (c_abs (by omega) (isC.r (c.h 0 rfl)) (hT.below B))⟩
 · rfl
 refine t_sto S15 1 0 0 rfl isC.cv (fun w17 S18 => ?_) info_Rat
 refine wpList_nil (then_normal ?_)
 refine wp_ret ?_
 exact st_end S18 1 0 rfl Tryz.underlying26 info_Rat fun v h => (isC.mono h (by omega))

theorem iv_mid {p0 q0 : Rat} {k0 : Nat} {v0 : Value} {w : World} {O : Bs} (hk0 : k0 ≤ 9999) (pf0 : (mP (mR (p0) (k0)) (mR (q0) (k0))).S O w v0) (hT : Tb w) (ho : OB O w) :
    Calls Tryz.prog 45 #[v0] w (RetM (mC (((p0) + (q0)) * (Rat.divInt (1) (2))) (k0 + k0 + 8)) O w) := by
 refine st_start 10 Tryz.func45 [(mP (mR (p0) (k0)) (mR (q0) (k0)))] ⟨pf0, trivial⟩ ho fun a S => ?_
 refine wp_seq ?_
 refine st_seq S 0 [] [(false, 0)] trivial (L' := [(0, ?_)]) ?_ fun a1 w2 S3 => ?_
 rotate_left 1
 · rfl
 refine t_box S3 0 rfl (fun h => (mP.cv (fun _ h => (isR.cv h)) (fun _ h => (isR.cv h)) h)) fun O a5 w6 g7 S8 => ?_
 refine t_alloc S8 zero_Rat (fun _ _ _ => bx_Rat) fun O a9 w10 g11 S12 => ?_
 refine wpList_nil (then_normal ?_)
 refine wp_seq ?_
 refine st_seq S12 7 [?_, ?_, ?_, ?_, ?_, ?_, ?_] [(true, 6), (false, 0)] ⟨?_, ?_, ?_, ?_, ?_, ?_, ?_, trivial⟩ (L' := [(9, ?_), (2, ?_)]) ?_ fun a13 w14 S15 => ?_
 rotate_left 9
 · exact opV S12 fun c => fa_Interval_0 rfl (c.q 1 rfl)
 · exact opP S12 fun c => ld_part rfl (c.e 0 rfl) (c.bx 1 rfl).lo Tryz.underlying26 info_Rat
 · exact opV S12 fun c => fa_Interval_1 rfl (c.q 1 rfl)
 · exact opP S12 fun c => ld_part rfl (c.e 0 rfl) (c.bx 1 rfl).hi Tryz.underlying26 info_Rat
 · exact opC S12 rfl fun c B => ⟨_, args_2 rfl rfl, (c_add (by omega) (by omega) (c.h 0 rfl) (c.h 1 rfl) (hT.below B))⟩
 · exact opC S12 rfl fun c B => ⟨_, args_2 rfl rfl, (c_frac (1) (2) (by omega) (by omega) (by omega) (by omega) (hT.below B))⟩
 · exact opC S12 rfl fun c B => ⟨_, args_2 rfl rfl, (c_mul (by omega) (by omega) (isC.r (c.h 0 rfl)) (isC.r (c.h 1 rfl)) (hT.below B))⟩
 · rfl
 refine t_sto S15 1 0 0 rfl isC.cv (fun w17 S18 => ?_) info_Rat
 refine wpList_nil (then_normal ?_)
 refine wp_ret ?_
 exact st_end S18 1 0 rfl Tryz.underlying26 info_Rat fun v h => (isC.mono h (by omega))

theorem iv_add {p0 q0 : Rat} {k0 : Nat} {p1 q1 : Rat} {k1 : Nat} {v0 : Value} {v1 : Value} {w : World} {O : Bs} (hk0 : k0 ≤ 9999) (hk1 : k1 ≤ 9999) (pf0 : (mP (mR (p0) (k0)) (mR (q0) (k0))).S O w v0) (pf1 : (mP (mR (p1) (k1)) (mR (q1) (k1))).S O w v1) (hT : Tb w) (ho : OB O w) :
    Calls Tryz.prog 47 #[v0, v1] w (RetM (mP (mC ((mnQ (p0) (q0)) + (mnQ (p1) (q1))) (k0 + k1 + 3)) (mC ((mxQ (p0) (q0)) + (mxQ (p1) (q1))) (k0 + k1 + 3))) O w) := by
 refine st_start 20 Tryz.func47 [(mP (mR (p0) (k0)) (mR (q0) (k0))), (mP (mR (p1) (k1)) (mR (q1) (k1)))] ⟨pf0, pf1, trivial⟩ ho fun a S => ?_
 refine wp_seq ?_
 refine st_seq S 0 [] [(false, 0), (false, 1)] trivial (L' := [(0, ?_), (1, ?_)]) ?_ fun a1 w2 S3 => ?_
 rotate_left 2
 · rfl
 refine t_box S3 0 rfl (fun h => (mP.cv (fun _ h => (isR.cv h)) (fun _ h => (isR.cv h)) h)) fun O a5 w6 g7 S8 => ?_
 refine t_box S8 2 rfl (fun h => (mP.cv (fun _ h => (isR.cv h)) (fun _ h => (isR.cv h)) h)) fun O a9 w10 g11 S12 => ?_
 refine t_alloc S12 zero_Interval (fun _ _ _ => bx_Interval) fun O a13 w14 g15 S16 => ?_
 refine wpList_nil (then_normal ?_)
 refine wp_seq ?_
 refine st_mono S16 4 [?_, ?_, ?_, ?_] [(true, 1), (true, 3), (false, 0), (false, 1), (false, 2)] ⟨?_, ?_, ?_, ?_, trivial⟩ (L' := [(6, ?_), (8, ?_), (4, ?_), (3, ?_), (2, ?_)]) ?_ fun a17 w18 S19 => ?_
 rotate_left 9
 · exact opL S16 2 Tryz.underlying37 info_Interval fun c => (c.q 2 rfl)
 · exact opC S16 rfl fun c B => ⟨_, args_1 rfl, (iv_ordered  (by omega) (c.h 0 rfl) (hT.below B) c.ob)⟩
 · exact opL S16 1 Tryz.underlying37 info_Interval fun c => (c.q 1 rfl)
 · exact opC S16 rfl fun c B => ⟨_, args_1 rfl, (iv_ordered  (by omega) (c.h 0 rfl) (hT.below B) c.ob)⟩
 · rfl
 refine t_sto S19 4 0 2 rfl (fun h => (mP.cv (fun _ h => (isR.cv h)) (fun _ h => (isR.cv h)) h)) (fun w21 S22 => ?_) info_Interval
 refine t_sto S22 3 1 1 rfl (fun h => (mP.cv (fun _ h => (isR.cv h)) (fun _ h => (isR.cv h)) h)) (fun w23 S24 => ?_) info_Interval
 refine wpList_nil (then_normal ?_)
 refine wp_seq ?_
 refine st_mono S24 11 [?_, ?_, ?_, ?_, ?_, ?_, ?_, ?_, ?_, ?_, ?_] [(true, 10), (false, 2)] ⟨?_, ?_, ?_, ?_, ?_, ?_, ?_, ?_, ?_, ?_, ?_, trivial⟩ (L' := [(19, ?_), (4, ?_)]) ?_ fun a25 w26 S27 => ?_
 rotate_left 13
 · exact opV S24 fun c => fa_Interval_0 rfl (c.q 4 rfl)
 · exact opP S24 fun c => ld_part rfl (c.e 0 rfl) (c.bx 2 rfl).lo Tryz.underlying26 info_Rat
 · exact opV S24 fun c => fa_Interval_0 rfl (c.q 3 rfl)
 · exact opP S24 fun c => ld_part rfl (c.e 0 rfl) (c.bx 1 rfl).lo Tryz.underlying26 info_Rat
 · exact opC S24 rfl fun c B => ⟨_, args_2 rfl rfl, (c_add (by omega) (by omega) (c.h 0 rfl) (c.h 1 rfl) (hT.below B))⟩
 · exact opV S24 fun c => fa_Interval_1 rfl (c.q 4 rfl)
 · exact opP S24 fun c => ld_part rfl (c.e 0 rfl) (c.bx 2 rfl).hi Tryz.underlying26 info_Rat
 · exact opV S24 fun c => fa_Interval_1 rfl (c.q 3 rfl)
 · exact opP S24 fun c => ld_part rfl (c.e 0 rfl) (c.bx 1 rfl).hi Tryz.underlying26 info_Rat
 · exact opC S24 rfl fun c B => ⟨_, args_2 rfl rfl, (c_add (by omega) (by omega) (c.h 0 rfl) (c.h 1 rfl) (hT.below B))⟩
 · exact opP S24 fun c => bld_pair rfl (c.h 0 rfl) (c.h 1 rfl) (isC.cv (c.h 0 rfl)) (isC.cv (c.h 1 rfl))
 · rfl
 refine t_sto S27 1 0 0 rfl (fun h => (mP.cv (fun _ h => (isC.cv h)) (fun _ h => (isC.cv h)) h)) (fun w29 S30 => ?_) info_Interval
 refine wpList_nil (then_normal ?_)
 refine wp_ret ?_
 exact st_end S30 1 0 rfl Tryz.underlying37 info_Interval fun v h => (mP_imp (fun _ h => (isC.mono h (by omega))) (fun _ h => (isC.mono h (by omega))) h)

theorem iv_sub {p0 q0 : Rat} {k0 : Nat} {p1 q1 : Rat} {k1 : Nat} {v0 : Value} {v1 : Value} {w : World} {O : Bs} (hk0 : k0 ≤ 9999) (hk1 : k1 ≤ 9999) (pf0 : (mP (mR (p0) (k0)) (mR (q0) (k0))).S O w v0) (pf1 : (mP (mR (p1) (k1)) (mR (q1) (k1))).S O w v1) (hT : Tb w) (ho : OB O w) :
    Calls Tryz.prog 49 #[v0, v1] w (RetM (mP (mC ((mnQ (p0) (q0)) - (mxQ (p1) (q1))) (k0 + k1 + 3)) (mC ((mxQ (p0) (q0)) - (mnQ (p1) (q1))) (k0 + k1 + 3))) O w) := by
 refine st_start 20 Tryz.func49 [(mP (mR (p0) (k0)) (mR (q0) (k0))), (mP (mR (p1) (k1)) (mR (q1) (k1)))] ⟨pf0, pf1, trivial⟩ ho fun a S => ?_
 refine wp_seq ?_
 refine st_seq S 0 [] [(false, 0), (false, 1)] trivial (L' := [(0, ?_), (1, ?_)]) ?_ fun a1 w2 S3 => ?_
 rotate_left 2
 · rfl
 refine t_box S3 0 rfl (fun h => (mP.cv (fun _ h => (isR.cv h)) (fun _ h => (isR.cv h)) h)) fun O a5 w6 g7 S8 => ?_
 refine t_box S8 2 rfl (fun h => (mP.cv (fun _ h => (isR.cv h)) (fun _ h => (isR.cv h)) h)) fun O a9 w10 g11 S12 => ?_
 refine t_alloc S12 zero_Interval (fun _ _ _ => bx_Interval) fun O a13 w14 g15 S16 => ?_
 refine wpList_nil (then_normal ?_)
 refine wp_seq ?_
 refine st_mono S16 4 [?_, ?_, ?_, ?_] [(true, 1), (true, 3), (false, 0), (false, 1), (false, 2)] ⟨?_, ?_, ?_, ?_, trivial⟩ (L' := [(6, ?_), (8, ?_), (4, ?_), (3, ?_), (2, ?_)]) ?_ fun a17 w18 S19 => ?_
 rotate_left 9
 · exact opL S16 2 Tryz.underlying37 info_Interval fun c => (c.q 2 rfl)
 · exact opC S16 rfl fun c B => ⟨_, args_1 rfl, (iv_ordered  (by omega) (c.h 0 rfl) (hT.below B) c.ob)⟩
 · exact opL S16 1 Tryz.underlying37 info_Interval fun c => (c.q 1 rfl)
 · exact opC S16 rfl fun c B => ⟨_, args_1 rfl, (iv_ordered  (by omega) (c.h 0 rfl) (hT.below B) c.ob)⟩
 · rfl
 refine t_sto S19 4 0 2 rfl (fun h => (mP.cv (fun _ h => (isR.cv h)) (fun _ h => (isR.cv h)) h)) (fun w21 S22 => ?_) info_Interval
 refine t_sto S22 3 1 1 rfl (fun h => (mP.cv (fun _ h => (isR.cv h)) (fun _ h => (isR.cv h)) h)) (fun w23 S24 => ?_) info_Interval
 refine wpList_nil (then_normal ?_)
 refine wp_seq ?_
 refine st_mono S24 11 [?_, ?_, ?_, ?_, ?_, ?_, ?_, ?_, ?_, ?_, ?_] [(true, 10), (false, 2)] ⟨?_, ?_, ?_, ?_, ?_, ?_, ?_, ?_, ?_, ?_, ?_, trivial⟩ (L' := [(19, ?_), (4, ?_)]) ?_ fun a25 w26 S27 => ?_
 rotate_left 13
 · exact opV S24 fun c => fa_Interval_0 rfl (c.q 4 rfl)
 · exact opP S24 fun c => ld_part rfl (c.e 0 rfl) (c.bx 2 rfl).lo Tryz.underlying26 info_Rat
 · exact opV S24 fun c => fa_Interval_1 rfl (c.q 3 rfl)
 · exact opP S24 fun c => ld_part rfl (c.e 0 rfl) (c.bx 1 rfl).hi Tryz.underlying26 info_Rat
 · exact opC S24 rfl fun c B => ⟨_, args_2 rfl rfl, (c_sub (by omega) (by omega) (c.h 0 rfl) (c.h 1 rfl) (hT.below B))⟩
 · exact opV S24 fun c => fa_Interval_1 rfl (c.q 4 rfl)
 · exact opP S24 fun c => ld_part rfl (c.e 0 rfl) (c.bx 2 rfl).hi Tryz.underlying26 info_Rat
 · exact opV S24 fun c => fa_Interval_0 rfl (c.q 3 rfl)
 · exact opP S24 fun c => ld_part rfl (c.e 0 rfl) (c.bx 1 rfl).lo Tryz.underlying26 info_Rat
 · exact opC S24 rfl fun c B => ⟨_, args_2 rfl rfl, (c_sub (by omega) (by omega) (c.h 0 rfl) (c.h 1 rfl) (hT.below B))⟩
 · exact opP S24 fun c => bld_pair rfl (c.h 0 rfl) (c.h 1 rfl) (isC.cv (c.h 0 rfl)) (isC.cv (c.h 1 rfl))
 · rfl
 refine t_sto S27 1 0 0 rfl (fun h => (mP.cv (fun _ h => (isC.cv h)) (fun _ h => (isC.cv h)) h)) (fun w29 S30 => ?_) info_Interval
 refine wpList_nil (then_normal ?_)
 refine wp_ret ?_
 exact st_end S30 1 0 rfl Tryz.underlying37 info_Interval fun v h => (mP_imp (fun _ h => (isC.mono h (by omega))) (fun _ h => (isC.mono h (by omega))) h)
end Go.Proofs.YtiljjhhkklnlgaaGreatDoor

namespace Go.Proofs.YtiljjhhkklnlgaaGreatDoor
open Go.RowKit Num

set_option maxRecDepth 100000
set_option maxHeartbeats 2000000
theorem iv_valid {p q : Rat} {k : Nat} {x y : Bool} {v0 : Value} {w : World} {O : Bs} (hk : k ≤ 9999) (pf0 : (mP (mK (p) (k) (x)) (mK (q) (k) (y))).S O w v0) (hT : Tb w) (ho : OB O w) :
    Calls Tryz.prog 28 #[v0] w (RetM (mV (.bool (((x) && (y)) && (!(decide ((q) < (p))))))) O w) := by
 refine st_start 19 Tryz.func28 [(mP (mK (p) (k) (x)) (mK (q) (k) (y)))] ⟨pf0, trivial⟩ ho fun a S => ?_
 refine wp_seq ?_
 refine st_seq S 0 [] [(false, 0)] trivial (L' := [(0, ?_)]) ?_ fun a1 w2 S3 => ?_
 rotate_left 1
 · rfl
 refine t_box S3 0 rfl (fun h => (mP.cv (fun _ h => (isK.cv h)) (fun _ h => (isK.cv h)) h)) fun O a5 w6 g7 S8 => ?_
 refine t_asgC S8 fun a9 S10 => ?_
 refine wpList_nil (then_normal ?_)
 refine wp_seq ?_
 refine st_seq S10 16 [?_, ?_, ?_, ?_, ?_, ?_, ?_, ?_, ?_, ?_, ?_, ?_, ?_, ?_, ?_, ?_] [(true, 15), (false, 0)] ⟨?_, ?_, ?_, ?_, ?_, ?_, ?_, ?_, ?_, ?_, ?_, ?_, ?_, ?_, ?_, ?_, trivial⟩ (L' := [(18, ?_), (2, ?_)]) ?_ fun a11 w12 S13 => ?_
 rotate_left 18
 · exact opV S10 fun c => fa_Interval_0 rfl (c.q 1 rfl)
 · exact opP S10 fun c => ld_part rfl (c.e 0 rfl) (c.bx 0 rfl).lo Tryz.underlying26 info_Rat
 · exact opC S10 rfl fun c B => ⟨_, args_1 rfl, (c_valid (by omega) (c.h 0 rfl) (hT.below B))⟩
 · exact opV S10 fun c => run_v (run_move rfl) (c.e 0 rfl)
 · exact opG S10 0 (fun hγ => opV S10 fun c => fa_Interval_1 rfl (c.q 1 rfl)) gT
 · exact opG S10 1 (fun hγ => opP S10 fun c => ld_part rfl (ev (c.h 0 rfl hγ)) (c.bx 0 rfl).hi Tryz.underlying26 info_Rat) gT
 · exact opG S10 1 (fun hγ => opC S10 rfl fun c B => ⟨_, args_1 rfl, (c_valid (by omega) (c.h 0 rfl hγ) (hT.below B))⟩) gT
 · exact opE S10 fun c => ⟨_, run_pick rfl (c.e 0 rfl), pick_and (c.h 1 rfl)⟩
 · exact opV S10 fun c => run_v (run_move rfl) (c.e 0 rfl)
 · exact opG S10 0 (fun hγ => opV S10 fun c => fa_Interval_0 rfl (c.q 1 rfl)) gT
 · exact opG S10 1 (fun hγ => opP S10 fun c => ld_part rfl (ev (c.h 0 rfl hγ)) (c.bx 0 rfl).lo Tryz.underlying26 info_Rat) gT
 · exact opG S10 0 (fun hγ => opV S10 fun c => fa_Interval_1 rfl (c.q 1 rfl)) gT
 · exact opG S10 1 (fun hγ => opP S10 fun c => ld_part rfl (ev (c.h 0 rfl hγ)) (c.bx 0 rfl).hi Tryz.underlying26 info_Rat) gT
 · exact opG S10 2 (fun hγ => opC S10 rfl fun c B => ⟨_, args_2 rfl rfl, (c_cmp (by omega) (by omega) (isK.r (c.h 0 rfl hγ)) (isK.r (c.h 1 rfl hγ)) (hT.below B))⟩) gT
 · exact opG S10 1 (fun hγ => opV S10 fun c => run_leq rfl (ev (c.h 0 rfl hγ)) rfl) gT
 · exact opE S10 fun c => ⟨_, run_pick rfl (c.e 0 rfl), pick_and (c.h 1 rfl)⟩
 · rfl
 refine t_asg S13 0 fun a15 S16 => ?_
 refine wpList_nil (then_normal ?_)
 refine wp_ret ?_
 exact st_endT S16 0 rfl fun v h => (h).trans (by rw [dle])

theorem iv_sign {p0 q0 : Rat} {k0 : Nat} {v0 : Value} {w : World} {O : Bs} (hk0 : k0 ≤ 99999) (pf0 : (mP (mR (p0) (k0)) (mR (q0) (k0))).S O w v0) (ho : OB O w) :
    Calls Tryz.prog 34 #[v0] w (RetM (mV (.int .i64 (sgI (p0) (q0)))) O w) := by
 refine st_start 13 Tryz.func34 [(mP (mR (p0) (k0)) (mR (q0) (k0)))] ⟨pf0, trivial⟩ ho fun a S => ?_
 refine wp_seq ?_
 refine st_seq S 0 [] [(false, 0)] trivial (L' := [(0, ?_)]) ?_ fun a1 w2 S3 => ?_
 rotate_left 1
 · rfl
 refine t_box S3 0 rfl (fun h => (mP.cv (fun _ h => (isR.cv h)) (fun _ h => (isR.cv h)) h)) fun O a5 w6 g7 S8 => ?_
 refine t_asgC S8 fun a9 S10 => ?_
 refine wpList_nil (then_normal ?_)
 refine wp_seq ?_
 refine st_seq S10 3 [?_, ?_, ?_] [(true, 2), (false, 0), (false, 1)] ⟨?_, ?_, ?_, trivial⟩ (L' := [(6, ?_), (2, ?_), (1, ?_)]) ?_ fun a11 w12 S13 => ?_
 rotate_left 6
 · exact opV S10 fun c => fa_Interval_0 rfl (c.q 1 rfl)
 · exact opP S10 fun c => ld_part rfl (c.e 0 rfl) (c.bx 0 rfl).lo Tryz.underlying26 info_Rat
 · exact opC S10 rfl fun c B => ⟨_, args_1 rfl, (c_sign (by omega) (c.h 0 rfl))⟩
 · rfl
 refine t_asg S13 0 fun a15 S16 => ?_
 refine wpList_nil (then_normal ?_)
 refine wp_seq ?_
 refine wp_seq ?_
 refine st_seq S16 5 [?_, ?_, ?_, ?_, ?_] [(true, 4), (false, 0), (false, 2)] ⟨?_, ?_, ?_, ?_, ?_, trivial⟩ (L' := [(11, ?_), (3, ?_), (2, ?_)]) ?_ fun a17 w18 S19 => ?_
 rotate_left 8
 · exact opV S16 fun c => run_v (run_move rfl) (c.q 0 rfl)
 · exact opV S16 fun c => fa_Interval_1 rfl (c.q 3 rfl)
 · exact opP S16 fun c => ld_part rfl (c.e 0 rfl) (c.bx 0 rfl).hi Tryz.underlying26 info_Rat
 · exact opC S16 rfl fun c B => ⟨_, args_1 rfl, (c_sign (by omega) (c.h 0 rfl))⟩
 · exact opV S16 fun c => run_neq rfl (c.e 0 rfl) (c.e 1 rfl)
 · rfl
 refine wpList_nil (then_normal ?_)
 refine cond_b _ (ev (S19.sl 0 rfl)) (fun hb21 => ?_) (fun hb21 => ?_)
 ·have hb21p := of_decide_eq_true hb21
  refine wp_seq ?_
  refine st_seq S19 0 [] [(false, 1), (false, 2)] trivial (L' := [(3, ?_), (2, ?_)]) ?_ fun a22 w23 S24 => ?_
  rotate_left 2
  · rfl
  refine t_asgC S24 fun a26 S27 => ?_
  refine wpList_nil (then_normal ?_)
  refine wp_ret ?_
  exact st_endT S27 0 rfl fun v h => (h).trans (by first | rw [← sg_t (by assumption)] | rw [← sg_f (by assumption)])
 ·have hb21p := of_decide_eq_false hb21
  refine wp_skip (then_normal ?_)
  refine wp_seq ?_
  refine st_seq S19 1 [?_] [(true, 0), (false, 2)] ⟨?_, trivial⟩ (L' := [(12, ?_), (2, ?_)]) ?_ fun a28 w29 S30 => ?_
  rotate_left 3
  · exact opV S19 fun c => run_v (run_move rfl) (c.q 1 rfl)
  · rfl
  refine t_asg S30 0 fun a32 S33 => ?_
  refine wpList_nil (then_normal ?_)
  refine wp_ret ?_
  exact st_endT S33 0 rfl fun v h => (h).trans (by first | rw [← sg_t (by assumption)] | rw [← sg_f (by assumption)])

theorem iv_inverse {p0 : Rat} {k0 : Nat} {v0 : Value} {w : World} {O : Bs} (hk0 : k0 ≤ 99999) (pf0 : (mR (p0) (k0)).S O w v0) (hT : Tb w) (ho : OB O w) :
    Calls Tryz.prog 127 #[v0] w (RetM (mR (((1 : Int) : Rat) / (p0)) (k0 + 5)) O w) := by
 refine st_start 12 Tryz.func127 [(mR (p0) (k0))] ⟨pf0, trivial⟩ ho fun a S => ?_
 refine wp_seq ?_
 refine st_seq S 0 [] [(false, 0)] trivial (L' := [(0, ?_)]) ?_ fun a1 w2 S3 => ?_
 rotate_left 1
 · rfl
 refine t_box S3 0 rfl isR.cv fun O a5 w6 g7 S8 => ?_
 refine t_alloc S8 zero_Rat (fun _ _ _ => bx_Rat) fun O a9 w10 g11 S12 => ?_
 refine wpList_nil (then_normal ?_)
 refine wp_seq ?_
 refine st_monoAF S12 7 [5] [?_, ?_, ?_, ?_, ?_, ?_, ?_] [(true, 4), (true, 5), (false, 0)] ⟨?_, ?_, ?_, ?_, ?_, ?_, ?_, trivial⟩ ?_ (L' := [(9, ?_), (10, ?_), (2, ?_)]) ?_ fun O a13 w14 hw hO hX S15 A16 => ?_
 rotate_left 10
 · exact opC S12 rfl fun c B => ⟨_, args_1 rfl, (c_of (1) (by omega) (by omega))⟩
 · exact opL S12 1 Tryz.underlying26 info_Rat fun c => (c.q 1 rfl)
 · exact opC S12 rfl fun c B => ⟨_, args_2 rfl rfl, (c_div (by omega) (by omega) (isC.r (c.h 0 rfl)) (c.h 1 rfl) (hT.below B))⟩
 · exact opP S12 fun c => ⟨_, run_move rfl, (c.h 0 rfl)⟩
 · exact opP S12 fun c => ext_0 rfl (c.h 0 rfl)
 · exact opP S12 fun c => ext_1 rfl (c.h 0 rfl)
 · exact opA S12 zero_Rat fun _ _ _ => bx_Rat
 ·refine ⟨by kernel_rfl, fun c a d v w h => by cases d <;> exact h, ?_⟩
  intro i o hi ho a w hb _ hf hd
  obtain rfl : i = 5 := by simpa using hi
  obtain rfl := Option.some.inj (show some _ = some o from ho)
  exact flP S12 hb hf hd fun c => xt_1 rfl (c.h 0 rfl)
 · exact ⟨by rfl, by rfl⟩
 obtain ⟨g17, e19, e19a, e19b, e19x⟩ := A16.g 6 rfl rfl
 have S18 := (S15.add (q := .box g17 26 3 mTop) (fun _ h => by cases h; exact ⟨hO _ ⟨e19a, e19b⟩, Nat.le_trans hw e19a⟩) e19x (fun p hp x h => by cases h; exact hX p hp _ e19a)).new e19
 refine t_sto S18 0 1 0 rfl isE.cv (fun w20 S21 => ?_) info_Rat
 refine t_asg S21 2 fun a22 S23 => ?_
 refine wpList_nil (then_normal ?_)
 refine wp_seq ?_
 refine st_seq S23 1 [?_] [(true, 0), (false, 4)] ⟨?_, trivial⟩ (L' := [(11, ?_), (2, ?_)]) ?_ fun a24 w25 S26 => ?_
 rotate_left 3
 · exact opL S23 0 Tryz.underlying26 info_Rat fun c => (c.q 1 rfl)
 · rfl
 refine t_sto S26 1 0 1 rfl isE.cv (fun w28 S29 => ?_) info_Rat
 refine wpList_nil (then_normal ?_)
 refine wp_ret ?_
 exact st_end S29 1 1 rfl Tryz.underlying26 info_Rat fun v h => (isR.mono (isE.rdiv h) (by omega))

theorem iv_square {p0 q0 : Rat} {k0 : Nat} {v0 : Value} {w : World} {O : Bs} (hk0 : k0 ≤ 9999) (pf0 : (mP (mR (p0) (k0)) (mR (q0) (k0))).S O w v0) (hT : Tb w) (ho : OB O w) :
    Calls Tryz.prog 53 #[v0] w (RetM (mP (mC (sqL (p0) (q0)) (k0 + k0 + 5)) (mC (mxQ ((p0) * (p0)) ((q0) * (q0))) (k0 + k0 + 5))) O w) := by
 refine st_start 22 Tryz.func53 [(mP (mR (p0) (k0)) (mR (q0) (k0)))] ⟨pf0, trivial⟩ ho fun a S => ?_
 refine wp_seq ?_
 refine st_seq S 0 [] [(false, 0)] trivial (L' := [(0, ?_)]) ?_ fun a1 w2 S3 => ?_
 rotate_left 1
 · rfl
 refine t_box S3 0 rfl (fun h => (mP.cv (fun _ h => (isR.cv h)) (fun _ h => (isR.cv h)) h)) fun O a5 w6 g7 S8 => ?_
 refine t_alloc S8 zero_Interval (fun _ _ _ => bx_Interval) fun O a9 w10 g11 S12 => ?_
 refine wpList_nil (then_normal ?_)
 refine wp_seq ?_
 refine st_monoA S12 13 [?_, ?_, ?_, ?_, ?_, ?_, ?_, ?_, ?_, ?_, ?_, ?_, ?_] [(true, 11), (false, 0), (false, 1)] ⟨?_, ?_, ?_, ?_, ?_, ?_, ?_, ?_, ?_, ?_, ?_, ?_, ?_, trivial⟩ (L' := [(15, ?_), (2, ?_), (1, ?_)]) ?_ fun O a13 w14 hw hO hX S15 A16 => ?_
 rotate_left 16
 · exact opV S12 fun c => fa_Interval_0 rfl (c.q 1 rfl)
 · exact opP S12 fun c => ld_part rfl (c.e 0 rfl) (c.bx 1 rfl).lo Tryz.underlying26 info_Rat
 · exact opV S12 fun c => fa_Interval_0 rfl (c.q 1 rfl)
 · exact opP S12 fun c => ld_part rfl (c.e 0 rfl) (c.bx 1 rfl).lo Tryz.underlying26 info_Rat
 · exact opC S12 rfl fun c B => ⟨_, args_2 rfl rfl, (c_mul (by omega) (by omega) (c.h 0 rfl) (c.h 1 rfl) (hT.below B))⟩
 · exact opV S12 fun c => fa_Interval_1 rfl (c.q 1 rfl)
 · exact opP S12 fun c => ld_part rfl (c.e 0 rfl) (c.bx 1 rfl).hi Tryz.underlying26 info_Rat
 · exact opV S12 fun c => fa_Interval_1 rfl (c.q 1 rfl)
 · exact opP S12 fun c => ld_part rfl (c.e 0 rfl) (c.bx 1 rfl).hi Tryz.underlying26 info_Rat
 · exact opC S12 rfl fun c B => ⟨_, args_2 rfl rfl, (c_mul (by omega) (by omega) (c.h 0 rfl) (c.h 1 rfl) (hT.below B))⟩
 · exact opP S12 fun c => bld_pair rfl (c.h 0 rfl) (c.h 1 rfl) (isC.cv (c.h 0 rfl)) (isC.cv (c.h 1 rfl))
 · exact opC S12 rfl fun c B => ⟨_, args_1 rfl, (iv_orderedC (by omega) (c.h 0 rfl) (hT.below B) c.ob)⟩
 · exact opA S12 zero_Interval fun _ _ _ => bx_Interval
 · exact ⟨by rfl, by rfl⟩
 obtain ⟨g17, e19, e19a, e19b, e19x⟩ := A16.g 12 rfl rfl
 have S18 := (S15.add (q := .box g17 37 6 mTop) (fun _ h => by cases h; exact ⟨hO _ ⟨e19a, e19b⟩, Nat.le_trans hw e19a⟩) e19x (fun p hp x h => by cases h; exact hX p hp _ e19a)).new e19
 refine t_sto S18 0 1 0 rfl (fun h => (mP.cv (fun _ h => (isC.cv h)) (fun _ h => (isC.cv h)) h)) (fun w20 S21 => ?_) info_Interval
 refine wpList_nil (then_normal ?_)
 refine wp_seq ?_
 refine wp_seq ?_
 refine st_seq S21 3 [?_, ?_, ?_] [(true, 2), (false, 0), (false, 2)] ⟨?_, ?_, ?_, trivial⟩ (L' := [(18, ?_), (3, ?_), (2, ?_)]) ?_ fun a22 w23 S24 => ?_
 rotate_left 6
 · exact opL S21 2 Tryz.underlying37 info_Interval fun c => (c.q 3 rfl)
 · exact opC S21 rfl fun c B => ⟨_, args_1 rfl, (iv_sign  (by omega) (c.h 0 rfl) c.ob)⟩
 · exact opV S21 fun c => run_eql rfl (c.e 0 rfl) rfl
 · rfl
 refine wpList_nil (then_normal ?_)
 refine cond_b _ (ev (S24.sl 0 rfl)) (fun hb26 => ?_) (fun hb26 => ?_)
 ·have hb26p := of_decide_eq_true hb26
  refine st_seq S24 2 [?_, ?_] [(true, 0), (true, 1), (false, 1), (false, 2)] ⟨?_, ?_, trivial⟩ (L' := [(19, ?_), (20, ?_), (3, ?_), (2, ?_)]) ?_ fun a27 w28 S29 => ?_
  rotate_left 6
  · exact opC S24 rfl fun c B => ⟨_, args_1 rfl, (c_of (0) (by omega) (by omega))⟩
  · exact opV S24 fun c => fa_Interval_0 rfl (c.q 1 rfl)
  · rfl
  refine t_sto_lo S29 1 0 0 rfl isC.cv (fun w31 S32 => ?_) info_Rat
  refine wpList_nil (then_normal ?_)
  refine wp_seq ?_
  refine st_seq S32 1 [?_] [(true, 0), (false, 3)] ⟨?_, trivial⟩ (L' := [(21, ?_), (2, ?_)]) ?_ fun a33 w34 S35 => ?_
  rotate_left 3
  · exact opL S32 0 Tryz.underlying37 info_Interval fun c => (c.q 2 rfl)
  · rfl
  refine t_sto S35 1 0 1 rfl (fun h => (mP.cv (fun _ h => (isC.cv h)) (fun _ h => (isC.cv h)) h)) (fun w37 S38 => ?_) info_Interval
  refine wpList_nil (then_normal ?_)
  refine wp_ret ?_
  exact st_end S38 1 1 rfl Tryz.underlying37 info_Interval fun v h => (by first | (rw [sq_t (by assumption)]; exact mP_imp (fun _ h => isC.mono h (by omega)) (fun _ h => isC.mono h (by omega)) h) | (rw [sq_f (by assumption)]; exact mP_imp (fun _ h => isC.mono h (by omega)) (fun _ h => isC.mono h (by omega)) h))
 ·have hb26p := of_decide_eq_false hb26
  refine wp_skip (then_normal ?_)
  refine wp_seq ?_
  refine st_seq S24 1 [?_] [(true, 0), (false, 2)] ⟨?_, trivial⟩ (L' := [(21, ?_), (2, ?_)]) ?_ fun a39 w40 S41 => ?_
  rotate_left 3
  · exact opL S24 0 Tryz.underlying37 info_Interval fun c => (c.q 1 rfl)
  · rfl
  refine t_sto S41 1 0 1 rfl (fun h => (mP.cv (fun _ h => (isC.cv h)) (fun _ h => (isC.cv h)) h)) (fun w43 S44 => ?_) info_Interval
  refine wpList_nil (then_normal ?_)
  refine wp_ret ?_
  exact st_end S44 1 1 rfl Tryz.underlying37 info_Interval fun v h => (by first | (rw [sq_t (by assumption)]; exact mP_imp (fun _ h => isC.mono h (by omega)) (fun _ h => isC.mono h (by omega)) h) | (rw [sq_f (by assumption)]; exact mP_imp (fun _ h => isC.mono h (by omega)) (fun _ h => isC.mono h (by omega)) h))

theorem iv_hull {p0 q0 : Rat} {k0 : Nat} {p1 q1 : Rat} {k1 : Nat} {v0 : Value} {v1 : Value} {w : World} {O : Bs} (hk0 : k0 ≤ 9999) (hk1 : k1 ≤ 9999) (pf0 : (mP (mR (p0) (k0)) (mR (q0) (k0))).S O w v0) (pf1 : (mP (mR (p1) (k1)) (mR (q1) (k1))).S O w v1) (hT : Tb w) (ho : OB O w) :
    Calls Tryz.prog 55 #[v0, v1] w (RetM (mP (mC (mnQ (mnQ (p0) (q0)) (mnQ (p1) (q1))) (k0 + k1 + k0 + k1 + 1)) (mC (mxQ (mxQ (p0) (q0)) (mxQ (p1) (q1))) (k0 + k1 + k0 + k1 + 1))) O w) := by
 refine st_start 20 Tryz.func55 [(mP (mR (p0) (k0)) (mR (q0) (k0))), (mP (mR (p1) (k1)) (mR (q1) (k1)))] ⟨pf0, pf1, trivial⟩ ho fun a S => ?_
 refine wp_seq ?_
 refine st_seq S 0 [] [(false, 0), (false, 1)] trivial (L' := [(0, ?_), (1, ?_)]) ?_ fun a1 w2 S3 => ?_
 rotate_left 2
 · rfl
 refine t_box S3 0 rfl (fun h => (mP.cv (fun _ h => (isR.cv h)) (fun _ h => (isR.cv h)) h)) fun O a5 w6 g7 S8 => ?_
 refine t_box S8 2 rfl (fun h => (mP.cv (fun _ h => (isR.cv h)) (fun _ h => (isR.cv h)) h)) fun O a9 w10 g11 S12 => ?_
 refine t_alloc S12 zero_Interval (fun _ _ _ => bx_Interval) fun O a13 w14 g15 S16 => ?_
 refine wpList_nil (then_normal ?_)
 refine wp_seq ?_
 refine st_mono S16 4 [?_, ?_, ?_, ?_] [(true, 1), (true, 3), (false, 0), (false, 1), (false, 2)] ⟨?_, ?_, ?_, ?_, trivial⟩ (L' := [(6, ?_), (8, ?_), (4, ?_), (3, ?_), (2, ?_)]) ?_ fun a17 w18 S19 => ?_
 rotate_left 9
 · exact opL S16 2 Tryz.underlying37 info_Interval fun c => (c.q 2 rfl)
 · exact opC S16 rfl fun c B => ⟨_, args_1 rfl, (iv_ordered  (by omega) (c.h 0 rfl) (hT.below B) c.ob)⟩
 · exact opL S16 1 Tryz.underlying37 info_Interval fun c => (c.q 1 rfl)
 · exact opC S16 rfl fun c B => ⟨_, args_1 rfl, (iv_ordered  (by omega) (c.h 0 rfl) (hT.below B) c.ob)⟩
 · rfl
 refine t_sto S19 4 0 2 rfl (fun h => (mP.cv (fun _ h => (isR.cv h)) (fun _ h => (isR.cv h)) h)) (fun w21 S22 => ?_) info_Interval
 refine t_sto S22 3 1 1 rfl (fun h => (mP.cv (fun _ h => (isR.cv h)) (fun _ h => (isR.cv h)) h)) (fun w23 S24 => ?_) info_Interval
 refine wpList_nil (then_normal ?_)
 refine wp_seq ?_
 refine st_mono S24 11 [?_, ?_, ?_, ?_, ?_, ?_, ?_, ?_, ?_, ?_, ?_] [(true, 10), (false, 2)] ⟨?_, ?_, ?_, ?_, ?_, ?_, ?_, ?_, ?_, ?_, ?_, trivial⟩ (L' := [(19, ?_), (4, ?_)]) ?_ fun a25 w26 S27 => ?_
 rotate_left 13
 · exact opV S24 fun c => fa_Interval_0 rfl (c.q 4 rfl)
 · exact opP S24 fun c => ld_part rfl (c.e 0 rfl) (c.bx 2 rfl).lo Tryz.underlying26 info_Rat
 · exact opV S24 fun c => fa_Interval_0 rfl (c.q 3 rfl)
 · exact opP S24 fun c => ld_part rfl (c.e 0 rfl) (c.bx 1 rfl).lo Tryz.underlying26 info_Rat
 · exact opC S24 rfl fun c B => ⟨_, args_2 rfl rfl, (iv_lesser  (by omega) (by omega) (c.h 0 rfl) (c.h 1 rfl) (hT.below B) c.ob)⟩
 · exact opV S24 fun c => fa_Interval_1 rfl (c.q 4 rfl)
 · exact opP S24 fun c => ld_part rfl (c.e 0 rfl) (c.bx 2 rfl).hi Tryz.underlying26 info_Rat
 · exact opV S24 fun c => fa_Interval_1 rfl (c.q 3 rfl)
 · exact opP S24 fun c => ld_part rfl (c.e 0 rfl) (c.bx 1 rfl).hi Tryz.underlying26 info_Rat
 · exact opC S24 rfl fun c B => ⟨_, args_2 rfl rfl, (iv_greater  (by omega) (by omega) (c.h 0 rfl) (c.h 1 rfl) (hT.below B) c.ob)⟩
 · exact opC S24 rfl fun c B => ⟨_, args_2 rfl rfl, (iv_make  (by omega) (by omega) (c.h 0 rfl) (c.h 1 rfl) (hT.below B) c.ob)⟩
 · rfl
 refine t_sto S27 1 0 0 rfl (fun h => (mP.cv (fun _ h => (isC.cv h)) (fun _ h => (isC.cv h)) h)) (fun w29 S30 => ?_) info_Interval
 refine wpList_nil (then_normal ?_)
 refine wp_ret ?_
 exact st_end S30 1 0 rfl Tryz.underlying37 info_Interval fun v h => (by rw [mn_eq hull_le, mx_eq hull_le] at h; exact mP_imp (fun _ h => isC.mono h (by omega)) (fun _ h => isC.mono h (by omega)) h)

theorem iv_meet {p0 q0 : Rat} {k0 : Nat} {p1 q1 : Rat} {k1 : Nat} {v0 : Value} {v1 : Value} {w : World} {O : Bs} (hk0 : k0 ≤ 9999) (hk1 : k1 ≤ 9999) (pf0 : (mP (mR (p0) (k0)) (mR (q0) (k0))).S O w v0) (pf1 : (mP (mR (p1) (k1)) (mR (q1) (k1))).S O w v1) (hT : Tb w) (ho : OB O w) :
    Calls Tryz.prog 25 #[v0, v1] w (RetM (mT (mP (mE (mxQ (mnQ (p0) (q0)) (mnQ (p1) (q1))) (meE (mxQ (mnQ (p0) (q0)) (mnQ (p1) (q1))) (mnQ (mxQ (p0) (q0)) (mxQ (p1) (q1)))) (k0 + k1 + k0 + k1 + 1)) (mE (mnQ (mxQ (p0) (q0)) (mxQ (p1) (q1))) (meE (mxQ (mnQ (p0) (q0)) (mnQ (p1) (q1))) (mnQ (mxQ (p0) (q0)) (mxQ (p1) (q1)))) (k0 + k1 + k0 + k1 + 1))) (mV (.bool (decide (meE (mxQ (mnQ (p0) (q0)) (mnQ (p1) (q1))) (mnQ (mxQ (p0) (q0)) (mxQ (p1) (q1))) = 0))))) O w) := by
 refine st_start 30 Tryz.func25 [(mP (mR (p0) (k0)) (mR (q0) (k0))), (mP (mR (p1) (k1)) (mR (q1) (k1)))] ⟨pf0, pf1, trivial⟩ ho fun a S => ?_
 refine wp_seq ?_
 refine st_seq S 0 [] [(false, 0), (false, 1)] trivial (L' := [(0, ?_), (1, ?_)]) ?_ fun a1 w2 S3 => ?_
 rotate_left 2
 · rfl
 refine t_box S3 0 rfl (fun h => (mP.cv (fun _ h => (isR.cv h)) (fun _ h => (isR.cv h)) h)) fun O a5 w6 g7 S8 => ?_
 refine t_box S8 2 rfl (fun h => (mP.cv (fun _ h => (isR.cv h)) (fun _ h => (isR.cv h)) h)) fun O a9 w10 g11 S12 => ?_
 refine t_alloc S12 zero_Interval (fun _ _ _ => bx_Interval) fun O a13 w14 g15 S16 => ?_
 refine t_asgC S16 fun a17 S18 => ?_
 refine wpList_nil (then_normal ?_)
 refine wp_seq ?_
 refine st_mono S18 4 [?_, ?_, ?_, ?_] [(true, 1), (true, 3), (false, 0), (false, 1), (false, 2), (false, 3)] ⟨?_, ?_, ?_, ?_, trivial⟩ (L' := [(9, ?_), (11, ?_), (5, ?_), (4, ?_), (3, ?_), (2, ?_)]) ?_ fun a19 w20 S21 => ?_
 rotate_left 10
 · exact opL S18 2 Tryz.underlying37 info_Interval fun c => (c.q 3 rfl)
 · exact opC S18 rfl fun c B => ⟨_, args_1 rfl, (iv_ordered  (by omega) (c.h 0 rfl) (hT.below B) c.ob)⟩
 · exact opL S18 1 Tryz.underlying37 info_Interval fun c => (c.q 2 rfl)
 · exact opC S18 rfl fun c B => ⟨_, args_1 rfl, (iv_ordered  (by omega) (c.h 0 rfl) (hT.below B) c.ob)⟩
 · rfl
 refine t_sto S21 5 0 2 rfl (fun h => (mP.cv (fun _ h => (isR.cv h)) (fun _ h => (isR.cv h)) h)) (fun w23 S24 => ?_) info_Interval
 refine t_sto S24 4 1 1 rfl (fun h => (mP.cv (fun _ h => (isR.cv h)) (fun _ h => (isR.cv h)) h)) (fun w25 S26 => ?_) info_Interval
 refine wpList_nil (then_normal ?_)
 refine wp_seq ?_
 refine st_monoA S26 12 [?_, ?_, ?_, ?_, ?_, ?_, ?_, ?_, ?_, ?_, ?_, ?_] [(true, 4), (true, 9), (false, 2), (false, 3)] ⟨?_, ?_, ?_, ?_, ?_, ?_, ?_, ?_, ?_, ?_, ?_, ?_, trivial⟩ (L' := [(16, ?_), (21, ?_), (5, ?_), (4, ?_)]) ?_ fun O a27 w28 hw hO hX S29 A30 => ?_
 rotate_left 16
 · exact opV S26 fun c => fa_Interval_0 rfl (c.q 5 rfl)
 · exact opP S26 fun c => ld_part rfl (c.e 0 rfl) (c.bx 2 rfl).lo Tryz.underlying26 info_Rat
 · exact opV S26 fun c => fa_Interval_0 rfl (c.q 4 rfl)
 · exact opP S26 fun c => ld_part rfl (c.e 0 rfl) (c.bx 1 rfl).lo Tryz.underlying26 info_Rat
 · exact opC S26 rfl fun c B => ⟨_, args_2 rfl rfl, (iv_greater  (by omega) (by omega) (c.h 0 rfl) (c.h 1 rfl) (hT.below B) c.ob)⟩
 · exact opV S26 fun c => fa_Interval_1 rfl (c.q 5 rfl)
 · exact opP S26 fun c => ld_part rfl (c.e 0 rfl) (c.bx 2 rfl).hi Tryz.underlying26 info_Rat
 · exact opV S26 fun c => fa_Interval_1 rfl (c.q 4 rfl)
 · exact opP S26 fun c => ld_part rfl (c.e 0 rfl) (c.bx 1 rfl).hi Tryz.underlying26 info_Rat
 · exact opC S26 rfl fun c B => ⟨_, args_2 rfl rfl, (iv_lesser  (by omega) (by omega) (c.h 0 rfl) (c.h 1 rfl) (hT.below B) c.ob)⟩
 · exact opA S26 zero_Rat fun _ _ _ => bx_Rat
 · exact opA S26 zero_Rat fun _ _ _ => bx_Rat
 · exact ⟨by rfl, by rfl⟩
 obtain ⟨g31, e33, e33a, e33b, e33x⟩ := A30.g 10 rfl rfl
 have S32 := (S29.add (q := .box g31 26 3 mTop) (fun _ h => by cases h; exact ⟨hO _ ⟨e33a, e33b⟩, Nat.le_trans hw e33a⟩) e33x (fun p hp x h => by cases h; exact hX p hp _ e33a)).new e33
 obtain ⟨g34, e36, e36a, e36b, e36x⟩ := A30.g 11 rfl rfl
 have S35 := (S32.add (q := .box g34 26 3 mTop) (fun _ h => by cases h; exact ⟨hO _ ⟨e36a, e36b⟩, Nat.le_trans hw e36a⟩) e36x (fun p hp x h => by
   cases h
   rcases List.mem_cons.1 hp with rfl | hp
   · exact fun h => (fun h => A30.ne 11 10 rfl rfl (by decide) (by rw [e36, e33, h])) (Option.some.inj h).symm
   exact hX p hp _ e36a)).new e36
 refine t_sto S35 1 2 1 rfl isR.cv (fun w37 S38 => ?_) info_Rat
 refine t_sto S38 0 3 0 rfl isR.cv (fun w39 S40 => ?_) info_Rat
 refine wpList_nil (then_normal ?_)
 refine wp_seq ?_
 refine wp_seq ?_
 refine st_seq S40 4 [?_, ?_, ?_, ?_] [(true, 3), (false, 0), (false, 1), (false, 4), (false, 5)] ⟨?_, ?_, ?_, ?_, trivial⟩ (L' := [(25, ?_), (7, ?_), (6, ?_), (5, ?_), (4, ?_)]) ?_ fun a41 w42 S43 => ?_
 rotate_left 9
 · exact opL S40 1 Tryz.underlying26 info_Rat fun c => (c.q 1 rfl)
 · exact opL S40 0 Tryz.underlying26 info_Rat fun c => (c.q 0 rfl)
 · exact opC S40 rfl fun c B => ⟨_, args_2 rfl rfl, (c_cmp (by omega) (by omega) (c.h 0 rfl) (c.h 1 rfl) (hT.below B))⟩
 · exact opV S40 fun c => run_gtr rfl (c.e 0 rfl) rfl
 · rfl
 refine wpList_nil (then_normal ?_)
 refine cond_b _ (ev (S43.sl 0 rfl)) (fun hb45 => ?_) (fun hb45 => ?_)
 ·have hb45p := of_decide_eq_true hb45
  refine wp_seq ?_
  refine st_seq S43 1 [?_] [(true, 0), (false, 1), (false, 2), (false, 3), (false, 4)] ⟨?_, trivial⟩ (L' := [(26, ?_), (7, ?_), (6, ?_), (5, ?_), (4, ?_)]) ?_ fun a46 w47 S48 => ?_
  rotate_left 6
  · exact opP S43 fun c => bld_z6 rfl
  · rfl
  refine t_sto S48 4 0 2 rfl (fun h => (mP.cv (fun _ h => (isZ.cv h)) (fun _ h => (isZ.cv h)) h)) (fun w50 S51 => ?_) info_Interval
  refine t_asgC S51 fun a52 S53 => ?_
  refine wpList_nil (then_normal ?_)
  refine wp_ret ?_
  exact st_end2 S53 4 2 0 rfl rfl Tryz.underlying37 info_Interval fun v u h h2 => ⟨v, u, rfl, (mP_imp (fun _ h => isZ.e (by rw [meE_t hb45]; decide) h) (fun _ h => isZ.e (by rw [meE_t hb45]; decide) h) h), (h2).trans (by first | (rw [meE_t (by assumption)]; rfl) | (rw [meE_f (by assumption)]; rfl))⟩
 ·have hb45p := of_decide_eq_false hb45
  refine wp_skip (then_normal ?_)
  refine wp_seq ?_
  refine st_seq S43 3 [?_, ?_, ?_] [(true, 2), (false, 3), (false, 4)] ⟨?_, ?_, ?_, trivial⟩ (L' := [(29, ?_), (5, ?_), (4, ?_)]) ?_ fun a54 w55 S56 => ?_
  rotate_left 6
  · exact opL S43 1 Tryz.underlying26 info_Rat fun c => (c.q 2 rfl)
  · exact opL S43 0 Tryz.underlying26 info_Rat fun c => (c.q 1 rfl)
  · exact opC S43 rfl fun c B => ⟨_, args_2 rfl rfl, (iv_make  (by omega) (by omega) (c.h 0 rfl) (c.h 1 rfl) (hT.below B) c.ob)⟩
  · rfl
  refine t_sto S56 2 0 2 rfl (fun h => (mP.cv (fun _ h => (isC.cv h)) (fun _ h => (isC.cv h)) h)) (fun w58 S59 => ?_) info_Interval
  refine t_asgC S59 fun a60 S61 => ?_
  refine wpList_nil (then_normal ?_)
  refine wp_ret ?_
  exact st_end2 S61 2 2 0 rfl rfl Tryz.underlying37 info_Interval fun v u h h2 => ⟨v, u, rfl, (mP_imp (fun _ h => isE.mono (isC.e (meE_f hb45) (isC.of h (ord_f hb45).1)) (by omega)) (fun _ h => isE.mono (isC.e (meE_f hb45) (isC.of h (ord_f hb45).2)) (by omega)) h), (h2).trans (by first | (rw [meE_t (by assumption)]; rfl) | (rw [meE_f (by assumption)]; rfl))⟩

theorem iv_round {p0 q0 : Rat} {k0 : Nat} (j1 : Int) {v0 : Value} {w : World} {O : Bs} (hk0 : k0 ≤ 9999) (hj1a : -9223372036854775808 ≤ j1) (hj1b : j1 ≤ 9223372036854775807) (pf0 : (mP (mR (p0) (k0)) (mR (q0) (k0))).S O w v0) (hT : Tb w) (ho : OB O w) :
    Calls Tryz.prog 37 #[v0, .int .i64 (j1)] w (RetM (mT (mP (mE (dnE (mnQ (p0) (q0)) (j1)) (bitE (j1)) (k0 + 21)) (mE (upE (mxQ (p0) (q0)) (j1)) (bitE (j1)) (k0 + 21))) (mV (.int .i64 (bitE (j1))))) O w) := by
 refine st_start 36 Tryz.func37 [(mP (mR (p0) (k0)) (mR (q0) (k0))), (mV (.int .i64 (j1)))] ⟨pf0, rfl, trivial⟩ ho fun a S => ?_
 refine wp_seq ?_
 refine st_seq S 0 [] [(false, 0), (false, 1)] trivial (L' := [(0, ?_), (1, ?_)]) ?_ fun a1 w2 S3 => ?_
 rotate_left 2
 · rfl
 refine t_box S3 0 rfl (fun h => (mP.cv (fun _ h => (isR.cv h)) (fun _ h => (isR.cv h)) h)) fun O a5 w6 g7 S8 => ?_
 refine t_alloc S8 zero_Interval (fun _ _ _ => bx_Interval) fun O a9 w10 g11 S12 => ?_
 refine t_asgC S12 fun a13 S14 => ?_
 refine wpList_nil (then_normal ?_)
 refine wp_seq ?_
 refine st_seq S14 2 [?_, ?_] [(true, 1), (false, 0), (false, 1), (false, 2), (false, 4)] ⟨?_, ?_, trivial⟩ (L' := [(10, ?_), (5, ?_), (4, ?_), (2, ?_), (1, ?_)]) ?_ fun a15 w16 S17 => ?_
 rotate_left 7
 · exact opL S14 1 Tryz.underlying37 info_Interval fun c => (c.q 2 rfl)
 · exact opC S14 rfl fun c B => ⟨_, args_1 rfl, (iv_ordered  (by omega) (c.h 0 rfl) (hT.below B) c.ob)⟩
 · rfl
 refine t_sto S17 3 0 1 rfl (fun h => (mP.cv (fun _ h => (isR.cv h)) (fun _ h => (isR.cv h)) h)) (fun w19 S20 => ?_) info_Interval
 refine wpList_nil (then_normal ?_)
 refine wp_seq ?_
 refine st_seq S20 7 [?_, ?_, ?_, ?_, ?_, ?_, ?_] [(true, 5), (true, 6), (false, 1), (false, 2), (false, 3), (false, 4)] ⟨?_, ?_, ?_, ?_, ?_, ?_, ?_, trivial⟩ (L' := [(16, ?_), (17, ?_), (5, ?_), (4, ?_), (2, ?_), (1, ?_)]) ?_ fun a21 w22 S23 => ?_
 rotate_left 13
 · exact opV S20 fun c => fa_Interval_0 rfl (c.q 3 rfl)
 · exact opP S20 fun c => ld_part rfl (c.e 0 rfl) (c.bx 1 rfl).lo Tryz.underlying26 info_Rat
 · exact opV S20 fun c => run_v (run_move rfl) (c.q 4 rfl)
 · exact opC S20 rfl fun c B => ⟨_, args_2 rfl (c.e 1 rfl), (c_down (by omega) (j1) (c.h 0 rfl) (hT.below B))⟩
 · exact opP S20 fun c => ⟨_, run_move rfl, (c.h 0 rfl)⟩
 · exact opP S20 fun c => ext_0 rfl (c.h 0 rfl)
 · exact opP S20 fun c => ext_1 rfl (c.h 0 rfl)
 · rfl
 refine t_alloc S23 zero_Rat (fun _ _ _ => bx_Rat) fun O a25 w26 g27 S28 => ?_
 refine t_sto S28 0 1 0 rfl isE.cv (fun w29 S30 => ?_) info_Rat
 refine t_asg S30 2 fun a31 S32 => ?_
 refine wpList_nil (then_normal ?_)
 refine wp_seq ?_
 refine wp_seq ?_
 refine st_seq S32 2 [?_, ?_] [(true, 1), (false, 0), (false, 1), (false, 4), (false, 5), (false, 6), (false, 7)] ⟨?_, ?_, trivial⟩ (L' := [(19, ?_), (7, ?_), (6, ?_), (5, ?_), (4, ?_), (2, ?_), (1, ?_)]) ?_ fun a33 w34 S35 => ?_
 rotate_left 9
 · exact opV S32 fun c => run_v (run_move rfl) (c.q 0 rfl)
 · exact opV S32 fun c => run_neq rfl (c.e 0 rfl) rfl
 · rfl
 refine wpList_nil (then_normal ?_)
 refine cond_b _ (ev (S35.sl 0 rfl)) (fun hb37 => ?_) (fun hb37 => ?_)
 ·have hb37p := of_decide_eq_true hb37
  refine wp_seq ?_
  refine st_seq S35 2 [?_, ?_] [(true, 0), (true, 1), (false, 1), (false, 2), (false, 3), (false, 4), (false, 5), (false, 6)] ⟨?_, ?_, trivial⟩ (L' := [(20, ?_), (21, ?_), (7, ?_), (6, ?_), (5, ?_), (4, ?_), (2, ?_), (1, ?_)]) ?_ fun a38 w39 S40 => ?_
  rotate_left 10
  · exact opP S35 fun c => bld_z6 rfl
  · exact opV S35 fun c => run_v (run_move rfl) (c.q 1 rfl)
  · rfl
  refine t_sto S40 5 0 1 rfl (fun h => (mP.cv (fun _ h => (isZ.cv h)) (fun _ h => (isZ.cv h)) h)) (fun w42 S43 => ?_) info_Interval
  refine t_asg S43 1 fun a44 S45 => ?_
  refine wpList_nil (then_normal ?_)
  refine wp_ret ?_
  exact st_end2 S45 5 1 0 rfl rfl Tryz.underlying37 info_Interval fun v u h h2 => ⟨v, u, rfl, (by first | exact mP_imp (fun _ h => isZ.e (err_ne (by assumption)) h) (fun _ h => isZ.e (err_ne (by assumption)) h) h | exact mP_imp (fun _ h => isE.mono h (by omega)) (fun _ h => isE.mono h (by omega)) h), (h2).trans (by first | rfl | exact congrArg (Value.int .i64) (err_eq (by assumption)).symm)⟩
 ·have hb37p := of_decide_eq_false hb37
  refine wp_skip (then_normal ?_)
  refine wp_seq ?_
  refine st_seq S35 7 [?_, ?_, ?_, ?_, ?_, ?_, ?_] [(true, 5), (true, 6), (false, 1), (false, 2), (false, 3), (false, 4)] ⟨?_, ?_, ?_, ?_, ?_, ?_, ?_, trivial⟩ (L' := [(27, ?_), (28, ?_), (7, ?_), (6, ?_), (5, ?_), (4, ?_)]) ?_ fun a46 w47 S48 => ?_
  rotate_left 13
  · exact opV S35 fun c => fa_Interval_1 rfl (c.q 5 rfl)
  · exact opP S35 fun c => ld_part rfl (c.e 0 rfl) (c.bx 2 rfl).hi Tryz.underlying26 info_Rat
  · exact opV S35 fun c => run_v (run_move rfl) (c.q 6 rfl)
  · exact opC S35 rfl fun c B => ⟨_, args_2 rfl (c.e 1 rfl), (c_up (by omega) (j1) (c.h 0 rfl) (hT.below B))⟩
  · exact opP S35 fun c => ⟨_, run_move rfl, (c.h 0 rfl)⟩
  · exact opP S35 fun c => ext_0 rfl (c.h 0 rfl)
  · exact opP S35 fun c => ext_1 rfl (c.h 0 rfl)
  · rfl
  refine t_alloc S48 zero_Rat (fun _ _ _ => bx_Rat) fun O a50 w51 g52 S53 => ?_
  refine t_sto S53 0 1 0 rfl isE.cv (fun w54 S55 => ?_) info_Rat
  refine t_asg S55 2 fun a56 S57 => ?_
  refine wpList_nil (then_normal ?_)
  refine wp_seq ?_
  refine wp_seq ?_
  refine st_seq S57 2 [?_, ?_] [(true, 1), (false, 0), (false, 1), (false, 4), (false, 5), (false, 6)] ⟨?_, ?_, trivial⟩ (L' := [(30, ?_), (7, ?_), (8, ?_), (6, ?_), (5, ?_), (4, ?_)]) ?_ fun a58 w59 S60 => ?_
  rotate_left 8
  · exact opV S57 fun c => run_v (run_move rfl) (c.q 0 rfl)
  · exact opV S57 fun c => run_neq rfl (c.e 0 rfl) rfl
  · rfl
  refine wpList_nil (then_normal ?_)
  refine cond_b _ (ev (S60.sl 0 rfl)) (fun hb62 => ?_) (fun hb62 => ?_)
  · exact absurd (hb37.symm.trans hb62) (by decide)
  ·have hb62p := of_decide_eq_false hb62
   refine wp_skip (then_normal ?_)
   refine wp_seq ?_
   refine st_seq S60 3 [?_, ?_, ?_] [(true, 2), (false, 4), (false, 5)] ⟨?_, ?_, ?_, trivial⟩ (L' := [(35, ?_), (5, ?_), (4, ?_)]) ?_ fun a63 w64 S65 => ?_
   rotate_left 6
   · exact opL S60 1 Tryz.underlying26 info_Rat fun c => (c.q 3 rfl)
   · exact opL S60 0 Tryz.underlying26 info_Rat fun c => (c.q 2 rfl)
   · exact opP S60 fun c => bld_pair rfl (c.h 0 rfl) (c.h 1 rfl) (isE.cv (c.h 0 rfl)) (isE.cv (c.h 1 rfl))
   · rfl
   refine t_sto S65 2 0 2 rfl (fun h => (mP.cv (fun _ h => (isE.cv h)) (fun _ h => (isE.cv h)) h)) (fun w67 S68 => ?_) info_Interval
   refine t_asgC S68 fun a69 S70 => ?_
   refine wpList_nil (then_normal ?_)
   refine wp_ret ?_
   exact st_end2 S70 2 2 0 rfl rfl Tryz.underlying37 info_Interval fun v u h h2 => ⟨v, u, rfl, (by first | exact mP_imp (fun _ h => isZ.e (err_ne (by assumption)) h) (fun _ h => isZ.e (err_ne (by assumption)) h) h | exact mP_imp (fun _ h => isE.mono h (by omega)) (fun _ h => isE.mono h (by omega)) h), (h2).trans (by first | rfl | exact congrArg (Value.int .i64) (err_eq (by assumption)).symm)⟩

theorem k_smallon {x y : Bool} {v0 : Value} {w : World} {O : Bs}  (pf0 : (mP (mS (x)) (mS (y))).S O w v0) (ho : OB O w) :
    Calls Tryz.prog 21 #[v0] w (RetM (mV (.bool ((x) && (y)))) O w) := by
 refine st_start 11 Tryz.func21 [(mP (mS (x)) (mS (y)))] ⟨pf0, trivial⟩ ho fun a S => ?_
 refine wp_seq ?_
 refine st_seq S 0 [] [(false, 0)] trivial (L' := [(0, ?_)]) ?_ fun a1 w2 S3 => ?_
 rotate_left 1
 · rfl
 refine t_box S3 0 rfl (fun h => (mP.cv (fun _ h => (isS.cv h)) (fun _ h => (isS.cv h)) h)) fun O a5 w6 g7 S8 => ?_
 refine t_asgC S8 fun a9 S10 => ?_
 refine wpList_nil (then_normal ?_)
 refine wp_seq ?_
 refine st_seq S10 8 [?_, ?_, ?_, ?_, ?_, ?_, ?_, ?_] [(true, 7), (false, 0)] ⟨?_, ?_, ?_, ?_, ?_, ?_, ?_, ?_, trivial⟩ (L' := [(10, ?_), (2, ?_)]) ?_ fun a11 w12 S13 => ?_
 rotate_left 10
 · exact opV S10 fun c => fa_Interval_0 rfl (c.q 1 rfl)
 · exact opP S10 fun c => ld_part rfl (c.e 0 rfl) (c.bx 0 rfl).lo Tryz.underlying26 info_Rat
 · exact opC S10 rfl fun c B => ⟨_, args_1 rfl, (k_small (c.h 0 rfl))⟩
 · exact opV S10 fun c => run_v (run_move rfl) (c.e 0 rfl)
 · exact opG S10 0 (fun hγ => opV S10 fun c => fa_Interval_1 rfl (c.q 1 rfl)) gT
 · exact opG S10 1 (fun hγ => opP S10 fun c => ld_part rfl (ev (c.h 0 rfl hγ)) (c.bx 0 rfl).hi Tryz.underlying26 info_Rat) gT
 · exact opG S10 1 (fun hγ => opC S10 rfl fun c B => ⟨_, args_1 rfl, (k_small (c.h 0 rfl hγ))⟩) gT
 · exact opE S10 fun c => ⟨_, run_pick rfl (c.e 0 rfl), pick_and (c.h 1 rfl)⟩
 · rfl
 refine t_asg S13 0 fun a15 S16 => ?_
 refine wpList_nil (then_normal ?_)
 refine wp_ret ?_
 exact st_endT S16 0 rfl fun v h => h
end Go.Proofs.YtiljjhhkklnlgaaGreatDoor

namespace Go.Proofs.YtiljjhhkklnlgaaGreatDoor
open Go.RowKit Num

def ext (qs : Nat → Rat) (i l g : Nat) : Prop := i ≤ 4 ∧ l < 4 ∧ g < 4 ∧ (∀ j, j < i → qs l ≤ qs j) ∧ (∀ j, j < i → qs j ≤ qs g)
theorem ext_init (qs : Nat → Rat) : ext qs 0 0 0 := ⟨by omega, by omega, by omega, fun j hj => by omega, fun j hj => by omega⟩
def XL (qs : Nat → Rat) (i l l' : Nat) : Prop := (l' = i ∧ qs i < qs l) ∨ (l' = l ∧ qs l ≤ qs i)
def XG (qs : Nat → Rat) (i g g' : Nat) : Prop := (g' = i ∧ qs g ≤ qs i) ∨ (g' = g ∧ qs i ≤ qs g)
theorem xl_t {qs : Nat → Rat} {i l : Nat} (h : cmpQ (qs i) (qs l) < 0) : XL qs i l i := by
 refine Or.inl ⟨rfl, ?_⟩
 have h1 := @cmpq_pos (qs l) (qs i)
 have h2 := cmpQ_swap (qs i) (qs l)
 exact h1.1 (by omega)
theorem xl_f {qs : Nat → Rat} {i l : Nat} (h : ¬ cmpQ (qs i) (qs l) < 0) : XL qs i l l := Or.inr ⟨rfl, Rat.not_lt.1 (cmpq_ge.1 (by omega))⟩
theorem xg_t {qs : Nat → Rat} {i g : Nat} (h : 0 ≤ cmpQ (qs i) (qs g)) : XG qs i g i := Or.inl ⟨rfl, Rat.not_lt.1 (cmpq_ge.1 h)⟩
theorem xg_f {qs : Nat → Rat} {i g : Nat} (h : ¬ 0 ≤ cmpQ (qs i) (qs g)) : XG qs i g g := Or.inr ⟨rfl, Rat.not_lt.1 (cmpq_le.1 (by omega))⟩
theorem ext_step {qs : Nat → Rat} {i l g l' g' : Nat} (h : ext qs i l g) (hi : i < 4) (h1 : XL qs i l l') (h2 : XG qs i g g') : ext qs (i + 1) l' g' := by
 obtain ⟨e1, e2, e3, e4, e5⟩ := h
 refine ⟨by omega, ?_, ?_, fun j hj => ?_, fun j hj => ?_⟩
 ·rcases h1 with ⟨rfl, _⟩ | ⟨rfl, _⟩ <;> omega
 ·rcases h2 with ⟨rfl, _⟩ | ⟨rfl, _⟩ <;> omega
 ·rcases h1 with ⟨rfl, h⟩ | ⟨rfl, h⟩
  ·by_cases hj' : j < l'
   ·exact Rat.le_trans (Rat.le_of_lt h) (e4 j hj')
   ·obtain rfl : j = l' := by omega
    exact Rat.le_refl
  ·by_cases hj' : j < i
   ·exact e4 j hj'
   ·obtain rfl : j = i := by omega
    exact h
 ·rcases h2 with ⟨rfl, h⟩ | ⟨rfl, h⟩
  ·by_cases hj' : j < g'
   ·exact Rat.le_trans (e5 j hj') h
   ·obtain rfl : j = g' := by omega
    exact Rat.le_refl
  ·by_cases hj' : j < i
   ·exact e5 j hj'
   ·obtain rfl : j = i := by omega
    exact h
theorem mn_cases (p q : Rat) : mnQ p q = p ∨ mnQ p q = q := by unfold mnQ; split <;> simp
theorem mx_cases (p q : Rat) : mxQ p q = p ∨ mxQ p q = q := by unfold mxQ; split <;> simp
theorem ext_end {qs : Nat → Rat} {i l g : Nat} (h : ext qs i l g) (hi : ¬ i < 4) : qs l = mn4 (qs 0) (qs 1) (qs 2) (qs 3) ∧ qs g = mx4 (qs 0) (qs 1) (qs 2) (qs 3) := by
 obtain ⟨e1, e2, e3, e4, e5⟩ := h
 have a0 := e4 0 (by omega)
 have a1 := e4 1 (by omega)
 have a2 := e4 2 (by omega)
 have a3 := e4 3 (by omega)
 have b0 := e5 0 (by omega)
 have b1 := e5 1 (by omega)
 have b2 := e5 2 (by omega)
 have b3 := e5 3 (by omega)
 constructor
 ·refine Rat.le_antisymm ?_ ?_
  ·unfold mn4
   rcases mn_cases (mnQ (qs 0) (qs 1)) (mnQ (qs 2) (qs 3)) with h | h <;> rw [h]
   ·rcases mn_cases (qs 0) (qs 1) with h | h <;> rw [h] <;> assumption
   ·rcases mn_cases (qs 2) (qs 3) with h | h <;> rw [h] <;> assumption
  ·have m1 : mn4 (qs 0) (qs 1) (qs 2) (qs 3) ≤ mnQ (qs 0) (qs 1) := mn_le_l _ _
   have m2 : mn4 (qs 0) (qs 1) (qs 2) (qs 3) ≤ mnQ (qs 2) (qs 3) := mn_le_r _ _
   match l, e2 with
   | 0, _ => exact Rat.le_trans m1 (mn_le_l _ _)
   | 1, _ => exact Rat.le_trans m1 (mn_le_r _ _)
   | 2, _ => exact Rat.le_trans m2 (mn_le_l _ _)
   | 3, _ => exact Rat.le_trans m2 (mn_le_r _ _)
 ·refine Rat.le_antisymm ?_ ?_
  ·have m1 : mxQ (qs 0) (qs 1) ≤ mx4 (qs 0) (qs 1) (qs 2) (qs 3) := le_mx_l _ _
   have m2 : mxQ (qs 2) (qs 3) ≤ mx4 (qs 0) (qs 1) (qs 2) (qs 3) := le_mx_r _ _
   match g, e3 with
   | 0, _ => exact Rat.le_trans (le_mx_l _ _) m1
   | 1, _ => exact Rat.le_trans (le_mx_r _ _) m1
   | 2, _ => exact Rat.le_trans (le_mx_l _ _) m2
   | 3, _ => exact Rat.le_trans (le_mx_r _ _) m2
  ·unfold mx4
   rcases mx_cases (mxQ (qs 0) (qs 1)) (mxQ (qs 2) (qs 3)) with h | h <;> rw [h]
   ·rcases mx_cases (qs 0) (qs 1) with h | h <;> rw [h] <;> assumption
   ·rcases mx_cases (qs 2) (qs 3) with h | h <;> rw [h] <;> assumption
end Go.Proofs.YtiljjhhkklnlgaaGreatDoor

namespace Go.Proofs.YtiljjhhkklnlgaaGreatDoor
open Go.RowKit Num

set_option maxRecDepth 100000
set_option maxHeartbeats 2000000
theorem iv_extremesC {qs : Nat → Rat} {k : Nat} {v0 : Value} {w : World} {O : Bs} (hk : k ≤ 99999) (pf0 : (mA4C qs (k)).S O w v0) (hT : Tb w) (ho : OB O w) :
    Calls Tryz.prog 145 #[v0] w (RetM (mP (mC (mn4 (qs 0) (qs 1) (qs 2) (qs 3)) (k)) (mC (mx4 (qs 0) (qs 1) (qs 2) (qs 3)) (k))) O w) := by
 refine st_start 34 Tryz.func145 [(mA4C qs (k))] ⟨pf0, trivial⟩ ho fun a S => ?_
 refine wp_seq ?_
 refine st_seq S 0 [] [(false, 0)] trivial (L' := [(0, ?_)]) ?_ fun a1 w2 S3 => ?_
 rotate_left 1
 · rfl
 refine t_box S3 0 rfl isA4C.cv fun O a5 w6 g7 S8 => ?_
 refine t_alloc S8 zero_Interval (fun _ _ _ => bx_Interval) fun O a9 w10 g11 S12 => ?_
 refine wpList_nil (then_normal ?_)
 refine wp_seq ?_
 refine st_seq S12 0 [] [(false, 0), (false, 1)] trivial (L' := [(2, ?_), (1, ?_)]) ?_ fun a13 w14 S15 => ?_
 rotate_left 2
 · rfl
 refine t_asgC S15 fun a17 S18 => ?_
 refine t_asgC S18 fun a19 S20 => ?_
 refine wpList_nil (then_normal ?_)
 refine wp_seq ?_
 refine wp_seq ?_
 refine st_seq S20 2 [?_, ?_] [(true, 0), (true, 1), (false, 0), (false, 1), (false, 2), (false, 3)] ⟨?_, ?_, trivial⟩ (L' := [(7, ?_), (8, ?_), (4, ?_), (3, ?_), (2, ?_), (1, ?_)]) ?_ fun a21 w22 S23 => ?_
 rotate_left 8
 · exact opL S20 1 Tryz.underlying105 info_Arr4 fun c => (c.q 3 rfl)
 · exact opV S20 fun c => run_moveC rfl
 · rfl
 refine wpList_nil (then_normal ?_)
 refine wp_block ?_
 refine st_loop (τ := Nat × Nat × Nat) (fun ⟨i, l, g⟩ => [(7, (mA4C qs (k))), (8, (mV (.int .i64 ((i : Nat) : Int)))), (4, (mV (.int .i64 ((g : Nat) : Int)))), (3, (mV (.int .i64 ((l : Nat) : Int)))), (2, (mV (.pointer (some ⟨g11, 0, none⟩)))), (1, (mV (.pointer (some ⟨g7, 0, none⟩))))]) (fun ⟨i, l, g⟩ => [.box g11 37 6 mTop, .box g7 105 12 (mA4C qs (k))]) (fun ⟨i, l, g⟩ => ext qs i l g) (fun ⟨i, l, g⟩ => 4 - i) (0, 0, 0) (ext_init qs) (S23.toX ⟨S23.sl 0 rfl, S23.sl 1 rfl, S23.sl 2 rfl, S23.sl 3 rfl, S23.sl 4 rfl, S23.sl 5 rfl, trivial⟩ ⟨S23.f 0 rfl, S23.f 1 rfl, trivial⟩) ?_
 rintro ⟨i, l, g⟩ O a27 w28 hp29 S30
 dsimp only at hp29 S30
 have hi0 := hp29.1
 have hl0 := hp29.2.1
 have hg0 := hp29.2.2.1
 refine wp_seq ?_
 refine st_seq S30 1 [?_] [(true, 0), (false, 0), (false, 1), (false, 2), (false, 3), (false, 4), (false, 5)] ⟨?_, trivial⟩ (L' := [(9, ?_), (7, ?_), (8, ?_), (4, ?_), (3, ?_), (2, ?_), (1, ?_)]) ?_ fun a31 w32 S33 => ?_
 rotate_left 8
 · exact opV S30 fun c => run_lss rfl (c.q 1 rfl) rfl
 · rfl
 refine wpList_nil (then_normal ?_)
 refine wp_seq ?_
 refine cond_b _ (ev (S33.sl 0 rfl)) (fun hb35 => ?_) (fun hb35 => ?_)
 ·have hb35p := of_decide_eq_true hb35
  refine wp_skip (then_normal ?_)
  refine wp_seq ?_
  refine wp_block ?_
  refine wp_seq ?_
  refine st_seq S33 2 [?_, ?_] [(true, 0), (true, 1), (false, 1), (false, 2), (false, 3), (false, 4), (false, 5), (false, 6)] ⟨?_, ?_, trivial⟩ (L' := [(10, ?_), (11, ?_), (7, ?_), (8, ?_), (4, ?_), (3, ?_), (2, ?_), (1, ?_)]) ?_ fun a36 w37 S38 => ?_
  rotate_left 10
  · exact opV S33 fun c => run_v (run_move rfl) (c.q 2 rfl)
  · exact opP S33 fun c => idx_a4c (c.o 1 rfl) (c.q 2 rfl) (by omega)
  · rfl
  refine t_alloc S38 zero_Rat (fun _ _ _ => bx_Rat) fun O a40 w41 g42 S43 => ?_
  refine t_asg S43 1 fun a44 S45 => ?_
  refine t_sto S45 1 3 0 rfl isC.cv (fun w46 S47 => ?_) info_Rat
  refine wpList_nil (then_normal ?_)
  refine wp_seq ?_
  refine wp_seq ?_
  refine st_mono S47 6 [?_, ?_, ?_, ?_, ?_, ?_] [(true, 5), (false, 0), (false, 1), (false, 4), (false, 5), (false, 6), (false, 7), (false, 8), (false, 9)] ⟨?_, ?_, ?_, ?_, ?_, ?_, trivial⟩ (L' := [(17, ?_), (5, ?_), (6, ?_), (7, ?_), (8, ?_), (4, ?_), (3, ?_), (2, ?_), (1, ?_)]) ?_ fun a48 w49 S50 => ?_
  rotate_left 15
  · exact opL S47 0 Tryz.underlying26 info_Rat fun c => (c.q 1 rfl)
  · exact opV S47 fun c => run_v (run_move rfl) (c.q 7 rfl)
  · exact opV S47 fun c => addr_a4 rfl (c.q 9 rfl) (c.e 0 rfl) (by omega)
  · exact opP S47 fun c => ld_part (m := (mC (qs l) (k))) rfl (c.e 0 rfl) (bx.a4c (c.bx 2 rfl) l (by omega)) Tryz.underlying26 info_Rat
  · exact opC S47 rfl fun c B => ⟨_, args_2 rfl rfl, (c_cmp (by omega) (by omega) (isC.r (c.h 0 rfl)) (isC.r (c.h 1 rfl)) (hT.below B))⟩
  · exact opV S47 fun c => run_lss rfl (c.e 0 rfl) rfl
  · rfl
  refine wpList_nil (then_normal ?_)
  refine cond_b _ (ev (S50.sl 0 rfl)) (fun hb52 => ?_) (fun hb52 => ?_)
  ·have hb52p := of_decide_eq_true hb52
   refine st_seq S50 1 [?_] [(true, 0), (false, 1), (false, 2), (false, 3), (false, 4), (false, 5), (false, 6), (false, 7), (false, 8)] ⟨?_, trivial⟩ (L' := [(18, ?_), (5, ?_), (6, ?_), (7, ?_), (8, ?_), (4, ?_), (3, ?_), (2, ?_), (1, ?_)]) ?_ fun a53 w54 S55 => ?_
   rotate_left 10
   · exact opV S50 fun c => run_v (run_move rfl) (c.q 1 rfl)
   · rfl
   refine t_asg S55 0 fun a57 S58 => ?_
   refine wpList_nil (then_normal ?_)
   refine wp_seq ?_
   refine st_mono S58 6 [?_, ?_, ?_, ?_, ?_, ?_] [(true, 5), (false, 0), (false, 2), (false, 4), (false, 5), (false, 6), (false, 7), (false, 8)] ⟨?_, ?_, ?_, ?_, ?_, ?_, trivial⟩ (L' := [(24, ?_), (3, ?_), (5, ?_), (7, ?_), (8, ?_), (4, ?_), (2, ?_), (1, ?_)]) ?_ fun a59 w60 S61 => ?_
   rotate_left 14
   · exact opL S58 0 Tryz.underlying26 info_Rat fun c => (c.q 3 rfl)
   · exact opV S58 fun c => run_v (run_move rfl) (c.q 6 rfl)
   · exact opV S58 fun c => addr_a4 rfl (c.q 8 rfl) (c.e 0 rfl) (by omega)
   · exact opP S58 fun c => ld_part (m := (mC (qs g) (k))) rfl (c.e 0 rfl) (bx.a4c (c.bx 2 rfl) g (by omega)) Tryz.underlying26 info_Rat
   · exact opC S58 rfl fun c B => ⟨_, args_2 rfl rfl, (c_cmp (by omega) (by omega) (isC.r (c.h 0 rfl)) (isC.r (c.h 1 rfl)) (hT.below B))⟩
   · exact opV S58 fun c => run_geq rfl (c.e 0 rfl) rfl
   · rfl
   refine wpList_nil (then_normal ?_)
   refine cond_b _ (ev (S61.sl 0 rfl)) (fun hb63 => ?_) (fun hb63 => ?_)
   ·have hb63p := of_decide_eq_true hb63
    refine st_seq S61 1 [?_] [(true, 0), (false, 1), (false, 3), (false, 4), (false, 5), (false, 6), (false, 7)] ⟨?_, trivial⟩ (L' := [(25, ?_), (3, ?_), (7, ?_), (8, ?_), (4, ?_), (2, ?_), (1, ?_)]) ?_ fun a64 w65 S66 => ?_
    rotate_left 8
    · exact opV S61 fun c => run_v (run_move rfl) (c.q 2 rfl)
    · rfl
    refine t_asg S66 0 fun a68 S69 => ?_
    refine wpList_nil (in_normal (then_normal ?_))
    refine st_seq S69 1 [?_] [(true, 0), (false, 0), (false, 2), (false, 3), (false, 4), (false, 5), (false, 6)] ⟨?_, trivial⟩ (L' := [(26, ?_), (4, ?_), (3, ?_), (7, ?_), (8, ?_), (2, ?_), (1, ?_)]) ?_ fun a70 w71 S72 => ?_
    rotate_left 8
    · exact opV S69 fun c => run_add rfl (c.q 4 rfl) rfl (by omega) (by omega)
    · rfl
    refine t_val S72 (run_v (run_move rfl) (S72.e 0 rfl)) fun a74 S75 => ?_
    refine wpList_nil (then_normal ?_)
    exact ⟨(i + 1, i, i), (by dsimp only; omega), (ext_step hp29 (by omega) (xl_t hb52p) (xg_t hb63p)), _, (S75.dropN 1).toX ⟨S75.sl 4 rfl, (S75.sl 0 rfl).trans (by first | rfl | exact congrArg _ (by omega)), (S75.sl 2 rfl).trans (by first | rfl | exact congrArg _ (by omega)), (S75.sl 3 rfl).trans (by first | rfl | exact congrArg _ (by omega)), S75.sl 5 rfl, S75.sl 6 rfl, trivial⟩ ⟨S75.f 1 rfl, S75.f 2 rfl, trivial⟩⟩
   ·have hb63p := of_decide_eq_false hb63
    refine wp_skip (in_normal (then_normal ?_))
    refine st_seq S61 1 [?_] [(true, 0), (false, 1), (false, 3), (false, 4), (false, 5), (false, 6), (false, 7)] ⟨?_, trivial⟩ (L' := [(26, ?_), (3, ?_), (7, ?_), (8, ?_), (4, ?_), (2, ?_), (1, ?_)]) ?_ fun a76 w77 S78 => ?_
    rotate_left 8
    · exact opV S61 fun c => run_add rfl (c.q 4 rfl) rfl (by omega) (by omega)
    · rfl
    refine t_val S78 (run_v (run_move rfl) (S78.e 0 rfl)) fun a80 S81 => ?_
    refine wpList_nil (then_normal ?_)
    exact ⟨(i + 1, i, g), (by dsimp only; omega), (ext_step hp29 (by omega) (xl_t hb52p) (xg_f hb63p)), _, (S81.dropN 1).toX ⟨S81.sl 3 rfl, (S81.sl 0 rfl).trans (by first | rfl | exact congrArg _ (by omega)), (S81.sl 4 rfl).trans (by first | rfl | exact congrArg _ (by omega)), (S81.sl 2 rfl).trans (by first | rfl | exact congrArg _ (by omega)), S81.sl 5 rfl, S81.sl 6 rfl, trivial⟩ ⟨S81.f 1 rfl, S81.f 2 rfl, trivial⟩⟩
  ·have hb52p := of_decide_eq_false hb52
   refine wp_skip (then_normal ?_)
   refine wp_seq ?_
   refine st_mono S50 6 [?_, ?_, ?_, ?_, ?_, ?_] [(true, 5), (false, 1), (false, 3), (false, 4), (false, 5), (false, 6), (false, 7), (false, 8)] ⟨?_, ?_, ?_, ?_, ?_, ?_, trivial⟩ (L' := [(24, ?_), (5, ?_), (7, ?_), (8, ?_), (4, ?_), (3, ?_), (2, ?_), (1, ?_)]) ?_ fun a82 w83 S84 => ?_
   rotate_left 14
   · exact opL S50 0 Tryz.underlying26 info_Rat fun c => (c.q 2 rfl)
   · exact opV S50 fun c => run_v (run_move rfl) (c.q 5 rfl)
   · exact opV S50 fun c => addr_a4 rfl (c.q 8 rfl) (c.e 0 rfl) (by omega)
   · exact opP S50 fun c => ld_part (m := (mC (qs g) (k))) rfl (c.e 0 rfl) (bx.a4c (c.bx 2 rfl) g (by omega)) Tryz.underlying26 info_Rat
   · exact opC S50 rfl fun c B => ⟨_, args_2 rfl rfl, (c_cmp (by omega) (by omega) (isC.r (c.h 0 rfl)) (isC.r (c.h 1 rfl)) (hT.below B))⟩
   · exact opV S50 fun c => run_geq rfl (c.e 0 rfl) rfl
   · rfl
   refine wpList_nil (then_normal ?_)
   refine cond_b _ (ev (S84.sl 0 rfl)) (fun hb86 => ?_) (fun hb86 => ?_)
   ·have hb86p := of_decide_eq_true hb86
    refine st_seq S84 1 [?_] [(true, 0), (false, 2), (false, 3), (false, 4), (false, 5), (false, 6), (false, 7)] ⟨?_, trivial⟩ (L' := [(25, ?_), (7, ?_), (8, ?_), (4, ?_), (3, ?_), (2, ?_), (1, ?_)]) ?_ fun a87 w88 S89 => ?_
    rotate_left 8
    · exact opV S84 fun c => run_v (run_move rfl) (c.q 1 rfl)
    · rfl
    refine t_asg S89 0 fun a91 S92 => ?_
    refine wpList_nil (in_normal (then_normal ?_))
    refine st_seq S92 1 [?_] [(true, 0), (false, 0), (false, 2), (false, 3), (false, 4), (false, 5), (false, 6)] ⟨?_, trivial⟩ (L' := [(26, ?_), (4, ?_), (7, ?_), (8, ?_), (3, ?_), (2, ?_), (1, ?_)]) ?_ fun a93 w94 S95 => ?_
    rotate_left 8
    · exact opV S92 fun c => run_add rfl (c.q 3 rfl) rfl (by omega) (by omega)
    · rfl
    refine t_val S95 (run_v (run_move rfl) (S95.e 0 rfl)) fun a97 S98 => ?_
    refine wpList_nil (then_normal ?_)
    exact ⟨(i + 1, l, i), (by dsimp only; omega), (ext_step hp29 (by omega) (xl_f hb52p) (xg_t hb86p)), _, (S98.dropN 1).toX ⟨S98.sl 3 rfl, (S98.sl 0 rfl).trans (by first | rfl | exact congrArg _ (by omega)), (S98.sl 2 rfl).trans (by first | rfl | exact congrArg _ (by omega)), (S98.sl 4 rfl).trans (by first | rfl | exact congrArg _ (by omega)), S98.sl 5 rfl, S98.sl 6 rfl, trivial⟩ ⟨S98.f 1 rfl, S98.f 2 rfl, trivial⟩⟩
   ·have hb86p := of_decide_eq_false hb86
    refine wp_skip (in_normal (then_normal ?_))
    refine st_seq S84 1 [?_] [(true, 0), (false, 2), (false, 3), (false, 4), (false, 5), (false, 6), (false, 7)] ⟨?_, trivial⟩ (L' := [(26, ?_), (7, ?_), (8, ?_), (4, ?_), (3, ?_), (2, ?_), (1, ?_)]) ?_ fun a99 w100 S101 => ?_
    rotate_left 8
    · exact opV S84 fun c => run_add rfl (c.q 3 rfl) rfl (by omega) (by omega)
    · rfl
    refine t_val S101 (run_v (run_move rfl) (S101.e 0 rfl)) fun a103 S104 => ?_
    refine wpList_nil (then_normal ?_)
    exact ⟨(i + 1, l, g), (by dsimp only; omega), (ext_step hp29 (by omega) (xl_f hb52p) (xg_f hb86p)), _, (S104.dropN 1).toX ⟨S104.sl 2 rfl, (S104.sl 0 rfl).trans (by first | rfl | exact congrArg _ (by omega)), (S104.sl 3 rfl).trans (by first | rfl | exact congrArg _ (by omega)), (S104.sl 4 rfl).trans (by first | rfl | exact congrArg _ (by omega)), S104.sl 5 rfl, S104.sl 6 rfl, trivial⟩ ⟨S104.f 1 rfl, S104.f 2 rfl, trivial⟩⟩
 ·have hb35p := of_decide_eq_false hb35
  refine wp_exit ?_
  repeat (first | refine exit_in ?_ | refine exit_then ?_ | refine exit_out (by decide) ?_)
  refine (then_normal ?_)
  refine wp_seq ?_
  refine st_mono S33 7 [?_, ?_, ?_, ?_, ?_, ?_, ?_] [(true, 6), (false, 5)] ⟨?_, ?_, ?_, ?_, ?_, ?_, ?_, trivial⟩ (L' := [(33, ?_), (2, ?_)]) ?_ fun a105 w106 S107 => ?_
  rotate_left 9
  · exact opV S33 fun c => run_v (run_move rfl) (c.q 4 rfl)
  · exact opV S33 fun c => addr_a4 rfl (c.q 6 rfl) (c.e 0 rfl) (by omega)
  · exact opP S33 fun c => ld_part (m := (mC (qs l) (k))) rfl (c.e 0 rfl) (bx.a4c (c.bx 1 rfl) l (by omega)) Tryz.underlying26 info_Rat
  · exact opV S33 fun c => run_v (run_move rfl) (c.q 3 rfl)
  · exact opV S33 fun c => addr_a4 rfl (c.q 6 rfl) (c.e 0 rfl) (by omega)
  · exact opP S33 fun c => ld_part (m := (mC (qs g) (k))) rfl (c.e 0 rfl) (bx.a4c (c.bx 1 rfl) g (by omega)) Tryz.underlying26 info_Rat
  · exact opP S33 fun c => bld_pair rfl (c.h 0 rfl) (c.h 1 rfl) (isC.cv (c.h 0 rfl)) (isC.cv (c.h 1 rfl))
  · rfl
  refine t_sto S107 1 0 0 rfl (fun h => (mP.cv (fun _ h => (isC.cv h)) (fun _ h => (isC.cv h)) h)) (fun w109 S110 => ?_) info_Interval
  refine wpList_nil (then_normal ?_)
  refine wp_ret ?_
  exact st_end S110 1 0 rfl Tryz.underlying37 info_Interval fun v h => (by have e := ext_end hp29 (by omega); rw [← e.1, ← e.2]; exact h)
end Go.Proofs.YtiljjhhkklnlgaaGreatDoor

namespace Go.Proofs.YtiljjhhkklnlgaaGreatDoor
open Go.RowKit Num

set_option maxRecDepth 100000
set_option maxHeartbeats 2000000
theorem iv_mul {p0 q0 : Rat} {k0 : Nat} {p1 q1 : Rat} {k1 : Nat} {v0 : Value} {v1 : Value} {w : World} {O : Bs} (hk0 : k0 ≤ 29999) (hk1 : k1 ≤ 29999) (pf0 : (mP (mR (p0) (k0)) (mR (q0) (k0))).S O w v0) (pf1 : (mP (mR (p1) (k1)) (mR (q1) (k1))).S O w v1) (hT : Tb w) (ho : OB O w) :
    Calls Tryz.prog 51 #[v0, v1] w (RetM (mP (mC (mn4 ((p0) * (p1)) ((p0) * (q1)) ((q0) * (p1)) ((q0) * (q1))) (k0 + k1 + 3)) (mC (mx4 ((p0) * (p1)) ((p0) * (q1)) ((q0) * (p1)) ((q0) * (q1))) (k0 + k1 + 3))) O w) := by
 refine st_start 27 Tryz.func51 [(mP (mR (p0) (k0)) (mR (q0) (k0))), (mP (mR (p1) (k1)) (mR (q1) (k1)))] ⟨pf0, pf1, trivial⟩ ho fun a S => ?_
 refine wp_seq ?_
 refine st_seq S 0 [] [(false, 0), (false, 1)] trivial (L' := [(0, ?_), (1, ?_)]) ?_ fun a1 w2 S3 => ?_
 rotate_left 2
 · rfl
 refine t_box S3 0 rfl (fun h => (mP.cv (fun _ h => (isR.cv h)) (fun _ h => (isR.cv h)) h)) fun O a5 w6 g7 S8 => ?_
 refine t_box S8 2 rfl (fun h => (mP.cv (fun _ h => (isR.cv h)) (fun _ h => (isR.cv h)) h)) fun O a9 w10 g11 S12 => ?_
 refine t_alloc S12 zero_Interval (fun _ _ _ => bx_Interval) fun O a13 w14 g15 S16 => ?_
 refine wpList_nil (then_normal ?_)
 refine wp_seq ?_
 refine st_mono S16 22 [?_, ?_, ?_, ?_, ?_, ?_, ?_, ?_, ?_, ?_, ?_, ?_, ?_, ?_, ?_, ?_, ?_, ?_, ?_, ?_, ?_, ?_] [(true, 21), (false, 0)] ⟨?_, ?_, ?_, ?_, ?_, ?_, ?_, ?_, ?_, ?_, ?_, ?_, ?_, ?_, ?_, ?_, ?_, ?_, ?_, ?_, ?_, ?_, trivial⟩ (L' := [(26, ?_), (4, ?_)]) ?_ fun a17 w18 S19 => ?_
 rotate_left 24
 · exact opV S16 fun c => fa_Interval_0 rfl (c.q 2 rfl)
 · exact opP S16 fun c => ld_part rfl (c.e 0 rfl) (c.bx 2 rfl).lo Tryz.underlying26 info_Rat
 · exact opV S16 fun c => fa_Interval_0 rfl (c.q 1 rfl)
 · exact opP S16 fun c => ld_part rfl (c.e 0 rfl) (c.bx 1 rfl).lo Tryz.underlying26 info_Rat
 · exact opC S16 rfl fun c B => ⟨_, args_2 rfl rfl, (c_mul (by omega) (by omega) (c.h 0 rfl) (c.h 1 rfl) (hT.below B))⟩
 · exact opV S16 fun c => fa_Interval_0 rfl (c.q 2 rfl)
 · exact opP S16 fun c => ld_part rfl (c.e 0 rfl) (c.bx 2 rfl).lo Tryz.underlying26 info_Rat
 · exact opV S16 fun c => fa_Interval_1 rfl (c.q 1 rfl)
 · exact opP S16 fun c => ld_part rfl (c.e 0 rfl) (c.bx 1 rfl).hi Tryz.underlying26 info_Rat
 · exact opC S16 rfl fun c B => ⟨_, args_2 rfl rfl, (c_mul (by omega) (by omega) (c.h 0 rfl) (c.h 1 rfl) (hT.below B))⟩
 · exact opV S16 fun c => fa_Interval_1 rfl (c.q 2 rfl)
 · exact opP S16 fun c => ld_part rfl (c.e 0 rfl) (c.bx 2 rfl).hi Tryz.underlying26 info_Rat
 · exact opV S16 fun c => fa_Interval_0 rfl (c.q 1 rfl)
 · exact opP S16 fun c => ld_part rfl (c.e 0 rfl) (c.bx 1 rfl).lo Tryz.underlying26 info_Rat
 · exact opC S16 rfl fun c B => ⟨_, args_2 rfl rfl, (c_mul (by omega) (by omega) (c.h 0 rfl) (c.h 1 rfl) (hT.below B))⟩
 · exact opV S16 fun c => fa_Interval_1 rfl (c.q 2 rfl)
 · exact opP S16 fun c => ld_part rfl (c.e 0 rfl) (c.bx 2 rfl).hi Tryz.underlying26 info_Rat
 · exact opV S16 fun c => fa_Interval_1 rfl (c.q 1 rfl)
 · exact opP S16 fun c => ld_part rfl (c.e 0 rfl) (c.bx 1 rfl).hi Tryz.underlying26 info_Rat
 · exact opC S16 rfl fun c B => ⟨_, args_2 rfl rfl, (c_mul (by omega) (by omega) (c.h 0 rfl) (c.h 1 rfl) (hT.below B))⟩
 · exact opP S16 fun c => bld_a4c rfl (c.h 0 rfl) (c.h 1 rfl) (c.h 2 rfl) (c.h 3 rfl)
 · exact opC S16 rfl fun c B => ⟨_, args_1 rfl, (iv_extremesC (qs := (qs4 ((p0) * (p1)) ((p0) * (q1)) ((q0) * (p1)) ((q0) * (q1)))) (k := k0 + k1 + 3) (by omega) (c.h 0 rfl) (hT.below B) c.ob)⟩
 · rfl
 refine t_sto S19 1 0 0 rfl (fun h => (mP.cv (fun _ h => (isC.cv h)) (fun _ h => (isC.cv h)) h)) (fun w21 S22 => ?_) info_Interval
 refine wpList_nil (then_normal ?_)
 refine wp_ret ?_
 exact st_end S22 1 0 rfl Tryz.underlying37 info_Interval fun v h => (mP_imp (fun _ h => (isC.mono h (by omega))) (fun _ h => (isC.mono h (by omega))) h)

theorem iv_div {p0 q0 : Rat} {k0 : Nat} {p1 q1 : Rat} {k1 : Nat} {v0 : Value} {v1 : Value} {w : World} {O : Bs} (hk0 : k0 ≤ 9999) (hk1 : k1 ≤ 9999) (pf0 : (mP (mR (p0) (k0)) (mR (q0) (k0))).S O w v0) (pf1 : (mP (mR (p1) (k1)) (mR (q1) (k1))).S O w v1) (hT : Tb w) (ho : OB O w) :
    Calls Tryz.prog 23 #[v0, v1] w (RetM (mT (mP (mE (mn4 (p0 * mnQ (((1 : Int) : Rat) / (p1)) (((1 : Int) : Rat) / (q1))) (p0 * mxQ (((1 : Int) : Rat) / (p1)) (((1 : Int) : Rat) / (q1))) (q0 * mnQ (((1 : Int) : Rat) / (p1)) (((1 : Int) : Rat) / (q1))) (q0 * mxQ (((1 : Int) : Rat) / (p1)) (((1 : Int) : Rat) / (q1)))) (sgE (p1) (q1)) (k0 + k1 + 8)) (mE (mx4 (p0 * mnQ (((1 : Int) : Rat) / (p1)) (((1 : Int) : Rat) / (q1))) (p0 * mxQ (((1 : Int) : Rat) / (p1)) (((1 : Int) : Rat) / (q1))) (q0 * mnQ (((1 : Int) : Rat) / (p1)) (((1 : Int) : Rat) / (q1))) (q0 * mxQ (((1 : Int) : Rat) / (p1)) (((1 : Int) : Rat) / (q1)))) (sgE (p1) (q1)) (k0 + k1 + 8))) (mV (.int .i64 (sgE (p1) (q1))))) O w) := by
 refine st_start 19 Tryz.func23 [(mP (mR (p0) (k0)) (mR (q0) (k0))), (mP (mR (p1) (k1)) (mR (q1) (k1)))] ⟨pf0, pf1, trivial⟩ ho fun a S => ?_
 refine wp_seq ?_
 refine st_seq S 0 [] [(false, 0), (false, 1)] trivial (L' := [(0, ?_), (1, ?_)]) ?_ fun a1 w2 S3 => ?_
 rotate_left 2
 · rfl
 refine t_box S3 0 rfl (fun h => (mP.cv (fun _ h => (isR.cv h)) (fun _ h => (isR.cv h)) h)) fun O a5 w6 g7 S8 => ?_
 refine t_box S8 2 rfl (fun h => (mP.cv (fun _ h => (isR.cv h)) (fun _ h => (isR.cv h)) h)) fun O a9 w10 g11 S12 => ?_
 refine t_alloc S12 zero_Interval (fun _ _ _ => bx_Interval) fun O a13 w14 g15 S16 => ?_
 refine t_asgC S16 fun a17 S18 => ?_
 refine wpList_nil (then_normal ?_)
 refine wp_seq ?_
 refine wp_seq ?_
 refine st_seq S18 3 [?_, ?_, ?_] [(true, 2), (false, 0), (false, 1), (false, 2), (false, 3)] ⟨?_, ?_, ?_, trivial⟩ (L' := [(8, ?_), (5, ?_), (4, ?_), (3, ?_), (2, ?_)]) ?_ fun a19 w20 S21 => ?_
 rotate_left 8
 · exact opL S18 1 Tryz.underlying37 info_Interval fun c => (c.q 2 rfl)
 · exact opC S18 rfl fun c B => ⟨_, args_1 rfl, (iv_sign  (by omega) (c.h 0 rfl) c.ob)⟩
 · exact opV S18 fun c => run_eql rfl (c.e 0 rfl) rfl
 · rfl
 refine wpList_nil (then_normal ?_)
 refine cond_b _ (ev (S21.sl 0 rfl)) (fun hb23 => ?_) (fun hb23 => ?_)
 ·have hb23p := of_decide_eq_true hb23
  refine wp_seq ?_
  refine st_seq S21 1 [?_] [(true, 0), (false, 1), (false, 2), (false, 3), (false, 4)] ⟨?_, trivial⟩ (L' := [(9, ?_), (5, ?_), (4, ?_), (3, ?_), (2, ?_)]) ?_ fun a24 w25 S26 => ?_
  rotate_left 6
  · exact opP S21 fun c => bld_z6 rfl
  · rfl
  refine t_sto S26 2 0 0 rfl (fun h => (mP.cv (fun _ h => (isZ.cv h)) (fun _ h => (isZ.cv h)) h)) (fun w28 S29 => ?_) info_Interval
  refine t_asgC S29 fun a30 S31 => ?_
  refine wpList_nil (then_normal ?_)
  refine wp_ret ?_
  exact st_end2 S31 2 0 0 rfl rfl Tryz.underlying37 info_Interval fun v u h h2 => ⟨v, u, rfl, (mP_imp (fun _ h => isZ.e (by rw [sgE_t hb23]; decide) h) (fun _ h => isZ.e (by rw [sgE_t hb23]; decide) h) h), (h2).trans (by first | rw [sgE_t (by assumption)] | rw [sgE_f (by assumption)])⟩
 ·have hb23p := of_decide_eq_false hb23
  refine wp_skip (then_normal ?_)
  refine wp_seq ?_
  refine st_mono S21 9 [?_, ?_, ?_, ?_, ?_, ?_, ?_, ?_, ?_] [(true, 8), (false, 1), (false, 2)] ⟨?_, ?_, ?_, ?_, ?_, ?_, ?_, ?_, ?_, trivial⟩ (L' := [(18, ?_), (5, ?_), (4, ?_)]) ?_ fun a32 w33 S34 => ?_
  rotate_left 12
  · exact opL S21 2 Tryz.underlying37 info_Interval fun c => (c.q 4 rfl)
  · exact opV S21 fun c => fa_Interval_0 rfl (c.q 3 rfl)
  · exact opP S21 fun c => ld_part rfl (c.e 0 rfl) (c.bx 1 rfl).lo Tryz.underlying26 info_Rat
  · exact opC S21 rfl fun c B => ⟨_, args_1 rfl, (iv_inverse  (by omega) (c.h 0 rfl) (hT.below B) c.ob)⟩
  · exact opV S21 fun c => fa_Interval_1 rfl (c.q 3 rfl)
  · exact opP S21 fun c => ld_part rfl (c.e 0 rfl) (c.bx 1 rfl).hi Tryz.underlying26 info_Rat
  · exact opC S21 rfl fun c B => ⟨_, args_1 rfl, (iv_inverse  (by omega) (c.h 0 rfl) (hT.below B) c.ob)⟩
  · exact opP S21 fun c => bld_pair rfl (c.h 0 rfl) (c.h 1 rfl) (isR.cv (c.h 0 rfl)) (isR.cv (c.h 1 rfl))
  · exact opC S21 rfl fun c B => ⟨_, args_2 rfl rfl, (iv_mul  (by omega) (by omega) (c.h 0 rfl) (c.h 1 rfl) (hT.below B) c.ob)⟩
  · rfl
  refine t_sto S34 2 0 0 rfl (fun h => (mP.cv (fun _ h => (isC.cv h)) (fun _ h => (isC.cv h)) h)) (fun w36 S37 => ?_) info_Interval
  refine t_asgC S37 fun a38 S39 => ?_
  refine wpList_nil (then_normal ?_)
  refine wp_ret ?_
  exact st_end2 S39 2 0 0 rfl rfl Tryz.underlying37 info_Interval fun v u h h2 => ⟨v, u, rfl, (mP_imp (fun _ h => isE.mono (isC.e (sgE_f hb23) (isC.of h mn4_ord)) (by omega)) (fun _ h => isE.mono (isC.e (sgE_f hb23) (isC.of h mx4_ord)) (by omega)) h), (h2).trans (by first | rw [sgE_t (by assumption)] | rw [sgE_f (by assumption)])⟩
end Go.Proofs.YtiljjhhkklnlgaaGreatDoor
