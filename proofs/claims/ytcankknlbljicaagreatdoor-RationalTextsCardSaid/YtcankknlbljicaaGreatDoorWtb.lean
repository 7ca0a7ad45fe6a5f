/-  -/
import Derived.Test.YtcankknlbljicaaGreatDoorWta

set_option linter.unusedVariables false
set_option linter.unusedSimpArgs false
set_option linter.unusedSectionVars false
set_option maxRecDepth 100000
set_option maxHeartbeats 3200000

namespace Go.Proofs.YtcankknlbljicaaGreatDoor
open Go.RowKit Num

variable {O : Bs}
theorem isR.szs {q : Rat} {k : Nat} {w : World} {v : Value} (h : isR q k w v) : Sz q (k + 1) := by
  obtain ⟨b, ao, c, xs, ad, d, ds, rfl, h1⟩ := h
  exact h1.sz
theorem fmt_pre {q : Rat} {k : Nat} (h : Sz q k) (hk : k ≤ 1073741824) : (nd q.num.natAbs).length ≤ k ∧ (nd q.den).length ≤ k ∧ (fmtL q.num).length ≤ 10737418241 ∧ (decT q.den).length ≤ 10737418240 := by
  have h1 := fmtL_size (z := q.num) (wf_nd _) (Nat.le_trans h.1 hk) (val_nd _)
  have h2 := fmt_size (wf_nd q.den) (Nat.le_trans h.2 hk)
  rw [bstr_size] at h1
  rw [val_nd, fmtS, bstr_size] at h2
  exact ⟨h.1, h.2, h1, h2⟩
theorem den_cond (q : Rat) : ((decide ((((nd (q).den).length : Nat) : Int) ≠ (1))) || (decide (((((nd (q).den).getD 0 0 : Nat) : Int)) ≠ (1)))) = decide (q.den ≠ 1) := by
  have h1 := val_nd q.den
  by_cases h : q.den = 1
  · rw [h, show nd 1 = [1] by decide +kernel]; rfl
  · rw [decide_eq_true h]
    by_cases hl : (nd q.den).length = 1
    · obtain ⟨x, hx⟩ := List.length_eq_one_iff.1 hl
      rw [hx] at h1 ⊢
      have h2 : x ≠ 1 := fun e => h (by rw [← h1, e]; decide +kernel)
      rw [Bool.or_eq_true]
      refine Or.inr (decide_eq_true ?_)
      show ((x : Nat) : Int) ≠ 1
      omega
    · rw [Bool.or_eq_true]
      exact Or.inl (decide_eq_true (by omega))
theorem fmtQ_n {q : Rat} (h : q.den ≠ 1) : fmtQ q = fmtL q.num ++ ([47] ++ decT q.den) := by unfold fmtQ; rw [if_neg h]; rfl
theorem fmtQ_e {q : Rat} (h : ¬ q.den ≠ 1) : fmtQ q = fmtL q.num := by unfold fmtQ; rw [if_pos (by omega), List.append_nil]
set_option maxRecDepth 100000
set_option maxHeartbeats 2000000
theorem r_fmt {q : Rat} {k : Nat} {v0 : Value} {w : World} {O : Bs} (hk : k ≤ 1073741000) (pf0 : (mR (q) (k)).S O w v0) (ho : OB O w) :
    Calls Tryz.prog 18 #[v0] w (RetM (mV (.string (bstr (fmtQ q)))) O w) := by
 refine st_start 27 Tryz.func18 [(mR (q) (k))] ⟨pf0, trivial⟩ ho fun a S => ?_
 have hsz := isR.szs pf0
 obtain ⟨hn1, hd1, hn2, hd2⟩ := fmt_pre hsz (by omega)
 refine wp_seq ?_
 refine st_seq S 0 [] [(false, 0)] trivial (L' := [(0, ?_)]) ?_ fun a1 w2 S3 => ?_
 rotate_left 1
 · rfl
 refine t_box S3 0 rfl isR.cv fun O a5 w6 g7 S8 => ?_
 refine t_asgC S8 fun a9 S10 => ?_
 refine wpList_nil (then_normal ?_)
 refine wp_seq ?_
 refine st_seq S10 2 [?_, ?_] [(true, 1), (false, 0), (false, 1)] ⟨?_, ?_, trivial⟩ (L' := [(5, ?_), (2, ?_), (1, ?_)]) ?_ fun a11 w12 S13 => ?_
 rotate_left 5
 · exact opL S10.r 0 Tryz.underlying26 info_Rat fun c => (c.q 1 rfl)
 · exact opC S10.r rfl fun c B => ⟨_, args_1 rfl, (r_trim (by omega) (c.h 0 rfl))⟩
 · rfl
 refine t_sto S13 2 0 0 rfl isC.cv (fun w15 S16 => ?_) info_Rat
 refine wpList_nil (then_normal ?_)
 refine wp_seq ?_
 refine st_seq S16 3 [?_, ?_, ?_] [(true, 2), (false, 1), (false, 2)] ⟨?_, ?_, ?_, trivial⟩ (L' := [(8, ?_), (2, ?_), (1, ?_)]) ?_ fun a17 w18 S19 => ?_
 rotate_left 6
 · exact opV S16.r fun c => fa_Rat_0 rfl (c.q 2 rfl)
 · exact opP S16.r fun c => ld_num (c.bx 0 rfl) (c.e 0 rfl)
 · exact opC S16.r rfl fun c B => ⟨_, args_1 rfl, (r_ifmt (by omega) (c.h 0 rfl))⟩
 · rfl
 refine t_asg S19 0 fun a21 S22 => ?_
 refine wpList_nil (then_normal ?_)
 refine wp_seq ?_
 refine wp_seq ?_
 refine st_seq S22 11 [?_, ?_, ?_, ?_, ?_, ?_, ?_, ?_, ?_, ?_, ?_] [(true, 10), (false, 0), (false, 2), (false, 3)] ⟨?_, ?_, ?_, ?_, ?_, ?_, ?_, ?_, ?_, ?_, ?_, trivial⟩ (L' := [(19, ?_), (3, ?_), (2, ?_), (1, ?_)]) ?_ fun a23 w24 S25 => ?_
 rotate_left 15
 · exact opV S22.r fun c => fa_Rat_1 rfl (c.q 3 rfl)
 · exact opP S22.r fun c => ld_den (c.bx 0 rfl) (c.e 0 rfl)
 · exact opV S22.r fun c => len_d (c.h 0 rfl)
 · exact opV S22.r fun c => run_neq rfl (c.e 0 rfl) rfl
 · exact opV S22.r fun c => run_v (run_move rfl) (c.e 0 rfl)
 · exact opG S22.r 0 (fun hγ => opV S22.r fun c => fa_Rat_1 rfl (c.q 3 rfl)) gF
 · exact opG S22.r 1 (fun hγ => opP S22.r fun c => ld_den (c.bx 0 rfl) (ev (c.h 0 rfl hγ))) gF
 · exact opG S22.r 1 (fun hγ => opP S22.r fun c => ix_d 0 (c.h 0 rfl hγ) rfl (by have := of_decide_eq_false (Bool.not_eq_true' _ |>.mp hγ); omega)) gF
 · exact opG S22.r 1 (fun hγ => opV S22.r fun c => ld_u (c.h 0 rfl hγ)) gF
 · exact opG S22.r 1 (fun hγ => opV S22.r fun c => run_neq rfl (ev (c.h 0 rfl hγ)) rfl) gF
 · exact opE S22.r fun c => run_be (y := decide (q.den ≠ 1)) (⟨_, run_pick rfl (c.e 0 rfl), pick_or fun h => (c.h 1 rfl) (by rw [h]; rfl)⟩) (den_cond q)
 · rfl
 refine wpList_nil (then_normal ?_)
 refine cond_b _ (ev (S25.sl 0 rfl)) (fun hb27 => ?_) (fun hb27 => ?_)
 ·have hb27p := of_decide_eq_true hb27
  refine st_seq S25 6 [?_, ?_, ?_, ?_, ?_, ?_] [(true, 5), (false, 1), (false, 2)] ⟨?_, ?_, ?_, ?_, ?_, ?_, trivial⟩ (L' := [(25, ?_), (3, ?_), (2, ?_)]) ?_ fun a28 w29 S30 => ?_
  rotate_left 9
  · exact opV S25.r fun c => run_v (run_move rfl) (c.q 1 rfl)
  · exact opV S25.r fun c => fa_Rat_1 rfl (c.q 3 rfl)
  · exact opP S25.r fun c => ld_den (c.bx 0 rfl) (c.e 0 rfl)
  · exact opC S25.r rfl fun c B => ⟨_, args_1 rfl, (r_nfmt (by omega) (c.h 0 rfl))⟩
  · exact opV S25.r fun c => run_sadd (a := [47]) (b := decT ((q).den)) rfl rfl (c.e 0 rfl) (by simp only [List.length_append, List.length_cons, List.length_nil]; omega)
  · exact opV S25.r fun c => run_sadd (a := fmtL ((q).num)) (b := ([47]) ++ (decT ((q).den))) rfl (c.e 0 rfl) (c.e 1 rfl) (by simp only [List.length_append, List.length_cons, List.length_nil]; omega)
  · rfl
  refine t_asg S30 0 fun a32 S33 => ?_
  refine wpList_nil (then_normal ?_)
  refine wp_seq ?_
  refine st_seq S33 1 [?_] [(true, 0), (false, 2)] ⟨?_, trivial⟩ (L' := [(26, ?_), (2, ?_)]) ?_ fun a34 w35 S36 => ?_
  rotate_left 3
  · exact opV S33.r fun c => run_v (run_move rfl) (c.q 0 rfl)
  · rfl
  refine t_asg S36 0 fun a38 S39 => ?_
  refine wpList_nil (then_normal ?_)
  refine wp_ret ?_
  exact st_endT S39 0 rfl fun v h => (h.trans (by rw [fmtQ_n hb27p]))
 ·have hb27p := of_decide_eq_false hb27
  refine wp_skip (then_normal ?_)
  refine wp_seq ?_
  refine st_seq S25 1 [?_] [(true, 0), (false, 2)] ⟨?_, trivial⟩ (L' := [(26, ?_), (2, ?_)]) ?_ fun a40 w41 S42 => ?_
  rotate_left 3
  · exact opV S25.r fun c => run_v (run_move rfl) (c.q 1 rfl)
  · rfl
  refine t_asg S42 0 fun a44 S45 => ?_
  refine wpList_nil (then_normal ?_)
  refine wp_ret ?_
  exact st_endT S45 0 rfl fun v h => (h.trans (by rw [fmtQ_e hb27p]))
end Go.Proofs.YtcankknlbljicaaGreatDoor

namespace Go.Proofs.YtcankknlbljicaaGreatDoor
open Go.RowKit Num

variable {O : Bs}
theorem or57 {eb : Int} {V : Nat} (h : ((decide ((eb) ≠ (0))) || (decide ((((nd V).length : Nat) : Int) = (0)))) = true) : eb ≠ 0 ∨ V = 0 := by
  rcases Bool.or_eq_true _ _ |>.mp h with h | h
  · exact Or.inl (of_decide_eq_true h)
  · exact Or.inr (nd_eq_nil.1 (List.eq_nil_of_length_eq_zero (by have := of_decide_eq_true h; omega)))
theorem or57f {eb : Int} {V : Nat} (h : ((decide ((eb) ≠ (0))) || (decide ((((nd V).length : Nat) : Int) = (0)))) = false) : eb = 0 ∧ V ≠ 0 := by
  obtain ⟨h1, h2⟩ := Bool.or_eq_false_iff.mp h
  refine ⟨by have := of_decide_eq_false h1; omega, fun e => of_decide_eq_false h2 ?_⟩
  rw [e, nd_zero]; rfl
theorem or69 {cn : Bool} {p c : Prop} [Decidable p] (h : ((!(cn)) || (!(decide p))) = true) (hb : cn = true → (p ↔ c)) : ¬ (cn = true ∧ c) := by
  rintro ⟨h1, h2⟩
  have := (hb h1).2 h2
  simp [h1, this] at h
theorem or69f {cn : Bool} {p : Prop} [Decidable p] (h : ((!(cn)) || (!(decide p))) = false) : cn = true ∧ p := by
  simpa using h
set_option maxRecDepth 100000
set_option maxHeartbeats 2000000
theorem r_parse0 {bs pa ra : List Nat} {f cn : Bool} {z ea eb er : Int} {V : Nat} {q : Rat}  {w : World} {O : Bs} (hb : ∀ b ∈ bs, b < 256) (hl : bs.length ≤ 4096) (hc : CutS bs pa ra f) (hi : IParsed pa z ea) (hp : Parsed ra V eb) (hcn : cn = true ↔ canon (decide (z < 0)) (nd z.natAbs) (nd V)) (H1 : ea ≠ 0 → er = 6) (H2 : ea = 0 → f = true → (eb ≠ 0 ∨ V = 0) → er = 6) (H3 : ea = 0 → f = true → eb = 0 → cn = true → V ≠ 1 → er = 0 ∧ q.num = z ∧ q.den = V) (H3b : ea = 0 → f = true → eb = 0 → V ≠ 0 → ¬ (cn = true ∧ V ≠ 1) → er = 6) (H4 : ea = 0 → f = false → er = 0 ∧ q.num = z ∧ q.den = 1)  (ho : OB O w) :
    Calls Tryz.prog 15 #[.string (bstr bs)] w (RetM (mT (mE (q) (er) 4096) (mV (.int .i64 (er)))) O w) := by
 refine st_start 72 Tryz.func15 [(mV (.string (bstr bs)))] ⟨rfl, trivial⟩ ho fun a S => ?_
 have hlen := cutS_len hc
 have hin := cutS_in hc hb
 have hVl := parsed_small hp (by omega)
 refine wp_seq ?_
 refine st_seq S 0 [] [(false, 0)] trivial (L' := [(0, ?_)]) ?_ fun a1 w2 S3 => ?_
 rotate_left 1
 · rfl
 refine t_alloc S3 zero_Rat (fun _ _ _ => bx_Rat) fun O a5 w6 g7 S8 => ?_
 refine t_asgC S8 fun a9 S10 => ?_
 refine wpList_nil (then_normal ?_)
 refine wp_seq ?_
 refine wp_seq ?_
 refine st_seq S10 3 [?_, ?_, ?_] [(true, 2), (false, 0), (false, 1), (false, 2)] ⟨?_, ?_, ?_, trivial⟩ (L' := [(12, ?_), (3, ?_), (2, ?_), (0, ?_)]) ?_ fun a11 w12 S13 => ?_
 rotate_left 7
 · exact opV S10.r fun c => run_v (run_move rfl) (c.q 2 rfl)
 · exact opV S10.r fun c => run_slen rfl (c.e 0 rfl) Tryz.underlying9
 · exact opV S10.r fun c => run_gtr rfl (c.e 0 rfl) rfl
 · rfl
 refine wpList_nil (then_normal ?_)
 refine cond_b _ (ev (S13.sl 0 rfl)) (fun hb15 => ?_) (fun hb15 => ?_)
 · exact absurd hb15 (by rw [decide_eq_true_eq]; omega)
 ·have hb15p := of_decide_eq_false hb15
  refine wp_skip (then_normal ?_)
  refine wp_seq ?_
  refine st_seq S13 0 [] [(false, 1), (false, 2), (false, 3)] trivial (L' := [(3, ?_), (2, ?_), (0, ?_)]) ?_ fun a16 w17 S18 => ?_
  rotate_left 3
  · rfl
  refine t_asgC S18 fun a20 S21 => ?_
  refine wpList_nil (then_normal ?_)
  refine wp_seq ?_
  refine wp_block ?_
  refine st_loop (τ := Nat) (fun k => [(4, (mV (.int .i64 ((k : Nat) : Int)))), (3, (mV (.int .i64 (0)))), (2, (mV (.pointer (some ⟨g7, 0, none⟩)))), (0, (mV (.string (bstr bs))))]) (fun k => [.box g7 26 3 mTop]) (fun k => k ≤ pa.length) (fun k => pa.length - k) 0 (by omega) (S21.toX ⟨S21.sl 0 rfl, S21.sl 1 rfl, S21.sl 2 rfl, S21.sl 3 rfl, trivial⟩ ⟨S21.f 0 rfl, trivial⟩) ?_
  rintro k O a24 w25 hp26 S27
  try dsimp only at hp26 S27
  refine wp_seq ?_
  refine wp_seq ?_
  refine st_seq S27 10 [?_, ?_, ?_, ?_, ?_, ?_, ?_, ?_, ?_, ?_] [(true, 9), (false, 0), (false, 1), (false, 2), (false, 3)] ⟨?_, ?_, ?_, ?_, ?_, ?_, ?_, ?_, ?_, ?_, trivial⟩ (L' := [(23, ?_), (4, ?_), (3, ?_), (2, ?_), (0, ?_)]) ?_ fun a28 w29 S30 => ?_
  rotate_left 15
  · exact opV S27.r fun c => run_v (run_move rfl) (c.q 0 rfl)
  · exact opV S27.r fun c => run_v (run_move rfl) (c.q 3 rfl)
  · exact opV S27.r fun c => run_slen rfl (c.e 0 rfl) Tryz.underlying9
  · exact opV S27.r fun c => run_lss rfl (c.e 0 rfl) (c.e 1 rfl)
  · exact opV S27.r fun c => run_v (run_move rfl) (c.e 0 rfl)
  · exact opG S27.r 0 (fun hγ => opV S27.r fun c => run_v (run_move rfl) (c.q 3 rfl)) gT
  · exact opG S27.r 0 (fun hγ => opV S27.r fun c => run_v (run_move rfl) (c.q 0 rfl)) gT
  · exact opG S27.r 2 (fun hγ => opV S27.r fun c => run_sidx k rfl (ev (c.h 0 rfl hγ)) (ev (c.h 1 rfl hγ)) Tryz.underlying9 (by have := of_decide_eq_true hγ; omega) hb) gT
  · exact opG S27.r 1 (fun hγ => opV S27.r fun c => run_neq rfl (ev (c.h 0 rfl hγ)) rfl) gT
  · exact opE S27.r fun c => run_be (y := decide (k < pa.length)) (⟨_, run_pick rfl (c.e 0 rfl), pick_and (c.h 1 rfl)⟩) (slash_cond hc (by omega))
  · rfl
  refine wpList_nil (then_normal ?_)
  refine cond_b _ (ev (S30.sl 0 rfl)) (fun hb32 => ?_) (fun hb32 => ?_)
  ·have hb32p := of_decide_eq_true hb32
   refine wp_skip (then_normal ?_)
   refine wp_block ?_
   refine st_seq S30 2 [?_, ?_] [(true, 1), (false, 1), (false, 2), (false, 3), (false, 4)] ⟨?_, ?_, trivial⟩ (L' := [(25, ?_), (4, ?_), (3, ?_), (2, ?_), (0, ?_)]) ?_ fun a33 w34 S35 => ?_
   rotate_left 7
   · exact opV S30.r fun c => run_v (run_move rfl) (c.q 1 rfl)
   · exact opV S30.r fun c => run_add rfl (c.e 0 rfl) rfl (by omega) (by omega)
   · rfl
   refine t_asg S35 0 fun a37 S38 => ?_
   refine wpList_nil (in_normal (then_normal ?_))
   exact ⟨k + 1, (by first | omega | (dsimp only; omega)), (by first | omega | (dsimp only; omega)), _, S38.toX ⟨(S38.sl 0 rfl).trans (by first | rfl | exact congrArg _ (by omega)), S38.sl 2 rfl, S38.sl 3 rfl, S38.sl 4 rfl, trivial⟩ ⟨S38.f 0 rfl, trivial⟩⟩
  ·have hb32p := of_decide_eq_false hb32
   refine wp_exit ?_
   repeat (first | refine exit_in ?_ | refine exit_then ?_ | refine exit_out (by decide) ?_)
   refine (then_normal ?_)
   refine wp_seq ?_
   refine st_seq S30 7 [?_, ?_, ?_, ?_, ?_, ?_, ?_] [(true, 5), (true, 6), (false, 1), (false, 2), (false, 3), (false, 4)] ⟨?_, ?_, ?_, ?_, ?_, ?_, ?_, trivial⟩ (L' := [(31, ?_), (32, ?_), (4, ?_), (3, ?_), (2, ?_), (0, ?_)]) ?_ fun a39 w40 S41 => ?_
   rotate_left 13
   · exact opV S30.r fun c => run_v (run_move rfl) (c.q 4 rfl)
   · exact opV S30.r fun c => run_v (run_move rfl) (c.q 1 rfl)
   · exact opV S30.r fun c => run_v (run_sslH (k) rfl (c.e 0 rfl) (c.e 1 rfl) Tryz.underlying9 (by rw [bstr_size]; omega)) (cutS_lo hc (by omega))
   · exact opC S30.r rfl fun c B => ⟨_, args_1 (c.e 0 rfl), (r_iparse hin.1 (by omega) hi)⟩
   · exact opP S30.r fun c => ⟨_, run_move rfl, (c.h 0 rfl)⟩
   · exact opP S30.r fun c => ext_0 rfl (c.h 0 rfl)
   · exact opP S30.r fun c => ext_1 rfl (c.h 0 rfl)
   · rfl
   refine t_alloc S41 zero_Int (fun _ _ _ => bx_Int) fun O a43 w44 g45 S46 => ?_
   refine t_sto S46 0 1 0 rfl isNz.cv (fun w47 S48 => ?_) info_Int
   refine t_asg S48 2 fun a49 S50 => ?_
   refine wpList_nil (then_normal ?_)
   refine wp_seq ?_
   refine wp_seq ?_
   refine st_seq S50 2 [?_, ?_] [(true, 1), (false, 1), (false, 4), (false, 5), (false, 6), (false, 7)] ⟨?_, ?_, trivial⟩ (L' := [(34, ?_), (5, ?_), (4, ?_), (3, ?_), (2, ?_), (0, ?_)]) ?_ fun a51 w52 S53 => ?_
   rotate_left 8
   · exact opV S50.r fun c => run_v (run_move rfl) (c.q 0 rfl)
   · exact opV S50.r fun c => run_neq rfl (c.e 0 rfl) rfl
   · rfl
   refine wpList_nil (then_normal ?_)
   refine cond_b _ (ev (S53.sl 0 rfl)) (fun hb55 => ?_) (fun hb55 => ?_)
   ·have hb55p := of_decide_eq_true hb55
    have her := H1 (of_decide_eq_true hb55)
    refine wp_seq ?_
    refine st_seq S53 1 [?_] [(true, 0), (false, 1), (false, 2), (false, 3), (false, 4), (false, 5)] ⟨?_, trivial⟩ (L' := [(35, ?_), (5, ?_), (4, ?_), (3, ?_), (2, ?_), (0, ?_)]) ?_ fun a56 w57 S58 => ?_
    rotate_left 7
    · exact opP S53.r fun c => bld_z3 rfl
    · rfl
    refine t_sto S58 4 0 1 rfl isZ.cv (fun w60 S61 => ?_) info_Rat
    refine t_asgC S61 fun a62 S63 => ?_
    refine wpList_nil (then_normal ?_)
    refine wp_ret ?_
    exact st_end2 S63 4 1 0 rfl rfl Tryz.underlying26 info_Rat fun v u h h2 => ⟨v, u, rfl, (isZ.e (by omega) h), (h2.trans (by rw [her]))⟩
   ·have hb55p := of_decide_eq_false hb55
    obtain rfl : ea = 0 := by have := of_decide_eq_false hb55; omega
    refine wp_skip (then_normal ?_)
    refine wp_seq ?_
    refine st_seq S53 3 [?_, ?_, ?_] [(true, 2), (false, 2), (false, 3), (false, 4), (false, 5)] ⟨?_, ?_, ?_, trivial⟩ (L' := [(38, ?_), (4, ?_), (3, ?_), (2, ?_), (0, ?_)]) ?_ fun a64 w65 S66 => ?_
    rotate_left 8
    · exact opL S53.r 0 Tryz.underlying24 info_Int fun c => (c.q 1 rfl)
    · exact opN S53.r fun c => lit_U1
    · exact opP S53.r fun c => bld_Q (by omega) rfl (c.h 0 rfl) (c.h 1 rfl)
    · rfl
    refine t_alloc S66 zero_Rat (fun _ _ _ => bx_Rat) fun O a68 w69 g70 S71 => ?_
    refine t_sto S71 0 1 0 rfl isQz.cv (fun w72 S73 => ?_) info_Rat
    refine wpList_nil (then_normal ?_)
    refine wp_seq ?_
    refine wp_seq ?_
    refine st_seq S73 4 [?_, ?_, ?_, ?_] [(true, 3), (false, 0), (false, 2), (false, 3), (false, 4), (false, 5)] ⟨?_, ?_, ?_, ?_, trivial⟩ (L' := [(42, ?_), (7, ?_), (4, ?_), (3, ?_), (2, ?_), (0, ?_)]) ?_ fun a74 w75 S76 => ?_
    rotate_left 10
    · exact opV S73.r fun c => run_v (run_move rfl) (c.q 2 rfl)
    · exact opV S73.r fun c => run_v (run_move rfl) (c.q 5 rfl)
    · exact opV S73.r fun c => run_slen rfl (c.e 0 rfl) Tryz.underlying9
    · exact opV S73.r fun c => run_lss rfl (c.e 0 rfl) (c.e 1 rfl)
    · rfl
    refine wpList_nil (then_normal ?_)
    refine cond_b _ (ev (S76.sl 0 rfl)) (fun hb78 => ?_) (fun hb78 => ?_)
    ·have hb78p := of_decide_eq_true hb78
     have hft : f = true := by rw [cutS_f hc]; exact decide_eq_true (by have := of_decide_eq_true hb78; omega)
     refine wp_seq ?_
     refine st_seq S76 8 [?_, ?_, ?_, ?_, ?_, ?_, ?_, ?_] [(true, 6), (true, 7), (false, 1), (false, 3), (false, 4), (false, 5)] ⟨?_, ?_, ?_, ?_, ?_, ?_, ?_, ?_, trivial⟩ (L' := [(49, ?_), (50, ?_), (7, ?_), (3, ?_), (2, ?_), (0, ?_)]) ?_ fun a79 w80 S81 => ?_
     rotate_left 14
     · exact opV S76.r fun c => run_v (run_move rfl) (c.q 5 rfl)
     · exact opV S76.r fun c => run_v (run_move rfl) (c.q 2 rfl)
     · exact opV S76.r fun c => run_add rfl (c.e 0 rfl) rfl (by omega) (by omega)
     · exact opV S76.r fun c => run_v (run_sslL (k + 1) rfl (c.e 0 rfl) (intN (n := k + 1) (c.e 1 rfl) (by omega)) Tryz.underlying9 (by rw [bstr_size]; omega)) (cutS_hi hc hft (by omega))
     · exact opC S76.r rfl fun c B => ⟨_, args_1 (c.e 0 rfl), (r_nparse hin.2 (by omega) hp)⟩
     · exact opP S76.r fun c => ⟨_, run_move rfl, (c.h 0 rfl)⟩
     · exact opP S76.r fun c => ext_0 rfl (c.h 0 rfl)
     · exact opP S76.r fun c => ext_1 rfl (c.h 0 rfl)
     · rfl
     refine t_asg S81 0 fun a83 S84 => ?_
     refine t_asg S84 2 fun a85 S86 => ?_
     refine wpList_nil (then_normal ?_)
     refine wp_seq ?_
     refine wp_seq ?_
     refine st_seq S86 7 [?_, ?_, ?_, ?_, ?_, ?_, ?_] [(true, 6), (false, 1), (false, 4), (false, 5), (false, 6), (false, 7)] ⟨?_, ?_, ?_, ?_, ?_, ?_, ?_, trivial⟩ (L' := [(57, ?_), (8, ?_), (7, ?_), (3, ?_), (2, ?_), (0, ?_)]) ?_ fun a87 w88 S89 => ?_
     rotate_left 13
     · exact opV S86.r fun c => run_v (run_move rfl) (c.q 0 rfl)
     · exact opV S86.r fun c => run_neq rfl (c.e 0 rfl) rfl
     · exact opV S86.r fun c => run_v (run_move rfl) (c.e 0 rfl)
     · exact opG S86.r 0 (fun hγ => opP S86.r fun c => ⟨_, run_move rfl, (c.o 1 rfl)⟩) gF
     · exact opG S86.r 1 (fun hγ => opV S86.r fun c => len_d (c.h 0 rfl hγ)) gF
     · exact opG S86.r 1 (fun hγ => opV S86.r fun c => run_eql rfl (ev (c.h 0 rfl hγ)) rfl) gF
     · exact opE S86.r fun c => ⟨_, run_pick rfl (c.e 0 rfl), pick_or fun h => (c.h 1 rfl) (by rw [h]; rfl)⟩
     · rfl
     refine wpList_nil (then_normal ?_)
     refine cond_b _ (ev (S89.sl 0 rfl)) (fun hb91 => ?_) (fun hb91 => ?_)
     ·have her := H2 rfl hft (or57 hb91)
      refine wp_seq ?_
      refine st_seq S89 1 [?_] [(true, 0), (false, 1), (false, 2), (false, 3), (false, 4), (false, 5)] ⟨?_, trivial⟩ (L' := [(58, ?_), (8, ?_), (7, ?_), (3, ?_), (2, ?_), (0, ?_)]) ?_ fun a92 w93 S94 => ?_
      rotate_left 7
      · exact opP S89.r fun c => bld_z3 rfl
      · rfl
      refine t_sto S94 4 0 2 rfl isZ.cv (fun w96 S97 => ?_) info_Rat
      refine t_asgC S97 fun a98 S99 => ?_
      refine wpList_nil (then_normal ?_)
      refine wp_ret ?_
      exact st_end2 S99 4 2 0 rfl rfl Tryz.underlying26 info_Rat fun v u h h2 => ⟨v, u, rfl, (isZ.e (by omega) h), (h2.trans (by rw [her]))⟩
     ·obtain ⟨rfl, hV0⟩ := or57f hb91
      refine wp_skip (then_normal ?_)
      refine st_seq S89 2 [?_, ?_] [(true, 0), (true, 1), (false, 2), (false, 3), (false, 4), (false, 5)] ⟨?_, ?_, trivial⟩ (L' := [(59, ?_), (60, ?_), (7, ?_), (3, ?_), (2, ?_), (0, ?_)]) ?_ fun a100 w101 S102 => ?_
      rotate_left 8
      · exact opP S89.r fun c => ⟨_, run_move rfl, (c.o 1 rfl)⟩
      · exact opV S89.r fun c => fa_Rat_1 rfl (c.q 2 rfl)
      · rfl
      refine t_sto_den S102 1 0 0 (by omega) rfl rfl rfl fun w104 S105 => ?_
      refine wpList_nil (then_normal ?_)
      refine wp_seq ?_
      refine wp_seq ?_
      refine st_seq S105 9 [?_, ?_, ?_, ?_, ?_, ?_, ?_, ?_, ?_] [(true, 8), (false, 2), (false, 3), (false, 4)] ⟨?_, ?_, ?_, ?_, ?_, ?_, ?_, ?_, ?_, trivial⟩ (L' := [(69, ?_), (7, ?_), (3, ?_), (2, ?_)]) ?_ fun a106 w107 S108 => ?_
      rotate_left 13
      · exact opL S105.r 0 Tryz.underlying26 info_Rat fun c => (c.q 2 rfl)
      · exact opC S105.r rfl fun c B => ⟨_, args_1 rfl, (r_validK (by omega) (isQz.k (c.h 0 rfl) cn hcn))⟩
      · exact opV S105.r fun c => run_not rfl (c.e 0 rfl)
      · exact opV S105.r fun c => run_v (run_move rfl) (c.e 0 rfl)
      · exact opG S105.r 0 (fun hγ => opL S105.r 0 Tryz.underlying26 info_Rat fun c => (c.q 2 rfl)) gF
      · exact opG S105.r 1 (fun hγ => opC S105.r rfl fun c B => ⟨_, args_1 rfl, (r_fmt (by omega) (isQz.k (c.h 0 rfl hγ) cn hcn).r (S105.obc c.wb))⟩) gF
      · exact opG S105.r 0 (fun hγ => opV S105.r fun c => run_v (run_move rfl) (c.q 5 rfl)) gF
      · exact opG S105.r 2 (fun hγ => opV S105.r fun c => run_sneq (a := fmtQ (rv (decide (z < 0)) z.natAbs V)) (b := bs) rfl (ev (c.h 0 rfl hγ)) (ev (c.h 1 rfl hγ)) (fmtQ_lt _) hb) gF
      · exact opE S105.r fun c => ⟨_, run_pick rfl (c.e 0 rfl), pick_or fun h => (c.h 1 rfl) (by rw [h]; rfl)⟩
      · rfl
      refine wpList_nil (then_normal ?_)
      refine cond_b _ (ev (S108.sl 0 rfl)) (fun hb110 => ?_) (fun hb110 => ?_)
      ·have her := H3b rfl hft rfl hV0 (or69 hb110 fun h => fmt_back hc hft hi hp (hcn.1 h))
       refine wp_seq ?_
       refine st_seq S108 1 [?_] [(true, 0), (false, 1), (false, 2), (false, 3)] ⟨?_, trivial⟩ (L' := [(70, ?_), (7, ?_), (3, ?_), (2, ?_)]) ?_ fun a111 w112 S113 => ?_
       rotate_left 5
       · exact opP S108.r fun c => bld_z3 rfl
       · rfl
       refine t_sto S113 3 0 2 rfl isZ.cv (fun w115 S116 => ?_) info_Rat
       refine t_asgC S116 fun a117 S118 => ?_
       refine wpList_nil (then_normal ?_)
       refine wp_ret ?_
       exact st_end2 S118 3 2 0 rfl rfl Tryz.underlying26 info_Rat fun v u h h2 => ⟨v, u, rfl, (isZ.e (by omega) h), (h2.trans (by rw [her]))⟩
      ·obtain ⟨hct, hfm⟩ := or69f hb110
       obtain ⟨her, hq1, hq2⟩ := H3 rfl hft rfl hct ((fmt_back hc hft hi hp (hcn.1 hct)).1 hfm)
       have hcan := hcn.1 hct
       refine wp_skip (then_normal ?_)
       refine wp_seq ?_
       refine st_seq S108 1 [?_] [(true, 0), (false, 2), (false, 3)] ⟨?_, trivial⟩ (L' := [(71, ?_), (3, ?_), (2, ?_)]) ?_ fun a119 w120 S121 => ?_
       rotate_left 4
       · exact opL S108.r 0 Tryz.underlying26 info_Rat fun c => (c.q 1 rfl)
       · rfl
       refine t_sto S121 2 0 2 rfl isQz.cv (fun w123 S124 => ?_) info_Rat
       refine t_asgC S124 fun a125 S126 => ?_
       refine wpList_nil (then_normal ?_)
       refine wp_ret ?_
       exact st_end2 S126 2 2 0 rfl rfl Tryz.underlying26 info_Rat fun v u h h2 => ⟨v, u, rfl, (isC.e her (isQz.c hcan hq1 hq2 h)), (h2.trans (by rw [her]))⟩
    ·have hb78p := of_decide_eq_false hb78
     have hff : f = false := by rw [cutS_f hc]; exact decide_eq_false (by have := of_decide_eq_false hb78; omega)
     obtain ⟨her, hq1, hq2⟩ := H4 rfl hff
     refine wp_skip (then_normal ?_)
     refine wp_seq ?_
     refine wp_seq ?_
     refine st_seq S76 9 [?_, ?_, ?_, ?_, ?_, ?_, ?_, ?_, ?_] [(true, 8), (false, 1), (false, 3), (false, 4)] ⟨?_, ?_, ?_, ?_, ?_, ?_, ?_, ?_, ?_, trivial⟩ (L' := [(69, ?_), (7, ?_), (3, ?_), (2, ?_)]) ?_ fun a127 w128 S129 => ?_
     rotate_left 13
     · exact opL S76.r 0 Tryz.underlying26 info_Rat fun c => (c.q 1 rfl)
     · exact opC S76.r rfl fun c B => ⟨_, args_1 rfl, (r_validK (by omega) (isQz.k (c.h 0 rfl) true (by simp [canon_one z])))⟩
     · exact opV S76.r fun c => run_not rfl (c.e 0 rfl)
     · exact opV S76.r fun c => run_v (run_move rfl) (c.e 0 rfl)
     · exact opT S76.r 0 (opL S76.r 0 Tryz.underlying26 info_Rat fun c => (c.q 1 rfl))
     · exact opT S76.r 1 (opC S76.r rfl fun c B => ⟨_, args_1 rfl, (r_fmt (by omega) (isQz.k (c.h 0 rfl) true (by simp [canon_one z])).r (S76.obc c.wb))⟩)
     · exact opT S76.r 0 (opV S76.r fun c => run_v (run_move rfl) (c.q 5 rfl))
     · exact opT S76.r 2 (opV S76.r fun c => run_sneq (a := fmtQ (rv (decide (z < 0)) z.natAbs 1)) (b := bs) rfl (c.e 0 rfl) (c.e 1 rfl) (fmtQ_lt _) hb)
     · exact opE S76.r fun c => ⟨_, run_pick rfl (c.e 0 rfl), pick_or fun h => (c.e 1 rfl)⟩
     · rfl
     refine wpList_nil (then_normal ?_)
     refine cond_b _ (ev (S129.sl 0 rfl)) (fun hb131 => ?_) (fun hb131 => ?_)
     ·have her : er = 6 := absurd hb131 (by simp [fmt_back1 hc hff hi])
      refine wp_seq ?_
      refine st_seq S129 1 [?_] [(true, 0), (false, 1), (false, 2), (false, 3)] ⟨?_, trivial⟩ (L' := [(70, ?_), (7, ?_), (3, ?_), (2, ?_)]) ?_ fun a132 w133 S134 => ?_
      rotate_left 5
      · exact opP S129.r fun c => bld_z3 rfl
      · rfl
      refine t_sto S134 3 0 2 rfl isZ.cv (fun w136 S137 => ?_) info_Rat
      refine t_asgC S137 fun a138 S139 => ?_
      refine wpList_nil (then_normal ?_)
      refine wp_ret ?_
      exact st_end2 S139 3 2 0 rfl rfl Tryz.underlying26 info_Rat fun v u h h2 => ⟨v, u, rfl, (isZ.e (by omega) h), (h2.trans (by rw [her]))⟩
     ·have hcan := canon_one z
      refine wp_skip (then_normal ?_)
      refine wp_seq ?_
      refine st_seq S129 1 [?_] [(true, 0), (false, 2), (false, 3)] ⟨?_, trivial⟩ (L' := [(71, ?_), (3, ?_), (2, ?_)]) ?_ fun a140 w141 S142 => ?_
      rotate_left 4
      · exact opL S129.r 0 Tryz.underlying26 info_Rat fun c => (c.q 1 rfl)
      · rfl
      refine t_sto S142 2 0 2 rfl isQz.cv (fun w144 S145 => ?_) info_Rat
      refine t_asgC S145 fun a146 S147 => ?_
      refine wpList_nil (then_normal ?_)
      refine wp_ret ?_
      exact st_end2 S147 2 2 0 rfl rfl Tryz.underlying26 info_Rat fun v u h h2 => ⟨v, u, rfl, (isC.e her (isQz.c hcan hq1 hq2 h)), (h2.trans (by rw [her]))⟩
theorem r_parse {bs : List Nat} {q : Rat} {er : Int} (hb : ∀ b ∈ bs, b < 256) (hl : bs.length ≤ 4096) (h : RPar bs q er) {w : World} {O : Bs} (ho : OB O w) : Calls Tryz.prog 15 #[.string (bstr bs)] w (RetM (mT (mE q er 4096) (mV (.int .i64 er))) O w) := by
  obtain ⟨a, r, f, z, hc, h⟩ := h
  have hl2 := cutS_len hc
  have nc : ∀ V, ∃ cn : Bool, cn = true ↔ canon (decide (z < 0)) (nd z.natAbs) (nd V) := fun V => by
    by_cases h : canon (decide (z < 0)) (nd z.natAbs) (nd V)
    · exact ⟨true, by simp [h]⟩
    · exact ⟨false, by simp [h]⟩
  rcases h with ⟨hi, rfl⟩ | ⟨hi, rfl, rfl, rfl⟩ | ⟨hi, rfl, V, h⟩
  · obtain ⟨V, eb, hp⟩ := parsed_some r
    obtain ⟨cn, hcn⟩ := nc V
    exact r_parse0 hb hl hc hi hp hcn (fun _ => rfl) (fun h => absurd h (by decide)) (fun h => absurd h (by decide)) (fun h => absurd h (by decide)) (fun h => absurd h (by decide)) ho
  · obtain ⟨V, eb, hp⟩ := parsed_some r
    obtain ⟨cn, hcn⟩ := nc V
    exact r_parse0 hb hl hc hi hp hcn (fun h => absurd rfl h) (fun _ h => by cases h) (fun _ h => by cases h) (fun _ h => by cases h) (fun _ _ => ⟨rfl, rfl, rfl⟩) ho
  · obtain ⟨cn, hcn⟩ := nc V
    rcases h with ⟨hp, rfl⟩ | ⟨hp, h1, rfl⟩ | ⟨hp, h1, h2, rfl⟩ | ⟨hp, h1, h2, rfl, h3, h4⟩
    · exact r_parse0 hb hl hc hi hp hcn (fun h => absurd rfl h) (fun _ _ _ => rfl) (fun _ _ h => absurd h (by decide)) (fun _ _ h => absurd h (by decide)) (fun _ h => by cases h) ho
    · exact r_parse0 hb hl hc hi hp hcn (fun h => absurd rfl h) (fun _ _ _ => rfl) (fun _ _ _ _ h => absurd h1 h) (fun _ _ _ _ _ => rfl) (fun _ h => by cases h) ho
    · exact r_parse0 hb hl hc hi hp hcn (fun h => absurd rfl h) (fun _ _ _ => rfl) (fun _ _ _ h => absurd (hcn.1 h) h2) (fun _ _ _ _ _ => rfl) (fun _ h => by cases h) ho
    · have hV : V ≠ 0 := fun e => by obtain ⟨_, _, h5, _⟩ := h2; rw [e, nd_zero] at h5; exact h5 rfl
      exact r_parse0 hb hl hc hi hp hcn (fun h => absurd rfl h) (fun _ _ h => h.elim (fun h => absurd rfl h) (fun h => absurd h hV)) (fun _ _ _ _ _ => ⟨rfl, h3, h4⟩) (fun _ _ _ _ h => absurd ⟨hcn.2 h2, h1⟩ h) (fun _ h => by cases h) ho
end Go.Proofs.YtcankknlbljicaaGreatDoor
