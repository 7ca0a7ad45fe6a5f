/-  -/
import Derived.Test.YtcankknlbljicaaGreatDoorQfe

set_option linter.unusedVariables false
set_option linter.unusedSimpArgs false
set_option linter.unusedSectionVars false
set_option maxRecDepth 100000
set_option maxHeartbeats 3200000

namespace Go.Proofs.YtcankknlbljicaaGreatDoor
open Go.RowKit Num

def ofN (fs gs : List Rat) (d : Rat) : Nat → List Rat
 | 0 => []
 | i + 1 => addQ (mulQ (ofN fs gs d i) gs) [fs.getD (fs.length - i - 1) 0 * (d ^ i * d)]
def comP (ps qs : List Rat) : List Rat := (cutQ (ofN (clq ps) (clq qs) (clr qs) (clq ps).length)).map fun q => q / (clr ps * clr qs ^ (clq ps).length)
def cpsE (ps qs : List Rat) : Int := if 192 < ((cutn ps : Int) - 1) * ((cutn qs : Int) - 1) then 12 else 0
def cpsP (ps qs : List Rat) : List Rat := if 192 < ((cutn ps : Int) - 1) * ((cutn qs : Int) - 1) then [] else comP ps qs
def powN (fs : List Rat) : Nat → List Rat
 | 0 => [((1 : Int) : Rat)]
 | i + 1 => mulQ (powN fs i) fs
def powB (ps : List Rat) (n : Int) : Bool := ((decide (n < 0)) || (decide (48 < n))) || (decide (192 < n * ((cutn ps : Int) - 1)))
def powE (ps : List Rat) (n : Int) : Int := if powB ps n = true then 12 else 0
def powP (ps : List Rat) (n : Int) : List Rat := if powB ps n = true then [] else (cutQ (powN (clq ps) n.toNat)).map fun q => q / (clr ps ^ n.toNat)
theorem powE_t {ps : List Rat} {n : Int} (h : powB ps n = true) : powE ps n = 12 := if_pos h
theorem powE_f {ps : List Rat} {n : Int} (h : powB ps n = false) : powE ps n = 0 := if_neg (by rw [h]; decide)
theorem powP_t {ps : List Rat} {n : Int} (h : powB ps n = true) : powP ps n = [] := if_pos h
theorem powP_f {ps : List Rat} {n : Int} (h : powB ps n = false) : powP ps n = (cutQ (powN (clq ps) n.toNat)).map fun q => q / (clr ps ^ n.toNat) := if_neg (by rw [h]; decide)
theorem powB_f {ps : List Rat} {n : Int} (h : powB ps n = false) : 0 ≤ n ∧ n ≤ 48 := by
 unfold powB at h
 simp only [Bool.or_eq_false_iff, decide_eq_false_iff_not] at h
 omega
theorem or2_f {p q : Prop} [Decidable p] [Decidable q] (h : (!((decide p) || (decide q))) = true) : ¬ p ∧ ¬ q := by
 by_cases hp : p <;> by_cases hq : q <;> simp_all
theorem pow_mul {n : Int} {a : Nat} (h1 : 0 ≤ n) (h2 : n ≤ 48) (ha : a ≤ 9999) : -48 ≤ n * ((a : Int) - 1) ∧ n * ((a : Int) - 1) ≤ 479952 := by
 rcases Nat.eq_zero_or_pos a with h | h
 ·subst h
  rw [show ((0 : Nat) : Int) - 1 = -1 by omega, Int.mul_neg, Int.mul_one]
  omega
 ·have h3 : n * ((a : Int) - 1) ≤ 48 * 9999 := Int.mul_le_mul (by omega) (by omega) (by omega) (by omega)
  have h4 : 0 ≤ n * ((a : Int) - 1) := Int.mul_nonneg (by omega) (by omega)
  omega
def sameQ (ps qs : List Rat) : Bool := decide (cutQ ps = cutQ qs)
def encN (ps : List Rat) (p q : Rat) : Nat → Rat × Rat
 | 0 => (mnQ ((0 : Int) : Rat) ((0 : Int) : Rat), mxQ ((0 : Int) : Rat) ((0 : Int) : Rat))
 | i + 1 => ((mnQ (mn4 ((encN ps p q i).1 * p) ((encN ps p q i).1 * q) ((encN ps p q i).2 * p) ((encN ps p q i).2 * q)) (mx4 ((encN ps p q i).1 * p) ((encN ps p q i).1 * q) ((encN ps p q i).2 * p) ((encN ps p q i).2 * q))) + (mnQ (mnQ (ps.getD (ps.length - i - 1) 0) (ps.getD (ps.length - i - 1) 0)) (mxQ (ps.getD (ps.length - i - 1) 0) (ps.getD (ps.length - i - 1) 0))),
   (mxQ (mn4 ((encN ps p q i).1 * p) ((encN ps p q i).1 * q) ((encN ps p q i).2 * p) ((encN ps p q i).2 * q)) (mx4 ((encN ps p q i).1 * p) ((encN ps p q i).1 * q) ((encN ps p q i).2 * p) ((encN ps p q i).2 * q))) + (mxQ (mnQ (ps.getD (ps.length - i - 1) 0) (ps.getD (ps.length - i - 1) 0)) (mxQ (ps.getD (ps.length - i - 1) 0) (ps.getD (ps.length - i - 1) 0))))
theorem trm_t {n : Nat} {q : Rat} (h : (decide ((0 : Int) < (n : Int)) && decide (sgnQ q = 0)) = true) : 1 ≤ n ∧ q = 0 := by
 simp only [Bool.and_eq_true, decide_eq_true_eq] at h
 exact ⟨by omega, sgnQ_zero.1 h.2⟩
theorem trm_end {qs : List Rat} {n : Nat} (h : n ≤ qs.length ∧ cutn qs = cutn (qs.take n)) (h2 : (decide ((0 : Int) < (n : Int)) && decide (sgnQ (qs.getD (n - 1) 0) = 0)) = false) : cutQ qs = qs.take n := by
 have h3 := deg_end h (by
  rw [← h2]
  congr 1
  exact decide_eq_decide.2 (by omega))
 injection h3 with h4 h5
 have h6 : n = cutn qs := by omega
 unfold cutQ
 rw [h6]
theorem take_snocQ {qs : List Rat} {i : Nat} (h : i < qs.length) : qs.take i ++ [qs.getD i 0] = qs.take (i + 1) := (take_succ_getD h).symm
theorem trm_take {qs : List Rat} {n i : Nat} (h : n ≤ qs.length) (h2 : i = n) : (qs.take n).take i = qs.take n := by
 rw [List.take_take, h2, Nat.min_self]
theorem sml_len {ps qs : List Rat} (h : decide ((ps.length : Int) ≠ (qs.length : Int)) = true) : decide (ps = qs) = false :=
 decide_eq_false fun h2 => of_decide_eq_true h (by rw [h2])
theorem sml_ne {ps qs : List Rat} {i : Nat} (h : (!(true && (decide (ps.getD i 0 = qs.getD i 0)))) = true) : decide (ps = qs) = false :=
 decide_eq_false fun h2 => by rw [h2] at h; simp at h
theorem sml_next {ps qs : List Rat} {i n : Nat} (hp : i ≤ n ∧ ∀ t : Nat, t < i → ps.getD t 0 = qs.getD t 0) (hi : i + 1 ≤ n) (h : (!(true && (decide (ps.getD i 0 = qs.getD i 0)))) = false) : i + 1 ≤ n ∧ ∀ t : Nat, t < i + 1 → ps.getD t 0 = qs.getD t 0 :=
 ⟨hi, fun t ht => by
  by_cases h1 : t < i
  ·exact hp.2 t h1
  ·obtain rfl : t = i := by omega
   simpa using h⟩
theorem sml_end {ps qs : List Rat} {i n : Nat} (h : decide ((ps.length : Int) ≠ (qs.length : Int)) = false) (hp : i ≤ n ∧ ∀ t : Nat, t < i → ps.getD t 0 = qs.getD t 0) (hi : ps.length ≤ i) : decide (ps = qs) = true := by
 have hl : ps.length = qs.length := by
  have := Decidable.not_not.1 (of_decide_eq_false h)
  omega
 refine decide_eq_true (List.ext_getElem hl fun j h1 h2 => ?_)
 have := hp.2 j (by omega)
 rw [List.getD_eq_getElem?_getD, List.getD_eq_getElem?_getD, List.getElem?_eq_getElem h1, List.getElem?_eq_getElem h2] at this
 exact this
theorem take_allQ {qs : List Rat} {i : Nat} (h : qs.length ≤ i) : qs.take i = qs := List.take_of_length_le h
def evN (qs : List Rat) (x : Rat) : Nat → Rat
 | 0 => ((0 : Int) : Rat)
 | t + 1 => evN qs x t * x + qs.getD (qs.length - t - 1) 0
theorem cutQ_self {X : List Rat} (h : X.getD (X.length - 1) 0 ≠ 0) : cutQ X = X := by
 rcases List.eq_nil_or_concat X with rfl | ⟨Y, x, rfl⟩
 ·exact absurd rfl h
 ·have hx : x ≠ 0 := by simpa [List.getD_eq_getElem?_getD] using h
  rw [List.concat_eq_append]
  unfold cutQ
  rw [cutn_last hx]
  exact List.take_of_length_le (by simp)
theorem tdiv_b {t n : Int} (hn : 1 ≤ n) (h1 : -9223372036854775808 ≤ t) (h2 : t ≤ 9223372036854775807) : -9223372036854775808 ≤ Int.tdiv t n ∧ Int.tdiv t n ≤ 9223372036854775807 := by
 rcases Int.le_total 0 t with h | h
 ·rw [Int.tdiv_eq_ediv_of_nonneg h]
  have := Int.ediv_le_self n h
  have := Int.ediv_nonneg h (show 0 ≤ n by omega)
  omega
 ·have e : Int.tdiv t n = -(Int.tdiv (-t) n) := by rw [Int.neg_tdiv]; omega
  rw [e, Int.tdiv_eq_ediv_of_nonneg (show 0 ≤ -t by omega)]
  have := Int.ediv_le_self n (show 0 ≤ -t by omega)
  have := Int.ediv_nonneg (show 0 ≤ -t by omega) (show 0 ≤ n by omega)
  omega
theorem run_quo {P : Program} {ρ : Operand → Value} {o : Oper} {w : World} {x y : Operand} {T T' : TypeId} {m n : Int} (ho : o.op = .binOp .quo T x y T') (hx : ρ x = .int .i64 m) (hy : ρ y = .int .i64 n) (hn : n ≠ 0) (hb : -9223372036854775808 ≤ Int.tdiv m n ∧ Int.tdiv m n ≤ 9223372036854775807) : (execOp ρ o).run P w = .ok (.value (.int .i64 (Int.tdiv m n))) w := by
 have e := IntWalk.i64_in (Int.tdiv m n) hb
 unfold execOp; simp [ho, hx, hy, go_sem, e, hn]
def ratQ (t : Int) : Rat := Rat.divInt (t % 25 - 12) (1 + Int.tdiv t 25 % 8)
theorem rats_snoc {ts : List Int} {i : Nat} (h : i < ts.length) : (ts.map ratQ).take i ++ [ratQ (ts.getD i 0)] = (ts.map ratQ).take (i + 1) := by
 rw [← take_snocQ (by rw [List.length_map]; exact h)]
 congr 2
 rw [List.getD_eq_getElem?_getD, List.getD_eq_getElem?_getD, List.getElem?_map, List.getElem?_eq_getElem h]; rfl
def polQ (ts : List Int) (n : Nat) : List Rat := cutQ ((ts.take (n + 1)).map ratQ)
theorem polQ_f {ts : List Int} {n : Nat} (h : decide (((n : Nat) : Int) + 1 < (ts.length : Int)) = false) : polQ ts n = cutQ (ts.map ratQ) := by
 have := of_decide_eq_false h
 unfold polQ
 rw [List.take_of_length_le (by omega)]
theorem hI_take {ts : List Int} {n : Nat} (h : ∀ j : Nat, -9223372036854775808 ≤ ts.getD j 0 ∧ ts.getD j 0 ≤ 9223372036854775807) (j : Nat) : -9223372036854775808 ≤ (ts.take n).getD j 0 ∧ (ts.take n).getD j 0 ≤ 9223372036854775807 := by
 by_cases hj : j < n
 ·have := h j
  rw [List.getD_eq_getElem?_getD] at this ⊢
  rwa [List.getElem?_take_of_lt hj]
 ·rw [List.getD_eq_getElem?_getD, List.getElem?_eq_none (by rw [List.length_take]; omega)]
  decide
def powR (ps : List Rat) : Nat → List Rat
 | 0 => [((1 : Int) : Rat)]
 | i + 1 => cutQ (mulQ (cutQ (powR ps i)) (cutQ ps))
def pwrB (ps : List Rat) (n : Int) : Bool := ((decide (n < 0)) || (decide (48 < n))) || (decide (192 < n * ((cutn ps - 1 : Nat) : Int)))
def pwrE (ps : List Rat) (n : Int) : Int := if pwrB ps n = true then 12 else 0
def pwrP (ps : List Rat) (n : Int) : List Rat := if pwrB ps n = true then [] else powR ps n.toNat
theorem st_endTT {fn : Func} {N : Nat} {O O0 : Bs} {W0 w : World} {a : Act} {L : List (Nat × MP)} {X : List RX} {p q : Tmp} {m1 m2 m1' m2' : MP} (S : St N O0 O W0 a w L X) (i j : Nat) (hi : L[i]? = some (p, m1)) (hj : L[j]? = some (q, m2)) (h1 : ∀ v, m1.S O0 w v → m1'.S O0 w v) (h2 : ∀ v, m2.S O0 w v → m2'.S O0 w v) (hf : fn.results = #[.tmp p, .tmp q] := by rfl) : bodyPost Tryz.prog fn (RetM (mT m1' m2') O0 W0) .ret a w :=
 ⟨S.d, _, results_tmp2 hf a.tmps Tryz.prog w, _, rfl, ⟨_, _, rfl, h1 _ (m1.less _ _ _ _ S.o (S.sl i hi)), h2 _ (m2.less _ _ _ _ S.o (S.sl j hj))⟩, S.B⟩
end Go.Proofs.YtcankknlbljicaaGreatDoor

namespace Go.Proofs.YtcankknlbljicaaGreatDoor
open Go.RowKit Num

set_option maxRecDepth 100000
set_option maxHeartbeats 2000000
end Go.Proofs.YtcankknlbljicaaGreatDoor

namespace Go.Proofs.YtcankknlbljicaaGreatDoor
open Go.RowKit Num

set_option maxRecDepth 100000
set_option maxHeartbeats 2000000
end Go.Proofs.YtcankknlbljicaaGreatDoor

namespace Go.Proofs.YtcankknlbljicaaGreatDoor
open Go.RowKit Num

set_option maxRecDepth 100000
set_option maxHeartbeats 2000000
theorem p_pow {ps : List Rat} {n : Int} {k L K1 LV K KP KD KF : Nat} {v0 : Value} {w : World} {O : Bs} (hn : ps.length ≤ L) (hL : L ≤ 9999) (hk : k ≤ 999) (hK1 : L * (k + 2) + 2 ≤ K1) (hK : K1 ≤ 3333) (hlen : ∀ i : Nat, i ≤ n.toNat → (powN (clq ps) i).length ≤ LV) (hLV : LV ≤ 9999) (hz : ∀ i j : Nat, i ≤ n.toNat → Sz ((powN (clq ps) i).getD j 0) K) (hd : ∀ i : Nat, i ≤ n.toNat → Sz (clr ps ^ i) KD) (hK2 : LV * (K + (k + K1 + 3) + 3) + 2 ≤ KP) (hK3 : KP ≤ 33333) (hK4 : K ≤ 9999) (hKD : KD ≤ 9999) (hf : ∀ j, Sz ((powP ps n).getD j 0) KF) (pf0 : (mSl 3 (lR ps (k))).S O w v0) (hT : Tb w) (ho : OB O w) :
    Calls Tryz.prog 40 #[v0, .int .i64 (n)] w (RetM (mT (mSl 3 (lC (powP ps n) (KF))) (mV (.int .i64 (powE ps n)))) O w) := by
 refine st_start 36 Tryz.func40 [(mSl 3 (lR ps (k))), (mV (.int .i64 (n)))] ⟨pf0, rfl, trivial⟩ ho fun a S => ?_
 have hn1 := cutn_le ps
 have hc1 := clq_len ps
 have hlv0 := hlen 0 (Nat.zero_le _)
 refine wp_seq ?_
 refine st_seq S 0 [] [(false, 0), (false, 1)] trivial (L' := [(0, ?_), (1, ?_)]) ?_ fun a1 w2 S3 => ?_
 rotate_left 2
 · rfl
 refine t_asgC S3 fun a5 S6 => ?_
 refine t_asgC S6 fun a7 S8 => ?_
 refine wpList_nil (then_normal ?_)
 refine wp_seq ?_
 refine wp_seq ?_
 refine st_seq S8 13 [?_, ?_, ?_, ?_, ?_, ?_, ?_, ?_, ?_, ?_, ?_, ?_, ?_] [(true, 12), (false, 0), (false, 1), (false, 2), (false, 3)] ⟨?_, ?_, ?_, ?_, ?_, ?_, ?_, ?_, ?_, ?_, ?_, ?_, ?_, trivial⟩ (L' := [(20, ?_), (5, ?_), (4, ?_), (0, ?_), (1, ?_)]) ?_ fun a9 w10 S11 => ?_
 rotate_left 18
 · exact opV S8.r fun c => run_v (run_move rfl) (c.q 3 rfl)
 · exact opV S8.r fun c => run_lss rfl (c.e 0 rfl) rfl
 · exact opV S8.r fun c => run_v (run_move rfl) (c.e 0 rfl)
 · exact opG S8.r 0 (fun hγ => opV S8.r fun c => run_v (run_move rfl) (c.q 3 rfl)) gF
 · exact opG S8.r 1 (fun hγ => opV S8.r fun c => run_gtr rfl (ev (c.h 0 rfl hγ)) rfl) gF
 · exact opE S8.r fun c => ⟨_, run_pick rfl (c.e 0 rfl), pick_or fun h => (c.h 1 rfl) (by rw [h]; rfl)⟩
 · exact opV S8.r fun c => run_v (run_move rfl) (c.e 0 rfl)
 · exact opG S8.r 0 (fun hγ => opV S8.r fun c => run_v (run_move rfl) (c.q 3 rfl)) gF
 · exact opG S8.r 0 (fun hγ => opP S8.r fun c => ⟨_, run_move rfl, (c.o 2 rfl)⟩) gF
 · exact opG S8.r 1 (fun hγ => opC S8.r rfl fun c B => ⟨_, args_1 rfl, (p_degree (by omega) (by omega) (c.h 0 rfl hγ) (S8.obc c.wb))⟩) gF
 · exact opG S8.r 2 (fun hγ => opV S8.r fun c => run_mul rfl (ev (c.h 0 rfl hγ)) (ev (c.h 1 rfl hγ)) (by obtain ⟨hg1, hg2⟩ := or2_f hγ; have hg3 := pow_mul (n := n) (a := cutn ps) (by omega) (by omega) (by omega); omega) (by obtain ⟨hg1, hg2⟩ := or2_f hγ; have hg3 := pow_mul (n := n) (a := cutn ps) (by omega) (by omega) (by omega); omega)) gF
 · exact opG S8.r 1 (fun hγ => opV S8.r fun c => run_gtr rfl (ev (c.h 0 rfl hγ)) rfl) gF
 · exact opE S8.r fun c => ⟨_, run_pick rfl (c.e 0 rfl), pick_or fun h => (c.h 1 rfl) (by rw [h]; rfl)⟩
 · rfl
 refine wpList_nil (then_normal ?_)
 refine cond_b _ (ev (S11.sl 0 rfl)) (fun hb13 => ?_) (fun hb13 => ?_)
 ·refine wp_seq ?_
  refine st_seq S11 0 [] [(false, 1), (false, 2), (false, 3), (false, 4)] trivial (L' := [(5, ?_), (4, ?_), (0, ?_), (1, ?_)]) ?_ fun a14 w15 S16 => ?_
  rotate_left 4
  · rfl
  refine t_asgC S16 fun a18 S19 => ?_
  refine t_asgC S19 fun a20 S21 => ?_
  refine wpList_nil (then_normal ?_)
  refine wp_ret ?_
  exact st_endTT S21 1 0 rfl rfl (fun _ h => nil_L (powP_t hb13) h) (fun _ h => h.trans (by rw [powE_t hb13]))
 ·have hn48 := powB_f hb13
  refine wp_skip (then_normal ?_)
  refine wp_seq ?_
  refine st_seq S11 6 [?_, ?_, ?_, ?_, ?_, ?_] [(true, 1), (true, 5), (false, 1), (false, 2), (false, 4)] ⟨?_, ?_, ?_, ?_, ?_, ?_, trivial⟩ (L' := [(22, ?_), (26, ?_), (5, ?_), (4, ?_), (1, ?_)]) ?_ fun a22 w23 S24 => ?_
  rotate_left 11
  · exact opP S11.r fun c => ⟨_, run_move rfl, (c.o 3 rfl)⟩
  · exact opC S11.r rfl fun c B => ⟨_, args_1 rfl, (p_cleared (L := L) (K := K1) (by omega) (by omega) (by omega) (by omega) (by omega) (c.h 0 rfl) (hT.below B) (S11.obc c.wb))⟩
  · exact opC S11.r rfl fun c B => ⟨_, args_0, (p_one (S11.obc c.wb))⟩
  · exact opN S11.r fun c => lit1C (S11.obc c.wb) (c.h 0 rfl)
  · exact opC S11.r rfl fun c B => ⟨_, args_0, (p_one (S11.obc c.wb))⟩
  · exact opP S11.r fun c => bld_I rfl (c.h 0 rfl) (c.h 1 rfl) (isC.cv (c.h 1 rfl))
  · rfl
  refine t_alloc S24 zero_integral (fun _ _ _ => bx_integral) fun O a26 w27 g28 S29 => ?_
  refine t_alloc S29 zero_integral (fun _ _ _ => bx_integral) fun O a30 w31 g32 S33 => ?_
  refine t_sto S33 1 2 1 rfl (fun h => (mI_cv (fun _ h => (isC.cv h)) h)) (fun w34 S35 => ?_) info_integral
  refine t_sto S35 0 3 0 rfl (fun h => (mI_cv (fun _ h => (isC.cv h)) h)) (fun w36 S37 => ?_) info_integral
  refine wpList_nil (then_normal ?_)
  refine wp_seq ?_
  refine wp_seq ?_
  refine st_seq S37 2 [?_, ?_] [(true, 0), (true, 1), (false, 0), (false, 1), (false, 4), (false, 5)] ⟨?_, ?_, trivial⟩ (L' := [(27, ?_), (28, ?_), (7, ?_), (6, ?_), (5, ?_), (4, ?_)]) ?_ fun a38 w39 S40 => ?_
  rotate_left 8
  · exact opV S37.r fun c => run_v (run_move rfl) (c.q 6 rfl)
  · exact opV S37.r fun c => run_moveC rfl
  · rfl
  refine wpList_nil (then_normal ?_)
  refine wp_block ?_
  refine st_loop (τ := Nat) (fun i => [(27, (mV (.int .i64 (n)))), (28, (mV (.int .i64 ((i : Nat) : Int)))), (7, (mV (.pointer (some ⟨g32, 0, none⟩)))), (6, (mV (.pointer (some ⟨g28, 0, none⟩)))), (5, (mV (.int .i64 (0)))), (4, (mV (.slice none 0 0)))]) (fun i => [.box g32 102 4 (mI (lC (powN (clq ps) i) (K)) (mC (clr ps ^ i) (KD))), .box g28 102 4 (mI (lC (clq ps) (k + K1 + 3)) (mC (clr ps) (K1)))]) (fun i => i ≤ n.toNat) (fun i => n.toNat - i) 0 (Nat.zero_le _) (S40.toX ⟨S40.sl 0 rfl, S40.sl 1 rfl, S40.sl 2 rfl, S40.sl 3 rfl, S40.sl 4 rfl, S40.sl 5 rfl, trivial⟩ ⟨(bx.imp (fun _ h => mI_imp (fun _ h => slC_re (fun l => hz 0 l (Nat.zero_le _)) h) (fun _ h => isC.re (isC.of h pow0Q.symm) (hd 0 (Nat.zero_le _))) h) (S40.f 0 rfl)), S40.f 1 rfl, trivial⟩) ?_
  rintro i O a44 w45 hp46 S47
  try dsimp only at hp46 S47
  have hlv := hlen i (by omega)
  have hml := mulQ_len (powN (clq ps) i) (clq ps)
  refine wp_seq ?_
  refine st_seq S47 1 [?_] [(true, 0), (false, 0), (false, 1), (false, 2), (false, 3), (false, 4), (false, 5)] ⟨?_, trivial⟩ (L' := [(29, ?_), (27, ?_), (28, ?_), (7, ?_), (6, ?_), (5, ?_), (4, ?_)]) ?_ fun a48 w49 S50 => ?_
  rotate_left 8
  · exact opV S47.r fun c => run_lss rfl (c.q 1 rfl) (c.q 0 rfl)
  · rfl
  refine wpList_nil (then_normal ?_)
  refine wp_seq ?_
  refine cond_b _ (ev (S50.sl 0 rfl)) (fun hb52 => ?_) (fun hb52 => ?_)
  ·have hb52p := of_decide_eq_true hb52
   refine wp_skip (then_normal ?_)
   refine wp_seq ?_
   refine wp_block ?_
   refine st_seq S50 3 [?_, ?_, ?_] [(true, 2), (false, 1), (false, 2), (false, 3), (false, 4), (false, 5), (false, 6)] ⟨?_, ?_, ?_, trivial⟩ (L' := [(32, ?_), (27, ?_), (28, ?_), (7, ?_), (6, ?_), (5, ?_), (4, ?_)]) ?_ fun a53 w54 S55 => ?_
   rotate_left 10
   · exact opL S50.r 0 Tryz.underlying102 info_integral fun c => (c.q 3 rfl)
   · exact opL S50.r 1 Tryz.underlying102 info_integral fun c => (c.q 4 rfl)
   · exact opC S50.r rfl fun c B => ⟨_, args_2 rfl rfl, (pi_prod (L := LV) (K := KP) (by omega) (by omega) (by omega) (by omega) (by omega) (by omega) (by omega) (by omega) (by omega) (c.h 0 rfl) (c.h 1 rfl) (hT.below B) (S50.obc c.wb))⟩
   · rfl
   refine t_sto S55 3 0 0 rfl (fun h => (mI_cv (fun _ h => (isC.cv h)) h)) (fun w57 S58 => ?_) info_integral
   refine wpList_nil (in_normal (then_normal ?_))
   refine st_seq S58 1 [?_] [(true, 0), (false, 1), (false, 2), (false, 3), (false, 4), (false, 5), (false, 6)] ⟨?_, trivial⟩ (L' := [(33, ?_), (27, ?_), (28, ?_), (7, ?_), (6, ?_), (5, ?_), (4, ?_)]) ?_ fun a59 w60 S61 => ?_
   rotate_left 8
   · exact opV S58.r fun c => run_add rfl (c.q 2 rfl) rfl (by omega) (by omega)
   · rfl
   refine t_val S61 (run_v (run_move rfl) (S61.e 0 rfl)) fun a63 S64 => ?_
   refine wpList_nil (then_normal ?_)
   exact ⟨i + 1, (by first | omega | (dsimp only; omega)), (by first | omega | (dsimp only; omega)), _, S64.toX ⟨S64.sl 2 rfl, (S64.sl 0 rfl).trans (by first | rfl | exact congrArg _ (by omega)), S64.sl 3 rfl, S64.sl 4 rfl, S64.sl 5 rfl, S64.sl 6 rfl, trivial⟩ ⟨(bx.imp (fun _ h => mI_imp (fun _ h => slC_re (fun l => hz (i + 1) l (by omega)) h) (fun _ h => isC.re (isC.of h (Rat.pow_succ _ i).symm) (hd (i + 1) (by omega))) h) (S64.f 0 rfl)), S64.f 1 rfl, trivial⟩⟩
  ·have hb52p := of_decide_eq_false hb52
   refine wp_exit ?_
   repeat (first | refine exit_in ?_ | refine exit_then ?_ | refine exit_out (by decide) ?_)
   refine (then_normal ?_)
   refine wp_seq ?_
   refine st_seq S50 2 [?_, ?_] [(true, 1), (false, 5), (false, 6)] ⟨?_, ?_, trivial⟩ (L' := [(35, ?_), (5, ?_), (4, ?_)]) ?_ fun a65 w66 S67 => ?_
   rotate_left 5
   · exact opL S50.r 0 Tryz.underlying102 info_integral fun c => (c.q 3 rfl)
   · exact opC S50.r rfl fun c B => ⟨_, args_1 rfl, (pi_poly (by omega) (by omega) (by omega) (pow_ne0 (clr_ne ps) i) (c.h 0 rfl) (hT.below B) (S50.obc c.wb))⟩
   · rfl
   refine t_asg S67 0 fun a69 S70 => ?_
   refine t_asgC S70 fun a71 S72 => ?_
   refine wpList_nil (then_normal ?_)
   refine wp_ret ?_
   exact st_endTT S72 1 0 rfl rfl (fun _ h => slC_re hf (by rw [powP_f hb13, show n.toNat = i by omega]; exact h)) (fun _ h => h.trans (by rw [powE_f hb13]))
end Go.Proofs.YtcankknlbljicaaGreatDoor

namespace Go.Proofs.YtcankknlbljicaaGreatDoor
open Go.RowKit Num

set_option maxRecDepth 100000
set_option maxHeartbeats 2000000
end Go.Proofs.YtcankknlbljicaaGreatDoor
