/-  -/
import Derived.Test.YtcankknlbljicaaGreatDoorXfe

set_option linter.unusedVariables false
set_option linter.unusedSimpArgs false
set_option linter.unusedSectionVars false
set_option maxRecDepth 100000
set_option maxHeartbeats 3200000

namespace Go.Proofs.YtcankknlbljicaaGreatDoor
open Go.RowKit Num

def ofN (fs gs : List Rat) (d : Rat) : Nat → List Rat
 | 0 => []
 | i + 1 => addQ (mulQ (ofN fs gs d i) gs) [fs.getD (fs.length - i - 1) 0 * (d ^ i * d)]
def comP (ps qs : List Rat) : List Rat := (cutQ (ofN (clq ps) (clq qs) (clr qs) (clq ps).length)).map fun q => q / (clr ps * clr qs ^ (clq ps).length)
def cpsE (ps qs : List Rat) : Int := if 192 < ((cutn ps : Int) - 1) * ((cutn qs : Int) - 1) then 12 else 0
def cpsP (ps qs : List Rat) : List Rat := if 192 < ((cutn ps : Int) - 1) * ((cutn qs : Int) - 1) then [] else comP ps qs
def powN (fs : List Rat) : Nat → List Rat
 | 0 => [((1 : Int) : Rat)]
 | i + 1 => mulQ (powN fs i) fs
def powB (ps : List Rat) (n : Int) : Bool := ((decide (n < 0)) || (decide (48 < n))) || (decide (192 < n * ((cutn ps : Int) - 1)))
def powE (ps : List Rat) (n : Int) : Int := if powB ps n = true then 12 else 0
def powP (ps : List Rat) (n : Int) : List Rat := if powB ps n = true then [] else (cutQ (powN (clq ps) n.toNat)).map fun q => q / (clr ps ^ n.toNat)
def sameQ (ps qs : List Rat) : Bool := decide (cutQ ps = cutQ qs)
def encN (ps : List Rat) (p q : Rat) : Nat → Rat × Rat
 | 0 => (mnQ ((0 : Int) : Rat) ((0 : Int) : Rat),mxQ ((0 : Int) : Rat) ((0 : Int) : Rat))
 | i + 1 => ((mnQ (mn4 ((encN ps p q i).1 * p) ((encN ps p q i).1 * q) ((encN ps p q i).2 * p) ((encN ps p q i).2 * q)) (mx4 ((encN ps p q i).1 * p) ((encN ps p q i).1 * q) ((encN ps p q i).2 * p) ((encN ps p q i).2 * q))) + (mnQ (mnQ (ps.getD (ps.length - i - 1) 0) (ps.getD (ps.length - i - 1) 0)) (mxQ (ps.getD (ps.length - i - 1) 0) (ps.getD (ps.length - i - 1) 0))),
   (mxQ (mn4 ((encN ps p q i).1 * p) ((encN ps p q i).1 * q) ((encN ps p q i).2 * p) ((encN ps p q i).2 * q)) (mx4 ((encN ps p q i).1 * p) ((encN ps p q i).1 * q) ((encN ps p q i).2 * p) ((encN ps p q i).2 * q))) + (mxQ (mnQ (ps.getD (ps.length - i - 1) 0) (ps.getD (ps.length - i - 1) 0)) (mxQ (ps.getD (ps.length - i - 1) 0) (ps.getD (ps.length - i - 1) 0))))
theorem trm_t {n : Nat} {q : Rat} (h : (decide ((0 : Int) < (n : Int)) && decide (sgnQ q = 0)) = true) : 1 ≤ n ∧ q = 0 := by
 simp only [Bool.and_eq_true,decide_eq_true_eq] at h
 exact ⟨by omega,sgnQ_zero.1 h.2⟩
theorem trm_end {qs : List Rat} {n : Nat} (h : n ≤ qs.length ∧ cutn qs = cutn (qs.take n)) (h2 : (decide ((0 : Int) < (n : Int)) && decide (sgnQ (qs.getD (n - 1) 0) = 0)) = false) : cutQ qs = qs.take n := by
 have h3 := deg_end h (by
  rw [← h2]
  congr 1
  exact decide_eq_decide.2 (by omega))
 injection h3 with h4 h5
 have h6 : n = cutn qs := by omega
 unfold cutQ
 rw [h6]
theorem take_snocQ {qs : List Rat} {i : Nat} (h : i < qs.length) : qs.take i ++ [qs.getD i 0] = qs.take (i + 1) := (take_succ_getD h).symm
theorem trm_take {qs : List Rat} {n i : Nat} (h : n ≤ qs.length) (h2 : i = n) : (qs.take n).take i = qs.take n := by
 rw [List.take_take,h2,Nat.min_self]
theorem sml_len {ps qs : List Rat} (h : decide ((ps.length : Int) ≠ (qs.length : Int)) = true) : decide (ps = qs) = false :=
 decide_eq_false fun h2 => of_decide_eq_true h (by rw [h2])
theorem sml_ne {ps qs : List Rat} {i : Nat} (h : (!(true && (decide (ps.getD i 0 = qs.getD i 0)))) = true) : decide (ps = qs) = false :=
 decide_eq_false fun h2 => by rw [h2] at h; simp at h
theorem sml_next {ps qs : List Rat} {i n : Nat} (hp : i ≤ n ∧ ∀ t : Nat,t < i → ps.getD t 0 = qs.getD t 0) (hi : i + 1 ≤ n) (h : (!(true && (decide (ps.getD i 0 = qs.getD i 0)))) = false) : i + 1 ≤ n ∧ ∀ t : Nat,t < i + 1 → ps.getD t 0 = qs.getD t 0 :=
 ⟨hi,fun t ht => by
  by_cases h1 : t < i
  ·exact hp.2 t h1
  ·obtain rfl : t = i := by omega
   simpa using h⟩
theorem sml_end {ps qs : List Rat} {i n : Nat} (h : decide ((ps.length : Int) ≠ (qs.length : Int)) = false) (hp : i ≤ n ∧ ∀ t : Nat,t < i → ps.getD t 0 = qs.getD t 0) (hi : ps.length ≤ i) : decide (ps = qs) = true := by
 have hl : ps.length = qs.length := by
  have := Decidable.not_not.1 (of_decide_eq_false h)
  omega
 refine decide_eq_true (List.ext_getElem hl fun j h1 h2 => ?_)
 have := hp.2 j (by omega)
 rw [List.getD_eq_getElem?_getD,List.getD_eq_getElem?_getD,List.getElem?_eq_getElem h1,List.getElem?_eq_getElem h2] at this
 exact this
theorem take_allQ {qs : List Rat} {i : Nat} (h : qs.length ≤ i) : qs.take i = qs := List.take_of_length_le h
def evN (qs : List Rat) (x : Rat) : Nat → Rat
 | 0 => ((0 : Int) : Rat)
 | t + 1 => evN qs x t * x + qs.getD (qs.length - t - 1) 0
theorem tdiv_b {t n : Int} (hn : 1 ≤ n) (h1 : -9223372036854775808 ≤ t) (h2 : t ≤ 9223372036854775807) : -9223372036854775808 ≤ Int.tdiv t n ∧ Int.tdiv t n ≤ 9223372036854775807 := by
 rcases Int.le_total 0 t with h | h
 ·rw [Int.tdiv_eq_ediv_of_nonneg h]
  have := Int.ediv_le_self n h
  have := Int.ediv_nonneg h (show 0 ≤ n by omega)
  omega
 ·have e : Int.tdiv t n = -(Int.tdiv (-t) n) := by rw [Int.neg_tdiv]; omega
  rw [e,Int.tdiv_eq_ediv_of_nonneg (show 0 ≤ -t by omega)]
  have := Int.ediv_le_self n (show 0 ≤ -t by omega)
  have := Int.ediv_nonneg (show 0 ≤ -t by omega) (show 0 ≤ n by omega)
  omega
theorem run_quo {P : Program} {ρ : Operand → Value} {o : Oper} {w : World} {x y : Operand} {T T' : TypeId} {m n : Int} (ho : o.op = .binOp .quo T x y T') (hx : ρ x = .int .i64 m) (hy : ρ y = .int .i64 n) (hn : n ≠ 0) (hb : -9223372036854775808 ≤ Int.tdiv m n ∧ Int.tdiv m n ≤ 9223372036854775807) : (execOp ρ o).run P w = .ok (.value (.int .i64 (Int.tdiv m n))) w := by
 have e := IntWalk.i64_in (Int.tdiv m n) hb
 unfold execOp; simp [ho,hx,hy,go_sem,e,hn]
def ratQ (t : Int) : Rat := Rat.divInt (t % 25 - 12) (1 + Int.tdiv t 25 % 8)
theorem rats_snoc {ts : List Int} {i : Nat} (h : i < ts.length) : (ts.map ratQ).take i ++ [ratQ (ts.getD i 0)] = (ts.map ratQ).take (i + 1) := by
 rw [← take_snocQ (by rw [List.length_map]; exact h)]
 congr 2
 rw [List.getD_eq_getElem?_getD,List.getD_eq_getElem?_getD,List.getElem?_map,List.getElem?_eq_getElem h]; rfl
def polQ (ts : List Int) (n : Nat) : List Rat := cutQ ((ts.take (n + 1)).map ratQ)
theorem polQ_f {ts : List Int} {n : Nat} (h : decide (((n : Nat) : Int) + 1 < (ts.length : Int)) = false) : polQ ts n = cutQ (ts.map ratQ) := by
 have := of_decide_eq_false h
 unfold polQ
 rw [List.take_of_length_le (by omega)]
theorem hI_take {ts : List Int} {n : Nat} (h : ∀ j : Nat,-9223372036854775808 ≤ ts.getD j 0 ∧ ts.getD j 0 ≤ 9223372036854775807) (j : Nat) : -9223372036854775808 ≤ (ts.take n).getD j 0 ∧ (ts.take n).getD j 0 ≤ 9223372036854775807 := by
 by_cases hj : j < n
 ·have := h j
  rw [List.getD_eq_getElem?_getD] at this ⊢
  rwa [List.getElem?_take_of_lt hj]
 ·rw [List.getD_eq_getElem?_getD,List.getElem?_eq_none (by rw [List.length_take]; omega)]
  decide
def powR (ps : List Rat) : Nat → List Rat
 | 0 => [((1 : Int) : Rat)]
 | i + 1 => cutQ (mulQ (cutQ (powR ps i)) (cutQ ps))
def pwrB (ps : List Rat) (n : Int) : Bool := ((decide (n < 0)) || (decide (48 < n))) || (decide (192 < n * ((cutn ps - 1 : Nat) : Int)))
def pwrE (ps : List Rat) (n : Int) : Int := if pwrB ps n = true then 12 else 0
def pwrP (ps : List Rat) (n : Int) : List Rat := if pwrB ps n = true then [] else powR ps n.toNat
end Go.Proofs.YtcankknlbljicaaGreatDoor

namespace Go.Proofs.YtcankknlbljicaaGreatDoor
open Go.RowKit Num

set_option maxRecDepth 100000
set_option maxHeartbeats 2000000
end Go.Proofs.YtcankknlbljicaaGreatDoor

namespace Go.Proofs.YtcankknlbljicaaGreatDoor
open Go.RowKit Num

set_option maxRecDepth 100000
set_option maxHeartbeats 2000000
end Go.Proofs.YtcankknlbljicaaGreatDoor

namespace Go.Proofs.YtcankknlbljicaaGreatDoor
open Go.RowKit Num

set_option maxRecDepth 100000
set_option maxHeartbeats 2000000
end Go.Proofs.YtcankknlbljicaaGreatDoor

namespace Go.Proofs.YtcankknlbljicaaGreatDoor
open Go.RowKit Num

set_option maxRecDepth 100000
set_option maxHeartbeats 2000000
end Go.Proofs.YtcankknlbljicaaGreatDoor
