/-  -/
import Derived.Test.YtcankknlbljicaaGreatDoorWr
import Derived.Lib.SmallJoins

set_option linter.unusedVariables false
set_option linter.unusedSimpArgs false
set_option linter.unusedSectionVars false
set_option maxRecDepth 100000
set_option maxHeartbeats 3200000

namespace Go.Proofs.YtcankknlbljicaaGreatDoor
open Go.RowKit Num

theorem top_pad {ys : List Nat} {n : Nat} (hl : ys.length ≤ n + 3) : val ys = ((ys.getD (n + 2) 0 * 4294967296 + ys.getD (n + 1) 0) * 4294967296 + ys.getD n 0) * 4294967296 ^ n + val (ys.take n) := by
 have h1 := val_take_more ys n
 have h2 := val_take_more ys (n + 1)
 have h3 := val_take_more ys (n + 2)
 rw [val_take_of_ge hl, h2, h1] at h3
 have e1 : 4294967296 ^ (n + 1) = 4294967296 ^ n * 4294967296 := by rw [Nat.pow_succ]
 have e2 : 4294967296 ^ (n + 2) = 4294967296 ^ n * 4294967296 * 4294967296 := by rw [Nat.pow_succ, Nat.pow_succ]
 rw [h3, e2, e1]
 generalize 4294967296 ^ n = P
 simp only [Nat.add_mul, Nat.mul_add, Nat.mul_assoc, Nat.mul_comm, Nat.mul_left_comm]
 omega
theorem first_split {q p P D2 D1 D0 L V : Nat} (hqp : q * p = 4294967296) (hV : V = ((D2 * 4294967296 + D1) * 4294967296 + D0) * P + L) (hL : L < P) (hD0 : D0 < 4294967296) :
  V = ((D2 * 4294967296 + D1) * q + D0 / p) * (p * P) + (D0 % p * P + L) ∧ D0 % p * P + L < p * P := by
 have hp : 0 < p := Nat.pos_of_ne_zero (by rintro rfl; simp at hqp)
 have hd := Nat.div_add_mod D0 p
 constructor
 ·rw [hV]
  have e1 : ((D2 * 4294967296 + D1) * q) * (p * P) = (D2 * 4294967296 + D1) * 4294967296 * P := by rw [← hqp]; simp only [Nat.mul_assoc, Nat.mul_left_comm]
  have e2 : D0 * P = D0 / p * (p * P) + D0 % p * P := by
   have : (p * (D0 / p) + D0 % p) * P = D0 * P := by rw [hd]
   rw [← this, Nat.add_mul]; simp only [Nat.mul_assoc, Nat.mul_left_comm]
  rw [Nat.add_mul, Nat.add_mul (_ * q), e1, e2]; omega
 ·have h1 : D0 % p < p := Nat.mod_lt _ hp
  have h2 : (D0 % p + 1) * P ≤ p * P := Nat.mul_le_mul_right _ h1
  rw [Nat.succ_mul] at h2; omega
theorem first_div {q p P D2 D1 D0 L V : Nat} (hqp : q * p = 4294967296) (hV : V = ((D2 * 4294967296 + D1) * 4294967296 + D0) * P + L) (hL : L < P) (hD0 : D0 < 4294967296) :
  V / (p * P) = (D2 * 4294967296 + D1) * q + D0 / p := by
 obtain ⟨h1, h2⟩ := first_split hqp hV hL hD0
 rw [h1, Nat.mul_comm _ (p * P), Nat.mul_add_div (by omega), Nat.div_eq_of_lt h2, Nat.add_zero]
theorem first_top {q p P D2 D1 D0 L V : Nat} (hqp : q * p = 4294967296) (hV : V = ((D2 * 4294967296 + D1) * 4294967296 + D0) * P + L) (hVl : V < p * (4294967296 * 4294967296 * P)) : D2 < p := by
 apply Classical.byContradiction; intro hn
 have h1 : p * (4294967296 * 4294967296 * P) ≤ D2 * (4294967296 * 4294967296 * P) := Nat.mul_le_mul_right _ (by omega)
 have h2 : D2 * (4294967296 * 4294967296 * P) ≤ V := by
  rw [hV]; simp only [Nat.add_mul, Nat.mul_assoc]; omega
 omega
theorem first_word {s q p D2 D1 D0 : Nat} (hs : s ≤ 31) (hq : q = 2 ^ s) (hp : p = 2 ^ (32 - s)) (h2 : D2 < p) (h1 : D1 < 4294967296) (h0 : D0 < 4294967296) :
  bits BinOp.or IntKind.u64 ((D2 : Int) * 4294967296) (D1 : Int) = ((D2 * 4294967296 + D1 : Nat) : Int) ∧
  ∀ U Z : Int, U = ((D2 * 4294967296 + D1 : Nat) : Int) * ((q : Nat) : Int) → Z = ((D0 / p : Nat) : Int) → 0 ≤ U ∧ U < 18446744073709551616 ∧ bits BinOp.or IntKind.u64 U Z = (((D2 * 4294967296 + D1) * q + D0 / p : Nat) : Int) ∧ (D2 * 4294967296 + D1) * q + D0 / p < 18446744073709551616 := by
 have hqp : q * p = 4294967296 := by rw [hq, hp, ← Nat.pow_add, show s + (32 - s) = 32 by omega]
 have hp32 : p ≤ 4294967296 := by rw [hp]; exact Nat.le_trans (Nat.pow_le_pow_right (by omega) (show 32 - s ≤ 32 by omega)) (by omega)
 have e1 := or_high 32 (D2 * 4294967296) D1 (by omega) (by omega) (by omega) (by omega)
 have hqd : D0 / p < q := Nat.div_lt_of_lt_mul (by rw [Nat.mul_comm, hqp]; exact h0)
 have hle : (D2 * 4294967296 + D1 + 1) * q ≤ p * 4294967296 * q := Nat.mul_le_mul_right _ (by have := Nat.mul_le_mul_right 4294967296 (show D2 + 1 ≤ p by omega); omega)
 have hpq : p * 4294967296 * q = 18446744073709551616 := by rw [Nat.mul_comm p, Nat.mul_assoc, Nat.mul_comm p q, hqp]
 rw [hpq, Nat.succ_mul] at hle
 refine ⟨by rw [← e1]; simp, ?_⟩
 rintro U Z rfl rfl
 have hqm : (D2 * 4294967296 + D1) * q % 2 ^ s = 0 := by rw [← hq]; exact Nat.mul_mod_left _ _
 have e3 : ((D2 * 4294967296 + D1 : Nat) : Int) * ((q : Nat) : Int) = (((D2 * 4294967296 + D1) * q : Nat) : Int) := by rw [Int.natCast_mul]
 rw [e3]
 obtain ⟨T, hT⟩ : ∃ T, T = (D2 * 4294967296 + D1) * q := ⟨_, rfl⟩
 rw [← hT] at hle hqm ⊢
 clear hT
 have e2 := or_high s T (D0 / p) (by rw [← hq]; exact hqd) hqm (by omega) (by omega)
 exact ⟨by omega, by omega, e2, by omega⟩

theorem tops_cells {w : World} {g : Nat} {v0 v1 v2 : Value} {t : TypeId} (h : w.heap[g]? = some (.cells #[v0, v1, v2] t (0, 0))) :
  w.cell? ⟨g, 0, none⟩ = some v0 ∧ w.cell? ⟨g, 1, none⟩ = some v1 ∧ w.cell? ⟨g, 2, none⟩ = some v2 ∧ (∀ i, w.frozen? ⟨g, i, none⟩ = false) := by
 refine ⟨?_, ?_, ?_, fun i => ?_⟩
 all_goals simp [World.cell?, World.frozen?, h]

theorem firstBits_any (ao : Option Addr) (c n N s : Nat) (ys : List Nat) (w : World) (h : Rd w ao c ys) (hN : N = n + 3) (hNl : N ≤ 9223372036854775807) (hl : ys.length ≤ N) (hs : s ≤ 31) (hv : val ys < 2 ^ (32 - s) * (4294967296 * 4294967296 * 4294967296 ^ n)) :
  Calls Tryz.prog 245 #[.slice ao ys.length c, .int .i64 (N : Int), .int .i64 (s : Int)] w (RetB (.int .u64 ((val ys / (2 ^ (32 - s) * 4294967296 ^ n) : Nat) : Int)) w) := by
 have hle := h.le
 have hcm := h.cm
 obtain ⟨q, hq⟩ : ∃ q, q = 2 ^ s := ⟨_, rfl⟩
 obtain ⟨p, hp⟩ : ∃ p, p = 2 ^ (32 - s) := ⟨_, rfl⟩
 have hqp : q * p = 4294967296 := by rw [hq, hp, ← Nat.pow_add, show s + (32 - s) = 32 by omega]
 obtain ⟨D2, hD2⟩ : ∃ d, d = ys.getD (n + 2) 0 := ⟨_, rfl⟩
 obtain ⟨D1, hD1⟩ : ∃ d, d = ys.getD (n + 1) 0 := ⟨_, rfl⟩
 obtain ⟨D0, hD0⟩ : ∃ d, d = ys.getD n 0 := ⟨_, rfl⟩
 have hd1 : D1 < 4294967296 := by rw [hD1]; exact wf_getD h.dg _
 have hd0 : D0 < 4294967296 := by rw [hD0]; exact wf_getD h.dg _
 have hV := top_pad (ys := ys) (n := n) (by omega)
 rw [← hD2, ← hD1, ← hD0] at hV
 rw [← hp] at hv ⊢
 have hd2 := first_top hqp hV hv
 have hp32 : p ≤ 4294967296 := by rw [hp]; exact Nat.le_trans (Nat.pow_le_pow_right (by omega) (show 32 - s ≤ 32 by omega)) (by omega)
 have hres := first_div hqp hV (val_take_lt h.dg n) hd0
 obtain ⟨ho1, ho2⟩ := first_word hs hq hp hd2 hd1 hd0
 obtain ⟨R, hR⟩ : ∃ R, R = val ys / (p * 4294967296 ^ n) := ⟨_, rfl⟩
 rw [← hR] at hres ⊢
 obtain ⟨M, hM⟩ : ∃ M, M = D2 * 4294967296 + D1 := ⟨_, rfl⟩
 rw [← hM] at ho1 hres
 simp only [← hM] at ho2
 simp only [← hres] at ho2
 have hMl : M < 18446744073709551616 := by omega
 have HQ := hid (And.intro hq (And.intro hp ho2))
 have HH := hid h
 have HD := hid (And.intro hD2 (And.intro hD1 hD0))
 have HN := hid hN
 clear h hq hp hqp hD2 hD1 hD0 hV hv hres hR hM ho2 hN
 go_enter Tryz.func245, Tryz.ntmps245
 go_wp2
 go_loopw [10] (fun iv wr => ∃ (k : Nat) (I : Int), k ≤ 3 ∧ iv = .int .i64 I ∧ Hid (I = (k : Int)) ∧ Below w.heap.size w wr ∧ Hid (wr.heap[w.heap.size]? = some (.cells #[.int .u64 ((if 0 < k then D2 else 0 : Nat) : Int), .int .u64 ((if 1 < k then D1 else 0 : Nat) : Int), .int .u64 ((if 2 < k then D0 else 0 : Nat) : Int)] 195 (0, 0))))
  (fun iv _ => (3 - intOf iv).toNat)
 case atStart => exact ⟨0, 0, by omega, rfl, rfl, below_alloc _ _, heap_alloc_at _ _⟩
 case round =>
  obtain ⟨k, I, hk, rfl, HI, hbel, HC⟩ := hrel
  obtain ⟨t0, t1, t2, tf⟩ := tops_cells HC.out
  have hf0 := tf 0
  have hf1 := tf 1
  have hf2 := tf 2
  clear tf
  rcases (by omega : k = 0 ∨ k = 1 ∨ k = 2 ∨ k = 3) with rfl | rfl | rfl | rfl
  ·obtain rfl : I = 0 := HI.out
   by_cases hat : (n + 2) < ys.length
   ·obtain ⟨b1, o1, rfl, hxc⟩ : ∃ b o, ao = some ⟨b, o, none⟩ ∧ wr.cell? ⟨b, o + (N - 1), none⟩ = some (.int .u32 (D2 : Int)) := by
     rcases (HH.out.below hbel).lies with h9 | ⟨b, o, h1, h2⟩
     ·rw [h9] at hat; simp at hat
     ·exact ⟨b, o, h1, by rw [show (N - 1) = (n + 2) by have := HN.out; omega, h2 (n + 2) hat, ← HD.out.1]⟩
    have hAi : (N : Int) - 1 < (ys.length : Int) := by have := HN.out; omega
    have hA0 : 0 ≤ (N : Int) - 1 := by have := HN.out; omega
    have HS := hid (Go.Joins.block_setCell (i := 0) HC.out (.int .u64 (D2 : Int)))
    have HB2 := hid (hbel.setCell (p := ⟨w.heap.size, 0, none⟩) (Nat.le_refl _) (.int .u64 (D2 : Int)))
    go_wp2
    exact ⟨⟨1, 1, by omega, rfl, rfl, HB2.out, HS.out⟩, by simp [intOf]⟩
   ·have hAi : ¬ ((N : Int) - 1 < (ys.length : Int)) := by have := HN.out; omega
    have HZ := hid (show D2 = 0 by rw [HD.out.1, getD_out hat])
    go_wp2
    refine ⟨⟨1, 1, by omega, rfl, rfl, hbel, ?_⟩, by simp [intOf]⟩
    have h := HC.out
    rw [HZ.out] at h ⊢
    exact h
  ·obtain rfl : I = 1 := HI.out
   by_cases hat : (n + 1) < ys.length
   ·obtain ⟨b1, o1, rfl, hxc⟩ : ∃ b o, ao = some ⟨b, o, none⟩ ∧ wr.cell? ⟨b, o + (N - 1 - 1), none⟩ = some (.int .u32 (D1 : Int)) := by
     rcases (HH.out.below hbel).lies with h9 | ⟨b, o, h1, h2⟩
     ·rw [h9] at hat; simp at hat
     ·exact ⟨b, o, h1, by rw [show (N - 1 - 1) = (n + 1) by have := HN.out; omega, h2 (n + 1) hat, ← HD.out.2.1]⟩
    have hAi : (N : Int) - 1 - 1 < (ys.length : Int) := by have := HN.out; omega
    have hA0 : 0 ≤ (N : Int) - 1 - 1 := by have := HN.out; omega
    have HS := hid (Go.Joins.block_setCell (i := 1) HC.out (.int .u64 (D1 : Int)))
    have HB2 := hid (hbel.setCell (p := ⟨w.heap.size, 1, none⟩) (Nat.le_refl _) (.int .u64 (D1 : Int)))
    go_wp2
    exact ⟨⟨2, 2, by omega, rfl, rfl, HB2.out, HS.out⟩, by simp [intOf]⟩
   ·have hAi : ¬ ((N : Int) - 1 - 1 < (ys.length : Int)) := by have := HN.out; omega
    have HZ := hid (show D1 = 0 by rw [HD.out.2.1, getD_out hat])
    go_wp2
    refine ⟨⟨2, 2, by omega, rfl, rfl, hbel, ?_⟩, by simp [intOf]⟩
    have h := HC.out
    rw [HZ.out] at h ⊢
    exact h
  ·obtain rfl : I = 2 := HI.out
   by_cases hat : n < ys.length
   ·obtain ⟨b1, o1, rfl, hxc⟩ : ∃ b o, ao = some ⟨b, o, none⟩ ∧ wr.cell? ⟨b, o + (N - 1 - 2), none⟩ = some (.int .u32 (D0 : Int)) := by
     rcases (HH.out.below hbel).lies with h9 | ⟨b, o, h1, h2⟩
     ·rw [h9] at hat; simp at hat
     ·exact ⟨b, o, h1, by rw [show (N - 1 - 2) = n by have := HN.out; omega, h2 n hat, ← HD.out.2.2]⟩
    have hAi : (N : Int) - 1 - 2 < (ys.length : Int) := by have := HN.out; omega
    have hA0 : 0 ≤ (N : Int) - 1 - 2 := by have := HN.out; omega
    have HS := hid (Go.Joins.block_setCell (i := 2) HC.out (.int .u64 (D0 : Int)))
    have HB2 := hid (hbel.setCell (p := ⟨w.heap.size, 2, none⟩) (Nat.le_refl _) (.int .u64 (D0 : Int)))
    go_wp2
    exact ⟨⟨3, 3, by omega, rfl, rfl, HB2.out, HS.out⟩, by simp [intOf]⟩
   ·have hAi : ¬ ((N : Int) - 1 - 2 < (ys.length : Int)) := by have := HN.out; omega
    have HZ := hid (show D0 = 0 by rw [HD.out.2.2, getD_out hat])
    go_wp2
    refine ⟨⟨3, 3, by omega, rfl, rfl, hbel, ?_⟩, by simp [intOf]⟩
    have h := HC.out
    rw [HZ.out] at h ⊢
    exact h
  ·obtain rfl : I = 3 := HI.out
   rw [if_pos (by omega)] at t0 t1 t2
   have hd2' : D2 < 4294967296 := by omega
   clear HC HI HH HD HN
   go_wp2_with fail
   go_quiet (fail)
   go_wp2
   go_ret
   have HV : bits BinOp.or IntKind.u64 (IntKind.u64.wrap ((M : Int) * 2 ^ s)) ((D0 : Int) / 2 ^ (32 - s)) = (R : Int) := by
    obtain ⟨hq, hp, h⟩ := HQ.out
    obtain ⟨h1, h2, h3, _⟩ := h ((M : Int) * 2 ^ s) ((D0 : Int) / 2 ^ (32 - s)) (by rw [hq]; simp) (by rw [hp]; simp)
    rw [show IntKind.u64.wrap ((M : Int) * 2 ^ s) = (M : Int) * 2 ^ s by rw [IntKind.wrap_u64]; omega]
    exact h3
   exact ⟨by rw [HV]; rfl, hbel.trans ((below_drewN wr nq).mono hbel.size)⟩
end Go.Proofs.YtcankknlbljicaaGreatDoor

namespace Go.Proofs.YtcankknlbljicaaGreatDoor
open Go.RowKit Num

def gsv (x0 y0 x1 y1 : Nat) (ev : Bool) : Array Value := #[.int .u64 (x0 : Int), .int .u64 (y0 : Int), .int .u64 (x1 : Int), .int .u64 (y1 : Int), .bool ev]
def RetGs (A B : Nat) (w : World) (e : Ending) (w' : World) : Prop := ∃ x0 y0 x1 y1 ev, e = .returned (.agg (gsv x0 y0 x1 y1 ev)) ∧ GsOk A B x0 y0 x1 y1 ev ∧ Below w.heap.size w w'

theorem steps_cells {w : World} {g : Nat} {v0 v1 v2 v3 v4 : Value} {t : TypeId} (h : w.heap[g]? = some (.cells #[v0, v1, v2, v3, v4] t (0, 0))) :
  w.cell? ⟨g, 0, none⟩ = some v0 ∧ w.cell? ⟨g, 1, none⟩ = some v1 ∧ w.cell? ⟨g, 2, none⟩ = some v2 ∧ w.cell? ⟨g, 3, none⟩ = some v3 ∧ w.cell? ⟨g, 4, none⟩ = some v4 ∧
   w.frozen? ⟨g, 0, none⟩ = false ∧ w.frozen? ⟨g, 1, none⟩ = false ∧ w.frozen? ⟨g, 2, none⟩ = false ∧ w.frozen? ⟨g, 3, none⟩ = false ∧ w.frozen? ⟨g, 4, none⟩ = false := by
 simp [World.cell?, World.frozen?, h]

theorem guessSteps_any (aa ab : Option Addr) (ca cb n d : Nat) (xs ys : List Nat) (w : World) (ha : Rd w aa ca xs) (hb : Rd w ab cb ys) (hn : xs.length = n + 3) (hy : ys.length ≤ xs.length) (hle : val ys ≤ val xs) (hd : d = xs.getD (n + 2) 0) (hd0 : d ≠ 0) :
  Calls Tryz.prog 225 #[.slice aa xs.length ca, .slice ab ys.length cb] w (RetGs (val xs / (2 ^ blen d * 4294967296 ^ n)) (val ys / (2 ^ blen d * 4294967296 ^ n)) w) := by
 have hax := ha.le
 have hax2 := ha.cm
 have hby := hb.le
 have hby2 := hb.cm
 have hdl : d < 4294967296 := by rw [hd]; exact wf_getD ha.dg _
 have hbl := blen_u32 hdl
 obtain ⟨s, hs⟩ : ∃ s, s = 32 - blen d := ⟨_, rfl⟩
 have hsb : blen d = 32 - s := by omega
 have hs31 : s ≤ 31 := by have := blen_pos hd0; omega
 have hlz := fun w => lz32_any d w hdl
 have hsi : (32 : Int) - (blen d : Int) = (s : Int) := by omega
 rw [hsi] at hlz
 have hdt : d < 2 ^ (32 - s) := by rw [← hsb]; exact lt_blen d
 rw [hsb]
 have hvx : val xs < 2 ^ (32 - s) * (4294967296 * 4294967296 * 4294967296 ^ n) := by
  have h1 := top_pad (ys := xs) (n := n) (by omega)
  have h2 := val_take_lt ha.dg n
  have h3 : xs.getD (n + 1) 0 < 4294967296 := wf_getD ha.dg _
  have h4 : xs.getD n 0 < 4294967296 := wf_getD ha.dg _
  rw [← hd] at h1
  have h5 : (d + 1) * (4294967296 * 4294967296 * 4294967296 ^ n) ≤ 2 ^ (32 - s) * (4294967296 * 4294967296 * 4294967296 ^ n) := Nat.mul_le_mul_right _ hdt
  refine Nat.lt_of_lt_of_le ?_ h5
  rw [h1]
  generalize 4294967296 ^ n = P at *
  have h6 : (xs.getD n 0 + 1) * P ≤ 4294967296 * P := Nat.mul_le_mul_right _ h4
  have h7 : (xs.getD (n + 1) 0 + 1) * (4294967296 * P) ≤ 4294967296 * (4294967296 * P) := Nat.mul_le_mul_right _ h3
  simp only [Nat.add_mul, Nat.mul_assoc, Nat.one_mul] at h6 h7 ⊢
  omega
 have hvy : val ys < 2 ^ (32 - s) * (4294967296 * 4294967296 * 4294967296 ^ n) := Nat.lt_of_le_of_lt hle hvx
 have FX := hid (fun w' (h : Rd w' aa ca xs) => firstBits_any aa ca n xs.length s xs w' h hn (by omega) (Nat.le_refl _) hs31 hvx)
 have FY := hid (fun w' (h : Rd w' ab cb ys) => firstBits_any ab cb n xs.length s ys w' h hn (by omega) hy hs31 hvy)
 have hE : 0 < 2 ^ (32 - s) * 4294967296 ^ n := Nat.mul_pos (Nat.pow_pos (by omega)) (pow_pos n)
 have hA64 : val xs / (2 ^ (32 - s) * 4294967296 ^ n) < 18446744073709551616 := by
  refine Nat.div_lt_of_lt_mul ?_
  refine Nat.lt_of_lt_of_eq hvx ?_
  rw [show (18446744073709551616 : Nat) = 4294967296 * 4294967296 from rfl]
  simp only [Nat.mul_comm, Nat.mul_left_comm]
 have hBA : val ys / (2 ^ (32 - s) * 4294967296 ^ n) ≤ val xs / (2 ^ (32 - s) * 4294967296 ^ n) := Nat.div_le_div_right hle
 obtain ⟨A, hA⟩ : ∃ A, A = val xs / (2 ^ (32 - s) * 4294967296 ^ n) := ⟨_, rfl⟩
 obtain ⟨B, hB⟩ : ∃ B, B = val ys / (2 ^ (32 - s) * 4294967296 ^ n) := ⟨_, rfl⟩
 rw [← hA] at hA64 hBA FX ⊢
 rw [← hB] at hBA FY ⊢
 rcases ha.lies with h1 | ⟨b1, o1, rfl, hc1⟩
 ·rw [h1] at hn; simp at hn
 have cd := hc1 (n + 2) (by omega)
 rw [← hd, show n + 2 = xs.length - 1 by omega] at cd
 have HR := hid (And.intro ha hb)
 have hx3 : 3 ≤ xs.length := by omega
 have hB64 : B < 18446744073709551616 := by omega
 have hb0 := below_alloc w (.cells #[.int .u64 0, .int .u64 0, .int .u64 0, .int .u64 0, .bool false] 173)
 have hg0 := heap_alloc_at w (.cells #[.int .u64 0, .int .u64 0, .int .u64 0, .int .u64 0, .bool false] 173)
 have cd2 := (hb0.cell (lt_of_cell cd)).trans cd
 have HB0 := hid (And.intro hb0 hg0)
 have HAB := hid (And.intro hA64 hBA)
 clear hd hs hsb hsi hvx hvy hE hA hB hc1 ha hb hn hle hdt hb0 hg0 cd
 go_enter Tryz.func225, Tryz.ntmps225
 go_wp2_with (go_at_call 244; refine (hlz _).mono ?_; rintro e w' ⟨rfl, rfl⟩)
 have h1 := FX.out _ (HR.out.1.below HB0.out.1)
 refine h1.mono ?_
 rintro e w1 ⟨rfl, k1⟩
 go_wp2_with fail
 have h2 := FY.out w1 ((HR.out.2.below HB0.out.1).below k1)
 refine h2.mono ?_
 rintro e w2 ⟨rfl, k2⟩
 have k12 := k1.trans (k2.mono k1.size)
 have HK := hid k12
 clear h1 h2 k1 k2 k12
 go_wp2_with fail
 have HP := hid (And.intro (HB0.out.1.trans (HK.out.mono HB0.out.1.size)) ((HK.out.block w.heap.size (by have := (Array.getElem?_eq_some_iff.1 HB0.out.2).1; exact this)).trans HB0.out.2))
 have hgw : w.heap.size < w2.heap.size := (Array.getElem?_eq_some_iff.1 HP.out.2).1
 have hne : ¬ (w2.heap.size = w.heap.size) := by omega
 have hne2 : ¬ (w.heap.size = w2.heap.size) := by omega
 clear HR FX FY HK HB0
 go_loopw [7, 8, 10, 11] (fun av bv xv yv wr => ∃ (a b x0 x1 x2 y0 y1 y2 : Nat) (ev : Bool), av = .int .u64 (a : Int) ∧ bv = .int .u64 (b : Int) ∧ xv = .int .u64 (x2 : Int) ∧ yv = .int .u64 (y2 : Int) ∧
   a < 18446744073709551616 ∧ b ≤ a ∧ x2 < 18446744073709551616 ∧ y2 < 18446744073709551616 ∧ Hid (GsI A B a b x0 x1 x2 y0 y1 y2 ev) ∧ Hid (wr.heap[w2.heap.size]? = some (.cells (gsv x0 y0 x1 y1 ev) 173 (0, 0))) ∧
   Hid (wr.heap[w.heap.size]? = some (.cells (gsv 0 0 0 0 false) 173 (0, 0)) ∧ Below w.heap.size w wr)) (fun _ bv _ _ _ => (intOf bv).toNat)
 case atStart =>
  exact ⟨A, B, 0, 1, 0, 0, 0, 1, false, rfl, rfl, rfl, rfl, hA64, hBA, by omega, by omega, GsI.start hBA, heap_alloc_at _ _, (by rw [heap_alloc_old w2 _ hgw]; exact HP.out.2), HP.out.1.trans ((below_alloc w2 _).mono HP.out.1.size)⟩
 case round =>
  obtain ⟨a, b, x0, x1, x2, y0, y1, y2, ev, rfl, rfl, rfl, rfl, hal, hba, hx2l, hy2l, HI, HC, HW⟩ := hrel
  clear HP
  by_cases hc1 : y2 ≤ b
  ·have hsm := HI.out.small hA64 hBA hc1
   by_cases hc2 : y1 + y2 ≤ a - b
   ·have hb1 : 1 ≤ b := by have := HI.out.2.2.2.2.2.1; omega
    have hst := HI.out.step hc1 hc2
    obtain ⟨n1, n2, _, _⟩ := hst.small2 hA64 hBA hb1
    obtain ⟨c0, c1, c2, c3, c4, f0, f1, f2, f3, f4⟩ := steps_cells HC.out
    have hci : (y2 : Int) ≤ (b : Int) := by omega
    have hcj : (y1 : Int) + (y2 : Int) ≤ (a : Int) - (b : Int) := by omega
    have hdm := Nat.div_add_mod a b
    have hml := Nat.mod_lt a (show b > 0 by omega)
    obtain ⟨q, hq⟩ : ∃ q, q = a / b := ⟨_, rfl⟩
    obtain ⟨r, hr⟩ : ∃ r, r = a % b := ⟨_, rfl⟩
    rw [← hq, ← hr] at hst
    rw [← hq] at n1 n2
    rw [← hr] at hml
    rw [← hq, ← hr] at hdm
    obtain ⟨QB, hQB⟩ : ∃ z, z = q * b := ⟨_, rfl⟩
    obtain ⟨QX, hQX⟩ : ∃ z, z = q * x2 := ⟨_, rfl⟩
    obtain ⟨QY, hQY⟩ : ∃ z, z = q * y2 := ⟨_, rfl⟩
    rw [← hQX] at n2 hst
    rw [← hQY] at n1 hst
    rw [Nat.mul_comm, ← hQB] at hdm
    have hbi : ¬ ((b : Int) = 0) := by omega
    have hqi : (a : Int) / (b : Int) = (q : Int) := by rw [hq]; simp
    have hqb : (q : Int) * (b : Int) = (QB : Int) := by rw [hQB]; simp
    have hqx : (q : Int) * (x2 : Int) = (QX : Int) := by rw [hQX]; simp
    have hqy : (q : Int) * (y2 : Int) = (QY : Int) := by rw [hQY]; simp
    have hri : (a : Int) - (QB : Int) = (r : Int) := by omega
    have hx1s : x1 + QX < 18446744073709551616 := n2
    have hy1s : y1 + QY < 18446744073709551616 := n1
    have hqs : q < 18446744073709551616 := by rw [hq]; exact Nat.lt_of_le_of_lt (Nat.div_le_self _ _) hal
    have hQBs : QB < 18446744073709551616 := by omega
    have hrb : r ≤ b := by omega
    have hbl : b < 18446744073709551616 := by omega
    have H1 := Go.Joins.block_setCell (i := 4) (Go.Joins.block_setCell (i := 3) (Go.Joins.block_setCell (i := 1) (Go.Joins.block_setCell (i := 2) (Go.Joins.block_setCell (i := 0) HC.out (.int .u64 (x1 : Int))) (.int .u64 (x2 : Int))) (.int .u64 (y1 : Int))) (.int .u64 (y2 : Int))) (.bool (!ev))
    have HC2 := hid H1
    have HI2 := hid hst
    have hgb : w.heap.size ≤ w2.heap.size := by omega
    have HW2 := hid (show (((((wr.setCell ⟨w2.heap.size, 0, none⟩ (.int .u64 (x1 : Int))).setCell ⟨w2.heap.size, 2, none⟩ (.int .u64 (x2 : Int))).setCell ⟨w2.heap.size, 1, none⟩ (.int .u64 (y1 : Int))).setCell ⟨w2.heap.size, 3, none⟩ (.int .u64 (y2 : Int))).setCell ⟨w2.heap.size, 4, none⟩ (.bool (!ev))).heap[w.heap.size]? = some (.cells (gsv 0 0 0 0 false) 173 (0, 0)) ∧
      Below w.heap.size w (((((wr.setCell ⟨w2.heap.size, 0, none⟩ (.int .u64 (x1 : Int))).setCell ⟨w2.heap.size, 2, none⟩ (.int .u64 (x2 : Int))).setCell ⟨w2.heap.size, 1, none⟩ (.int .u64 (y1 : Int))).setCell ⟨w2.heap.size, 3, none⟩ (.int .u64 (y2 : Int))).setCell ⟨w2.heap.size, 4, none⟩ (.bool (!ev))) from by
     refine ⟨?_, (((((HW.out.2.setCell (p := ⟨w2.heap.size, 0, none⟩) hgb _).setCell (p := ⟨w2.heap.size, 2, none⟩) hgb _).setCell (p := ⟨w2.heap.size, 1, none⟩) hgb _).setCell (p := ⟨w2.heap.size, 3, none⟩) hgb _).setCell (p := ⟨w2.heap.size, 4, none⟩) hgb _)⟩
     rw [Below.heap_setCell _ ⟨w2.heap.size, 4, none⟩ _ _ hne2, Below.heap_setCell _ ⟨w2.heap.size, 3, none⟩ _ _ hne2, Below.heap_setCell _ ⟨w2.heap.size, 1, none⟩ _ _ hne2, Below.heap_setCell _ ⟨w2.heap.size, 2, none⟩ _ _ hne2, Below.heap_setCell _ ⟨w2.heap.size, 0, none⟩ _ _ hne2]
     exact HW.out.1)
    clear hq hr hQB hQX hQY hst n1 n2 H1 HC HI HW hc1 hc2 hdm
    go_wp2
    exact ⟨⟨b, r, x1, x2, x1 + QX, y1, y2, y1 + QY, !ev, rfl, rfl, int_eq (by omega), int_eq (by omega), hbl, hrb, hx1s, hy1s, HI2.out, HC2.out, HW2.out⟩, by simp only [intOf]; omega⟩
   ·obtain ⟨c0, c1, c2, c3, c4, f0, f1, f2, f3, f4⟩ := steps_cells HC.out
    obtain ⟨r0, r1, r2, r3, r4, g0, g1, g2, g3, g4⟩ := steps_cells HW.out.1
    have hci : (y2 : Int) ≤ (b : Int) := by omega
    have hcj : ¬ ((y1 : Int) + (y2 : Int) ≤ (a : Int) - (b : Int)) := by omega
    have HF := hid (And.intro (HI.out.ok hA64) HW.out.2)
    clear HI HC HW hc1 hc2
    go_wp2
    refine bodyPost_ret (v := .agg (gsv x0 y0 x1 y1 ev)) (by simp [results, Tryz.results225, go_sem, r0, r1, r2, r3, r4, gsv]) rfl ?_
    exact ⟨x0, y0, x1, y1, ev, rfl, HF.out.1, ((((HF.out.2.setCell (p := ⟨w.heap.size, 0, none⟩) (Nat.le_refl _) _).setCell (p := ⟨w.heap.size, 1, none⟩) (Nat.le_refl _) _).setCell (p := ⟨w.heap.size, 2, none⟩) (Nat.le_refl _) _).setCell (p := ⟨w.heap.size, 3, none⟩) (Nat.le_refl _) _).setCell (p := ⟨w.heap.size, 4, none⟩) (Nat.le_refl _) _⟩
  ·obtain ⟨c0, c1, c2, c3, c4, f0, f1, f2, f3, f4⟩ := steps_cells HC.out
   obtain ⟨r0, r1, r2, r3, r4, g0, g1, g2, g3, g4⟩ := steps_cells HW.out.1
   have hci : ¬ ((y2 : Int) ≤ (b : Int)) := by omega
   have HF := hid (And.intro (HI.out.ok hA64) HW.out.2)
   clear HI HC HW
   go_wp2
   refine bodyPost_ret (v := .agg (gsv x0 y0 x1 y1 ev)) (by simp [results, Tryz.results225, go_sem, r0, r1, r2, r3, r4, gsv]) rfl ?_
   exact ⟨x0, y0, x1, y1, ev, rfl, HF.out.1, ((((HF.out.2.setCell (p := ⟨w.heap.size, 0, none⟩) (Nat.le_refl _) _).setCell (p := ⟨w.heap.size, 1, none⟩) (Nat.le_refl _) _).setCell (p := ⟨w.heap.size, 2, none⟩) (Nat.le_refl _) _).setCell (p := ⟨w.heap.size, 3, none⟩) (Nat.le_refl _) _).setCell (p := ⟨w.heap.size, 4, none⟩) (Nat.le_refl _) _⟩
end Go.Proofs.YtcankknlbljicaaGreatDoor
