/-  -/
import Derived.Test.YtiljjhhkklnlgaaGreatDoorQba

set_option linter.unusedVariables false
set_option linter.unusedSimpArgs false
set_option linter.unusedSectionVars false
set_option maxRecDepth 100000
set_option maxHeartbeats 3200000

namespace Go.Proofs.YtiljjhhkklnlgaaGreatDoor
open Go.RowKit Num

def rv (b : Bool) (n d : Nat) : Rat := mkRat (iv b n) d
theorem rv_zero (b : Bool) (n : Nat) : rv b n 0 = 0 := Rat.mkRat_zero _
theorem low_parts {z : Int} {d : Nat} (hd : d ≠ 0) : (mkRat z d).num = z / (Nat.gcd z.natAbs d : Int) ∧ (mkRat z d).den = d / Nat.gcd z.natAbs d := by
 refine ⟨?_, ?_⟩
 ·rw [Rat.num_mkRat, if_neg hd, Nat.gcd_comm]
 ·rw [Rat.den_mkRat, if_neg hd, Nat.gcd_comm]
theorem low_one {z : Int} {d : Nat} (hd : d ≠ 0) (h1 : Nat.gcd z.natAbs d = 1) : (mkRat z d).num = z ∧ (mkRat z d).den = d := by
 obtain ⟨h2, h3⟩ := low_parts (z := z) hd
 rw [h1] at h2 h3
 exact ⟨by rw [h2]; simp, by rw [h3]; simp⟩
theorem low_abs {b : Bool} {n d : Nat} (hd : d ≠ 0) : (rv b n d).num = iv b n / (Nat.gcd n d : Int) ∧ (rv b n d).den = d / Nat.gcd n d := by
 have h := low_parts (z := iv b n) hd
 rw [iv_abs] at h
 exact h
theorem rv_add_gcd {z1 z2 : Int} {d1 d2 g : Nat} (h1 : d1 ≠ 0) (h2 : d2 ≠ 0) (hg : g = Nat.gcd d1 d2) : mkRat z1 d1 + mkRat z2 d2 = mkRat (z1 * (d2 / g : Nat) + z2 * (d1 / g : Nat)) (d1 * (d2 / g)) := by
 have hg0 : g ≠ 0 := by
  rw [hg]; exact fun h => h1 (Nat.gcd_eq_zero_iff.1 h).1
 obtain ⟨k1, hk1⟩ : g ∣ d1 := by rw [hg]; exact Nat.gcd_dvd_left _ _
 obtain ⟨k2, hk2⟩ : g ∣ d2 := by rw [hg]; exact Nat.gcd_dvd_right _ _
 have e1 : d1 / g = k1 := by rw [hk1, Nat.mul_div_cancel_left _ (Nat.pos_of_ne_zero hg0)]
 have e2 : d2 / g = k2 := by rw [hk2, Nat.mul_div_cancel_left _ (Nat.pos_of_ne_zero hg0)]
 rw [e1, e2, Rat.mkRat_add_mkRat _ _ h1 h2]
 have e3 : (z1 * (d2 : Int) + z2 * (d1 : Int)) = (g : Int) * (z1 * (k2 : Int) + z2 * (k1 : Int)) := by
  rw [hk1, hk2]; simp only [Int.natCast_mul]; grind
 have e4 : d1 * d2 = g * (d1 * k2) := by rw [hk2]; grind
 rw [e3, e4, Rat.mkRat_mul_left hg0]
theorem rv_same {z1 z2 : Int} {d : Nat} (h : d ≠ 0) : mkRat z1 d + mkRat z2 d = mkRat (z1 + z2) d := by
 rw [Rat.mkRat_add_mkRat _ _ h h]
 have e : z1 * (d : Int) + z2 * (d : Int) = (d : Int) * (z1 + z2) := by grind
 rw [e, Rat.mkRat_mul_left h]
theorem rv_mul {z1 z2 : Int} {d1 d2 : Nat} : mkRat z1 d1 * mkRat z2 d2 = mkRat (z1 * z2) (d1 * d2) := Rat.mkRat_mul_mkRat _ _ _ _
theorem rv_le {z1 z2 : Int} {d1 d2 : Nat} (h1 : d1 ≠ 0) (h2 : d2 ≠ 0) : mkRat z1 d1 ≤ mkRat z2 d2 ↔ z1 * d2 ≤ z2 * d1 := by
 rw [Rat.le_iff_sub_nonneg, Rat.sub_eq_add_neg, Rat.neg_mkRat, Rat.mkRat_add_mkRat _ _ h2 h1, ← Rat.divInt_ofNat]
 have hp : (0 : Int) < ((d2 * d1 : Nat) : Int) := by
  have := Nat.mul_pos (Nat.pos_of_ne_zero h2) (Nat.pos_of_ne_zero h1)
  omega
 rw [Rat.divInt_nonneg_iff_of_pos_right hp]
 constructor
 ·intro h; grind
 ·intro h; grind
theorem rv_lt {z1 z2 : Int} {d1 d2 : Nat} (h1 : d1 ≠ 0) (h2 : d2 ≠ 0) : mkRat z1 d1 < mkRat z2 d2 ↔ z1 * d2 < z2 * d1 := by
 have h := rv_le (z1 := z2) (z2 := z1) h2 h1
 constructor
 ·intro hl
  refine Int.not_le.1 fun hle => ?_
  exact absurd (Rat.not_lt.2 (h.2 hle)) (fun hn => hn hl)
 ·intro hl
  refine Classical.byContradiction fun hn => ?_
  have := h.1 (Rat.not_lt.1 hn)
  omega
theorem cmp_cross {z1 z2 : Int} {d1 d2 : Nat} (h1 : d1 ≠ 0) (h2 : d2 ≠ 0) : cmpI (z1 * d2) (z2 * d1) = if mkRat z1 d1 < mkRat z2 d2 then -1 else if mkRat z2 d2 < mkRat z1 d1 then 1 else 0 := by
 unfold cmpI
 by_cases ha : mkRat z1 d1 < mkRat z2 d2
 ·rw [if_pos ha, if_pos ((rv_lt h1 h2).1 ha)]
 ·rw [if_neg ha, if_neg (fun h => ha ((rv_lt h1 h2).2 h))]
  by_cases hb : mkRat z2 d2 < mkRat z1 d1
  ·rw [if_pos hb, if_pos ((rv_lt h2 h1).1 hb)]
  ·rw [if_neg hb, if_neg (fun h => hb ((rv_lt h2 h1).2 h))]
theorem rv_div {z1 z2 : Int} {d1 d2 : Nat} : mkRat z1 d1 / mkRat z2 d2 = Rat.divInt (z1 * d2) (d1 * z2) := by
 rw [← Rat.divInt_ofNat, ← Rat.divInt_ofNat, Rat.div_def, Rat.inv_divInt, Rat.divInt_mul_divInt]
theorem divInt_sign {z e : Int} (he : e ≠ 0) : Rat.divInt z e = mkRat (if e < 0 then -z else z) e.natAbs := by
 by_cases h : e < 0
 ·rw [if_pos h, ← Rat.divInt_ofNat, ← Rat.neg_divInt_neg]
  congr 1; omega
 ·rw [if_neg h, ← Rat.divInt_ofNat]
  congr 1; omega
end Go.Proofs.YtiljjhhkklnlgaaGreatDoor

namespace Go.Proofs.YtiljjhhkklnlgaaGreatDoor
open Go.RowKit Num

def rabs (q : Rat) : Rat := mkRat (q.num.natAbs : Int) q.den
theorem rabs_low (q : Rat) : (rabs q).num = q.num.natAbs ∧ (rabs q).den = q.den := low_one q.den_nz (by simpa using q.reduced)
theorem rabs_mk (z : Int) (d : Nat) : mkRat (z.natAbs : Int) d = rabs (mkRat z d) := by
 by_cases hd : d = 0
 ·subst hd; rw [Rat.mkRat_zero, Rat.mkRat_zero]; rfl
 ·obtain ⟨h1, h2⟩ := low_parts (z := z) hd
  unfold rabs
  rw [h1, h2]
  have hg : Nat.gcd z.natAbs d ≠ 0 := fun h => hd (Nat.gcd_eq_zero_iff.1 h).2
  obtain ⟨k1, hk1⟩ := Nat.gcd_dvd_left z.natAbs d
  obtain ⟨k2, hk2⟩ := Nat.gcd_dvd_right z.natAbs d
  obtain ⟨g, hgg⟩ : ∃ g, g = Nat.gcd z.natAbs d := ⟨_, rfl⟩
  rw [← hgg] at hg hk1 hk2 ⊢
  have e1 : (z / (g : Int)).natAbs = k1 := by
   rw [Int.natAbs_ediv_of_dvd (Int.ofNat_dvd_left.2 ⟨k1, hk1⟩), Int.natAbs_natCast, hk1, Nat.mul_div_cancel_left _ (Nat.pos_of_ne_zero hg)]
  have e2 : d / g = k2 := by rw [hk2, Nat.mul_div_cancel_left _ (Nat.pos_of_ne_zero hg)]
  rw [e1, e2, hk1]
  conv => lhs; rw [hk2, Int.natCast_mul]
  exact Rat.mkRat_mul_left hg
def cmpQ (a b : Rat) : Int := if a < b then -1 else if b < a then 1 else 0
def sgnQ (a : Rat) : Int := sgn a.num
theorem sgn_mk {z : Int} {d : Nat} (hd : d ≠ 0) : sgn z = sgnQ (mkRat z d) := by
 unfold sgnQ
 have h1 : 0 ≤ (mkRat z d).num ↔ 0 ≤ z := by
  have hd' : (0 : Int) < (d : Int) := by omega
  rw [Rat.num_nonneg, ← Rat.divInt_ofNat, Rat.divInt_nonneg_iff_of_pos_right hd']
 have h2 : (mkRat z d).num = 0 ↔ z = 0 := by rw [Rat.num_eq_zero, Rat.mkRat_eq_zero hd]
 unfold sgn
 by_cases ha : z < 0
 ·have hb : (mkRat z d).num < 0 := by omega
  rw [if_pos ha, if_pos hb]
 ·have hc : ¬ (mkRat z d).num < 0 := by omega
  rw [if_neg ha, if_neg hc]
  by_cases hb : z = 0
  ·rw [if_pos hb, if_pos (h2.2 hb)]
  ·rw [if_neg hb, if_neg (fun h => hb (h2.1 h))]
theorem sgnQ_eq (a : Rat) : sgnQ a = cmpQ a 0 := by
 unfold sgnQ sgn cmpQ
 have h1 := @Rat.num_nonneg a
 have h2 := @Rat.num_eq_zero a
 by_cases ha : a < 0
 ·have : ¬ 0 ≤ a := Rat.not_le.2 ha
  have hn : a.num < 0 := by have h4 : ¬ 0 ≤ a.num := fun h => this (h1.1 h); omega
  rw [if_pos ha, if_pos hn]
 ·have h3 : 0 ≤ a := Rat.not_lt.1 ha
  have hn : ¬ a.num < 0 := by have := h1.2 h3; omega
  rw [if_neg ha, if_neg hn]
  by_cases hb : a = 0
  ·subst hb; rfl
  ·rw [if_neg (fun h => hb (h2.1 h)), if_pos (Rat.lt_of_le_of_ne h3 (fun h => hb h.symm))]
theorem cmpQ_swap (a b : Rat) : cmpQ b a = - cmpQ a b := by
 unfold cmpQ
 by_cases h1 : a < b
 ·rw [if_pos h1, if_neg (Rat.not_lt.2 (Rat.le_of_lt h1)), if_pos h1]; rfl
 ·rw [if_neg h1]
  by_cases h2 : b < a
  ·rw [if_pos h2, if_pos h2, if_neg h1]
  ·rw [if_neg h2, if_neg h2, if_neg h1]; rfl
theorem floor_mk {z : Int} {d : Nat} (hd : d ≠ 0) : (mkRat z d).floor = z / (d : Int) := by
 obtain ⟨h1, h2⟩ := low_parts (z := z) hd
 rw [Rat.floor_def, h1, h2]
 have hg : Nat.gcd z.natAbs d ≠ 0 := fun h => hd (Nat.gcd_eq_zero_iff.1 h).2
 have hk1 : (Nat.gcd z.natAbs d : Int) ∣ z := Int.ofNat_dvd_left.2 (Nat.gcd_dvd_left z.natAbs d)
 obtain ⟨k2, hk2⟩ := Nat.gcd_dvd_right z.natAbs d
 obtain ⟨g, hgg⟩ : ∃ g, g = Nat.gcd z.natAbs d := ⟨_, rfl⟩
 rw [← hgg] at hg hk1 hk2 ⊢
 obtain ⟨k1, hk1⟩ := hk1
 have e1 : z / (g : Int) = k1 := by rw [hk1]; exact Int.mul_ediv_cancel_left _ (by omega)
 have e2 : d / g = k2 := by rw [hk2, Nat.mul_div_cancel_left _ (Nat.pos_of_ne_zero hg)]
 rw [e1, e2, hk1, hk2, Int.natCast_mul, Int.mul_ediv_mul_of_pos _ _ (by omega)]
theorem make_mk (b1 b2 : Bool) (n d : Nat) : mkRat (iv (b1 != b2) n) d = Rat.divInt (iv b1 n) (iv b2 d) := by
 cases b1 <;> cases b2 <;> simp [iv, Rat.divInt_neg', ← Rat.divInt_ofNat]
theorem neg_mk (b : Bool) (n d : Nat) : mkRat (iv (!b) n) d = -mkRat (iv b n) d := by
 rw [Rat.neg_mkRat]; cases b <;> simp [iv]
def dnQ (q : Rat) (k : Nat) : Rat := mkRat ((q * mkRat (2 ^ k : Nat) 1).floor) (2 ^ k)
def upQ (q : Rat) (k : Nat) : Rat := -(dnQ (-q) k)
def neQ (q : Rat) (k : Nat) : Rat := dnQ (q + mkRat 1 (2 ^ (k + 1))) k
theorem p2_ne (k : Nat) : 2 ^ k ≠ 0 := Nat.pos_iff_ne_zero.1 (Nat.two_pow_pos k)
theorem shift_mk (z : Int) (d k : Nat) : mkRat (z * (2 ^ k : Nat)) d = mkRat z d * mkRat (2 ^ k : Nat) 1 := by
 rw [Rat.mkRat_mul_mkRat, Nat.mul_one]
theorem cmp_crossQ {z1 z2 : Int} {d1 d2 : Nat} (h1 : d1 ≠ 0) (h2 : d2 ≠ 0) : cmpI (z1 * d2) (z2 * d1) = cmpQ (mkRat z1 d1) (mkRat z2 d2) := cmp_cross h1 h2
end Go.Proofs.YtiljjhhkklnlgaaGreatDoor
