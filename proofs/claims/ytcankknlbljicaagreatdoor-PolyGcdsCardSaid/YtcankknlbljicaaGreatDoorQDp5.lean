/-  -/
import Derived.Test.YtcankknlbljicaaGreatDoorQfl
import Derived.Test.YtcankknlbljicaaGreatDoorTie
import Derived.Test.YtcankknlbljicaaGreatDoorCards
import Derived.SevenTiedAt

set_option linter.unusedVariables false
set_option linter.unusedSimpArgs false
set_option linter.unusedSectionVars false
set_option maxRecDepth 100000
set_option maxHeartbeats 3200000

namespace Go.Proofs.YtcankknlbljicaaGreatDoor
set_option linter.unusedVariables false

theorem redN_scale (P Q : List Rat) (a b : Rat) : ∀ t, t ≤ P.length + 1 - Q.length → 1 ≤ Q.length → ∀ j, (redN P Q t).getD j 0 * (a * b ^ t) = (redN (P.map fun q => q * a) (Q.map fun q => q * b) t).getD j 0
 | 0, _, _, j => by simp only [redN]; rw [Rat.pow_zero, Rat.mul_one, getQ_mul]
 | t + 1, ht, h1, j => by
  have ih := redN_scale P Q a b t (by omega) h1
  have hl : (Q.map fun q => q * b).length = Q.length := List.length_map _
  have hp : (P.map fun q => q * a).length = P.length := List.length_map _
  rw [redN_succ, redN_succ, red_get h1 (by rw [redN_len]; omega), red_get (by omega) (by rw [redN_len]; omega), redN_len, redN_len, hl, hp, getQ_mul, Rat.pow_succ, ← ih, ← ih]
  by_cases h : P.length - t - Q.length ≤ j
  ·rw [if_pos h, if_pos h, getQ_mul]; grind
  ·rw [if_neg h, if_neg h]; grind
theorem PX.red {P Q : List Rat} {C D A B : Nat} (hP : PX P C A) (hQ : PX Q D B) (h1 : 1 ≤ Q.length) (t : Nat) (ht : t ≤ P.length + 1 - Q.length) : PX (redN P Q t) (C * D ^ t) (A * (2 * B) ^ t) :=
 ⟨Nat.mul_pos hP.1 (Nat.pow_pos hQ.1), fun j => by
  rw [Int.natCast_mul, Rat.intCast_mul, ← nat_powQ, redN_scale P Q _ _ t ht h1]
  exact redN_bi (fun j => by rw [getQ_mul]; exact hP.2 j) (fun j => by rw [getQ_mul]; exact hQ.2 j) t (by rw [List.length_map, List.length_map]; exact ht) j⟩
theorem PB.red {P Q : List Rat} {C D A B : Nat} (hP : PB P C A) (hQ : PB Q D B) (h1 : 1 ≤ Q.length) (t : Nat) (ht : t ≤ P.length + 1 - Q.length) : PB (redN P Q t) (C * D ^ t) (A * (2 * B) ^ t) := by
 obtain ⟨c, a1, a2⟩ := hP
 obtain ⟨d, b1, b2⟩ := hQ
 exact ⟨c * d ^ t, Nat.mul_le_mul a1 (Nat.pow_le_pow_left b1 t), a2.red b2 h1 t ht⟩
theorem PB.divc {qs : List Rat} {l : Rat} {C D A B : Nat} (h : PB qs C B) (hl : PB [l] D A) (h0 : l ≠ 0) : PB (qs.map fun q => q / l) (C * A) (B * D) := by
 obtain ⟨c, a1, a2, a3⟩ := h
 obtain ⟨d, b1, b2, b3⟩ := hl
 obtain ⟨n, e, hn⟩ := b3 0
 rw [getQ_c0] at e
 have hd := nat_ne0 b2
 have hn0 : n ≠ 0 := fun h => by rw [h] at e; exact mul_ne0 h0 hd e
 refine ⟨c * n.natAbs, Nat.mul_le_mul a1 hn, Nat.mul_pos a2 (by omega), fun j => ?_⟩
 rw [getQ_div]
 have key : ((n.natAbs : Int) : Rat) = l * (((n.sign : Int) : Rat) * ((d : Int) : Rat)) := by
  rw [show l * (((n.sign : Int) : Rat) * ((d : Int) : Rat)) = (l * ((d : Int) : Rat)) * ((n.sign : Int) : Rat) by grind, e, ← Rat.intCast_mul, Int.mul_sign_self]
 rw [Int.natCast_mul, Rat.intCast_mul, key]
 have e2 := Rat.div_mul_cancel (a := qs.getD j 0) h0
 generalize qs.getD j 0 / l = y at *
 rw [show y * (((c : Int) : Rat) * (l * (((n.sign : Int) : Rat) * ((d : Int) : Rat)))) = (y * l * ((c : Int) : Rat)) * (((n.sign : Int) : Rat) * ((d : Int) : Rat)) by grind, e2]
 have hs : Bi (((n.sign : Int) : Rat) * ((d : Int) : Rat)) D := by
  have h1 : Bi ((n.sign : Int) : Rat) 1 := Bi.int (by
   rcases Int.lt_trichotomy n 0 with h | h | h
   ·rw [Int.sign_eq_neg_one_of_neg h]; decide
   ·exact absurd h hn0
   ·rw [Int.sign_eq_one_of_pos h]; decide)
  exact (h1.mul (Bi.int (B := D) (by omega))).mono (by omega)
 exact (a3 j).mul hs
theorem PB.smul {a b : Rat} {C D A B : Nat} (h1 : PB [a] C A) (h2 : PB [b] D B) : PB [a * b] (C * D) (A * B) := by
 obtain ⟨c, a1, a2, a3⟩ := h1
 obtain ⟨d, b1, b2, b3⟩ := h2
 have e1 := a3 0
 have e2 := b3 0
 rw [getQ_c0] at e1 e2
 refine (PB.sgl (C := c * d) (Nat.mul_pos a2 b2) ?_).mono (Nat.mul_le_mul a1 b1) (Nat.le_refl _)
 rw [Int.natCast_mul, Rat.intCast_mul, show a * b * (((c : Int) : Rat) * ((d : Int) : Rat)) = (a * ((c : Int) : Rat)) * (b * ((d : Int) : Rat)) by grind]
 exact e1.mul e2
theorem PB.s1 : PB [((1 : Int) : Rat)] 1 1 := PB.sgl (by decide) ⟨1, by decide +kernel, by decide⟩
theorem PB.spow {a : Rat} {C A : Nat} (h : PB [a] C A) : ∀ n : Nat, PB [a ^ n] (C ^ n) (A ^ n)
 | 0 => by rw [Rat.pow_zero]; exact PB.s1
 | n + 1 => by rw [Rat.pow_succ, Nat.pow_succ, Nat.pow_succ]; exact (PB.spow h n).smul h
theorem PB.sdiv {a b : Rat} {C D A B : Nat} (h1 : PB [a] C A) (h2 : PB [b] D B) (h0 : b ≠ 0) : PB [a / b] (C * B) (A * D) := h1.divc h2 h0
def WB (qs : List Rat) (u : Nat) : Prop := ∃ x, 2 * x ≤ u ∧ PB qs x x
theorem WB.up {qs : List Rat} {u v : Nat} (h : WB qs u) (hu : u ≤ v) : WB qs v := by
 obtain ⟨x, h1, h2⟩ := h; exact ⟨x, Nat.le_trans h1 hu, h2⟩
theorem WB.szs {qs : List Rat} {u K : Nat} (h : WB qs u) (hu : u ≤ 4294967296 ^ K) (j : Nat) : Sz (qs.getD j 0) K := by
 obtain ⟨x, h1, h2⟩ := h
 have := h2.pos
 exact h2.sz (by omega) (by omega) j
theorem WB.sz1 {q : Rat} {u K : Nat} (h : WB [q] u) (hu : u ≤ 4294967296 ^ K) : Sz q K := by
 have := h.szs hu 0; rwa [getQ_c0] at this
theorem WB.one {qs : List Rat} {u : Nat} (h : WB qs u) (j : Nat) : WB [qs.getD j 0] u := by
 obtain ⟨x, h1, h2⟩ := h; exact ⟨x, h1, h2.one j⟩
theorem WB.pos {qs : List Rat} {u : Nat} (h : WB qs u) : 2 ≤ u := by
 obtain ⟨x, h1, h2⟩ := h; have := h2.pos; omega
theorem p3a : ∀ g : Nat, 1 ≤ g → 4 * g + 5 ≤ 3 ^ (g + 1)
 | 0, h => absurd h (by decide)
 | 1, _ => by decide
 | g + 2, _ => by have := p3a (g + 1) (by omega); have e : 3 ^ (g + 2 + 1) = 3 ^ (g + 1 + 1) * 3 := Nat.pow_succ _ _; omega
theorem p3b : ∀ g : Nat, 1 ≤ g → 4 * g - 1 ≤ 3 ^ g
 | 0, h => absurd h (by decide)
 | 1, _ => by decide
 | g + 2, _ => by have := p3b (g + 1) (by omega); have e : 3 ^ (g + 2) = 3 ^ (g + 1) * 3 := Nat.pow_succ _ _; omega
theorem p3c (g : Nat) : g + 2 ≤ 3 ^ (g + 1) := by
 cases g with
 | zero => decide
 | succ g => have := p3a (g + 1) (by omega); omega
theorem p3d : ∀ g : Nat, g + 1 ≤ 3 ^ g
 | 0 => by decide
 | g + 1 => by have := p3d g; rw [Nat.pow_succ]; omega
theorem WB.rem {P Q : List Rat} {l c : Rat} {u v a b w : Nat} (hP : WB P u) (hQ : WB Q v) (hl : WB [l] a) (hc : WB [c] b) (l0 : l ≠ 0) (c0 : c ≠ 0) (h1 : 1 ≤ Q.length) (h2 : Q.length ≤ P.length)
  (hw : u * v ^ (P.length - Q.length + 1) * (a * b ^ (P.length - Q.length)) ≤ w) : WB ((cutQ (remQ P Q)).map fun q => q / (l * (c ^ (P.length - Q.length)))) w := by
 obtain ⟨x, x1, x2⟩ := hP
 obtain ⟨y, y1, y2⟩ := hQ
 obtain ⟨z, z1, z2⟩ := hl
 obtain ⟨t, t1, t2⟩ := hc
 have hr : PB (cutQ (remQ P Q)) _ _ := (x2.red y2 h1 (P.length + 1 - Q.length) (Nat.le_refl _)).cut
 have hd := z2.smul (t2.spow (P.length - Q.length))
 have hq := hr.divc hd (mul_ne0 l0 (pow_ne0 c0 _))
 rw [show P.length + 1 - Q.length = P.length - Q.length + 1 by omega] at hq
 refine ⟨x * (2 * y) ^ (P.length - Q.length + 1) * (z * t ^ (P.length - Q.length)), ?_, ?_⟩
 ·refine Nat.le_trans ?_ hw
  rw [show 2 * (x * (2 * y) ^ (P.length - Q.length + 1) * (z * t ^ (P.length - Q.length))) = 2 * x * (2 * y) ^ (P.length - Q.length + 1) * (z * t ^ (P.length - Q.length)) by simp only [Nat.mul_assoc]]
  exact Nat.mul_le_mul (Nat.mul_le_mul x1 (Nat.pow_le_pow_left y1 _)) (Nat.mul_le_mul (by omega) (Nat.pow_le_pow_left (by omega) _))
 ·have e := hq.mono (C' := x * (2 * y) ^ (P.length - Q.length + 1) * (z * t ^ (P.length - Q.length))) (B' := x * (2 * y) ^ (P.length - Q.length + 1) * (z * t ^ (P.length - Q.length))) (Nat.mul_le_mul_right _ (Nat.mul_le_mul_left _ (Nat.pow_le_pow_left (by omega) _))) (Nat.le_refl _)
  exact e
theorem WB.pow {q : Rat} {u w : Nat} (h : WB [q] u) {n : Nat} (hn : 1 ≤ n) (hw : u ^ n ≤ w) : WB [q ^ n] w := by
 obtain ⟨x, x1, x2⟩ := h
 refine ⟨x ^ n, Nat.le_trans ?_ hw, x2.spow n⟩
 refine Nat.le_trans ?_ (Nat.pow_le_pow_left x1 n)
 rw [Nat.mul_pow]
 exact Nat.mul_le_mul_right _ (by
  obtain ⟨m, rfl⟩ : ∃ m, n = m + 1 := ⟨n - 1, by omega⟩
  rw [Nat.pow_succ]
  have := Nat.pow_pos (a := 2) (n := m) (by decide)
  omega)
theorem WB.s1 {u : Nat} (h : 2 ≤ u) : WB [((1 : Int) : Rat)] u := ⟨1, h, PB.s1⟩
theorem WB.pow' {q : Rat} {u w : Nat} (h : WB [q] u) (n : Nat) (hw : u ^ (n + 1) ≤ w) : WB [q ^ n] w := by
 have hu := h.pos
 cases n with
 | zero => rw [Rat.pow_zero]; exact WB.s1 (by rw [Nat.pow_one] at hw; omega)
 | succ n => exact h.pow (by omega) (Nat.le_trans (Nat.pow_le_pow_right (by omega) (by omega)) hw)
theorem WB.frac {a b : Rat} {u v w : Nat} (h1 : WB [a] u) (h2 : WB [b] v) (h0 : b ≠ 0) (hw : u * v ≤ w) : WB [a / b] w := by
 obtain ⟨x, x1, x2⟩ := h1
 obtain ⟨y, y1, y2⟩ := h2
 refine ⟨x * y, Nat.le_trans ?_ hw, x2.sdiv y2 h0⟩
 rw [← Nat.mul_assoc]
 exact Nat.mul_le_mul x1 (by omega)
theorem div_pow1 (a c : Rat) : a ^ (0 + 1) / c ^ 0 = a := by
 rw [Rat.pow_zero, Rat.pow_succ, Rat.pow_zero, Rat.one_mul, Rat.div_def]; grind
def GS (n0 u0 : Nat) (s : List Rat × List Rat × Rat × Rat) : Prop :=
 (s.1.length ≤ n0 ∧ s.2.1.length ≤ s.1.length ∧ WB s.1 u0 ∧ WB s.2.1 u0 ∧ s.2.2.1 = ((1 : Int) : Rat) ∧ s.2.2.2 = ((1 : Int) : Rat)) ∨
 ∃ d u, u = u0 ^ 3 ^ d ∧ d + s.1.length ≤ n0 ∧ s.2.1.length < s.1.length ∧ WB s.1 u ∧ WB s.2.1 (u ^ 3) ∧ WB [s.2.2.1] u ∧ WB [s.2.2.2] u
theorem pow_3 (u0 d : Nat) : (u0 ^ 3 ^ d) ^ 3 = u0 ^ 3 ^ (d + 1) := by rw [← Nat.pow_mul, Nat.pow_succ]
theorem pow_3g (u0 d g : Nat) : (u0 ^ 3 ^ d) ^ 3 ^ g = u0 ^ 3 ^ (d + g) := by rw [← Nat.pow_mul, ← Nat.pow_add]
theorem GS_all {ps qs : List Rat} {n0 u0 : Nat} (hp : WB (primP ps) u0) (hq : WB (primP qs) u0) (lp : (primP ps).length ≤ n0) (lq : (primP qs).length ≤ n0) : ∀ t, GS n0 u0 (gN ps qs t)
 | 0 => by
  refine Or.inl ?_
  unfold gN
  by_cases h : (primP ps).length < (primP qs).length
  ·rw [if_pos h]; exact ⟨lq, by dsimp only; omega, hq, hp, rfl, rfl⟩
  ·rw [if_neg h]; exact ⟨lp, by dsimp only; omega, hp, hq, rfl, rfl⟩
 | t + 1 => by
  have ih := GS_all hp hq lp lq t
  obtain ⟨j1, j2, j3, j4, _, _⟩ := GJ_all ps qs t
  show GS n0 u0 (gst (gN ps qs t))
  generalize gN ps qs t = s at *
  obtain ⟨P, Q, l, c⟩ := s
  dsimp only at j1 j2 j3 j4
  by_cases hq0 : Q.length = 0
  ·unfold gst; rw [if_pos hq0]; exact ih
  ·unfold gst
   rw [if_neg hq0]
   have hr := remQ_len P Q
   have h1 : 1 ≤ Q.length := by omega
   have lead0 := j4 (by omega)
   have hu0 := hp.pos
   refine Or.inr ?_
   rcases ih with ⟨a1, a2, a3, a4, a5, a6⟩ | ⟨d, u, e, b1, b2, b3, b4, b5, b6⟩
   ·dsimp only at a1 a2 a3 a4 a5 a6
    refine ⟨P.length - Q.length, u0 ^ 3 ^ (P.length - Q.length), rfl, by dsimp only; omega, by dsimp only; rw [List.length_map]; omega, ?_, ?_, ?_, ?_⟩
    ·exact a4.up (Nat.le_self_pow (Nat.ne_of_gt (Nat.pow_pos (by decide))) _)
    ·dsimp only
     rw [pow_3]
     subst a5 a6
     obtain ⟨x, x1, x2⟩ := a3
     obtain ⟨y, y1, y2⟩ := a4
     have hr2 : PB (cutQ (remQ P Q)) _ _ := (x2.red y2 h1 (P.length + 1 - Q.length) (Nat.le_refl _)).cut
     have hd := PB.s1.smul (PB.s1.spow (P.length - Q.length))
     have hq2 := hr2.divc hd (mul_ne0 one_ne (pow_ne0 one_ne _))
     rw [show P.length + 1 - Q.length = P.length - Q.length + 1 by omega, Nat.one_pow, Nat.one_mul, Nat.mul_one, Nat.mul_one] at hq2
     refine ⟨x * (2 * y) ^ (P.length - Q.length + 1), ?_, hq2.mono (Nat.mul_le_mul_left _ (Nat.pow_le_pow_left (by omega) _)) (Nat.le_refl _)⟩
     rw [← Nat.mul_assoc]
     refine Nat.le_trans (Nat.mul_le_mul x1 (Nat.pow_le_pow_left y1 _)) ?_
     rw [Nat.mul_comm, ← Nat.pow_succ]
     exact Nat.pow_le_pow_right (by omega) (p3c _)
    ·dsimp only
     exact (a4.one _).up (Nat.le_self_pow (Nat.ne_of_gt (Nat.pow_pos (by decide))) _)
    ·dsimp only
     subst a6
     split
     ·rename_i hg
      refine WB.frac (v := 2) ((a4.one _).pow (by omega) (Nat.le_refl _)) ?_ (pow_ne0 one_ne _) ?_
      ·rw [show ((1 : Int) : Rat) ^ (P.length - Q.length - 1) = ((1 : Int) : Rat) by
        generalize P.length - Q.length - 1 = k
        induction k with
        | zero => exact Rat.pow_zero _
        | succ k ih => rw [Rat.pow_succ, ih]; decide +kernel]
       exact WB.s1 (Nat.le_refl 2)
      ·refine Nat.le_trans (Nat.mul_le_mul_left _ hu0) ?_
       rw [← Nat.pow_succ]
       exact Nat.pow_le_pow_right (by omega) (p3d _)
     ·exact WB.s1 (Nat.le_trans hu0 (Nat.le_self_pow (Nat.ne_of_gt (Nat.pow_pos (by decide))) _))
   ·dsimp only at b1 b2 b3 b4 b5 b6
    have hu := b3.pos
    have hg : 1 ≤ P.length - Q.length := by omega
    refine ⟨d + (P.length - Q.length), u ^ 3 ^ (P.length - Q.length), by rw [e, pow_3g], by dsimp only; omega, by dsimp only; rw [List.length_map]; omega, ?_, ?_, ?_, ?_⟩
    ·exact b4.up (Nat.pow_le_pow_right (by omega) (by
      have := Nat.pow_le_pow_right (n := 3) (by decide) hg
      omega))
    ·dsimp only
     refine WB.rem b3 b4 b5 b6 j2 j3 h1 j1 ?_
     rw [← Nat.pow_mul, ← Nat.pow_mul]
     generalize P.length - Q.length = g at *
     rw [show u * u ^ (3 * (g + 1)) * (u * u ^ g) = u ^ (4 * g + 5) by
      rw [show 4 * g + 5 = (1 + 3 * (g + 1)) + (1 + g) by omega, Nat.pow_add, Nat.pow_add, Nat.pow_add, Nat.pow_one]]
     exact Nat.pow_le_pow_right (by omega) (by have := p3a g hg; rw [Nat.pow_succ] at this; exact this)
    ·dsimp only
     exact (b4.one _).up (Nat.pow_le_pow_right (by omega) (by
      have := Nat.pow_le_pow_right (n := 3) (by decide) hg
      omega))
    ·dsimp only
     rw [if_pos (by omega)]
     generalize P.length - Q.length = g at *
     obtain ⟨k, rfl⟩ : ∃ k, g = k + 1 := ⟨g - 1, by omega⟩
     rw [Nat.add_sub_cancel]
     cases k with
     | zero =>
      rw [div_pow1]
      exact (b4.one _).up (Nat.le_refl _)
     | succ k =>
      refine WB.frac ((b4.one _).pow (by omega) (Nat.le_refl _)) (b6.pow (by omega) (Nat.le_refl _)) (pow_ne0 j3 _) ?_
      rw [← Nat.pow_mul, ← Nat.pow_add]
      exact Nat.pow_le_pow_right (by omega) (by have := p3b (k + 1 + 1) (by omega); omega)
theorem WB.red {P Q : List Rat} {u v w : Nat} (hP : WB P u) (hQ : WB Q v) (h1 : 1 ≤ Q.length) (t : Nat) (ht : t ≤ P.length + 1 - Q.length) (hw : u * v ^ t ≤ w) : WB (redN P Q t) w := by
 obtain ⟨x, x1, x2⟩ := hP
 obtain ⟨y, y1, y2⟩ := hQ
 refine ⟨x * (2 * y) ^ t, Nat.le_trans ?_ hw, (x2.red y2 h1 t ht).mono (Nat.mul_le_mul_left _ (Nat.pow_le_pow_left (by omega) _)) (Nat.le_refl _)⟩
 rw [← Nat.mul_assoc]
 exact Nat.mul_le_mul x1 (Nat.pow_le_pow_left y1 t)
theorem redN_nil_sz {P Q : List Rat} {K : Nat} (h : Q.length = 0) (hp : ∀ j, Sz (P.getD j 0) K) (hK : 1 ≤ K) (t j : Nat) : Sz ((redN P Q t).getD j 0) K := by
 cases t with
 | zero => exact hp j
 | succ t => rw [redN_succ, redQ_nil h]; exact Sz.mono Sz.zero hK
theorem zero_pow_sz {K : Nat} (hK : 1 ≤ K) (n : Nat) : Sz ((0 : Rat) ^ n) K := by
 cases n with
 | zero => rw [Rat.pow_zero]; exact (Bi.int (z := 1) (B := 1) (by decide)).sz (Nat.lt_of_lt_of_le (by decide : 1 < 4294967296 ^ 1) (Nat.pow_le_pow_right (by decide) hK)) hK
 | succ n => rw [Rat.pow_succ, Rat.mul_zero]; exact Sz.mono Sz.zero hK
theorem one_powQ (n : Nat) : ((1 : Int) : Rat) ^ n = ((1 : Int) : Rat) := by
 induction n with
 | zero => exact Rat.pow_zero _
 | succ k ih => rw [Rat.pow_succ, ih]; decide +kernel
theorem GZ_of {ps qs : List Rat} {n0 u0 K : Nat} (hp : WB (primP ps) u0) (hq : WB (primP qs) u0) (lp : (primP ps).length ≤ n0) (lq : (primP qs).length ≤ n0) (hK : u0 ^ 3 ^ n0 ≤ 4294967296 ^ K) (P Q : List Rat) (l c : Rat) (g : GI ps qs P Q l c) : GZ P Q l c K := by
 obtain ⟨t, e, ht⟩ := g.at'
 have h := GS_all hp hq lp lq t
 rw [e] at h
 have hu0 := hp.pos
 have hK1 : 1 ≤ K := by
  cases K with
  | zero =>
   have := Nat.le_self_pow (Nat.ne_of_gt (Nat.pow_pos (n := n0) (show 0 < 3 by decide))) u0
   rw [Nat.pow_zero] at hK
   omega
  | succ K => omega
 rcases h with ⟨a1, a2, a3, a4, a5, a6⟩ | ⟨d, u, e, b1, b2, b3, b4, b5, b6⟩
 ·dsimp only at a1 a2 a3 a4 a5 a6
  have top : ∀ m, m ≤ n0 + 1 → u0 ^ m ≤ 4294967296 ^ K := fun m hm => Nat.le_trans (Nat.pow_le_pow_right (by omega) (by have := p3d n0; omega)) hK
  have hu : u0 ≤ 4294967296 ^ K := by have := top 1 (by omega); rwa [Nat.pow_one] at this
  subst a5 a6
  refine ⟨fun j => a3.szs hu j, fun j => a4.szs hu j, (WB.s1 hu0).sz1 hu, (WB.s1 hu0).sz1 hu, fun t j ht => ?_, fun i _ => by rw [one_powQ]; exact (WB.s1 hu0).sz1 hu, fun i hi => ?_⟩
  ·by_cases h0 : Q.length = 0
   ·exact redN_nil_sz h0 (fun j => a3.szs hu j) hK1 t j
   ·refine (a3.red a4 (by omega) t ht (Nat.le_refl _)).szs ?_ j
    rw [Nat.mul_comm, ← Nat.pow_succ]
    exact top _ (by omega)
  ·exact ((a4.one _).pow' i (Nat.le_refl _)).sz1 (top _ (by omega))
 ·dsimp only at b1 b2 b3 b4 b5 b6
  have hu := b3.pos
  have top : ∀ m g, m ≤ 3 ^ g → d + g ≤ n0 → u ^ m ≤ 4294967296 ^ K := fun m g hm hg => by
   refine Nat.le_trans (Nat.pow_le_pow_right (by omega) hm) ?_
   rw [e, pow_3g]
   exact Nat.le_trans (Nat.pow_le_pow_right (by omega) (Nat.pow_le_pow_right (by decide) hg)) hK
  have hu1 : u ≤ 4294967296 ^ K := by have := top 1 0 (by decide) (by omega); rwa [Nat.pow_one] at this
  have hu3 := top 3 1 (by decide) (by omega)
  refine ⟨fun j => b3.szs hu1 j, fun j => b4.szs hu3 j, b5.sz1 hu1, b6.sz1 hu1, fun t j ht => ?_, fun i hi => ?_, fun i hi => ?_⟩
  ·by_cases h0 : Q.length = 0
   ·exact redN_nil_sz h0 (fun j => b3.szs hu1 j) hK1 t j
   ·refine (b3.red b4 (by omega) t ht (Nat.le_refl _)).szs ?_ j
    rw [← Nat.pow_mul, Nat.mul_comm, ← Nat.pow_succ]
    exact top _ (P.length - Q.length + 1) (by have := p3a (P.length - Q.length) (by omega); omega) (by omega)
  ·exact (b6.pow' i (Nat.le_refl _)).sz1 (top _ (P.length - Q.length) (by have := p3d (P.length - Q.length); omega) (by omega))
  ·by_cases h0 : Q.length = 0
   ·rw [getQ_out (by omega)]; exact zero_pow_sz hK1 i
   ·refine ((b4.one _).pow' i (Nat.le_refl _)).sz1 ?_
    rw [← Nat.pow_mul]
    exact top _ (P.length - Q.length + 1) (by have := p3a (P.length - Q.length) (by omega); omega) (by omega)
theorem PB.monic {qs : List Rat} {C B : Nat} (h : PB qs C B) (hB : 0 < B) : PB (monP qs) B B := by
 by_cases h0 : cutn qs = 0
 ·rw [monP_nil (by rw [cutQ_length, h0]; rfl)]
  exact PX.pb ⟨hB, fun j => by rw [getQ_nil, Rat.zero_mul]; exact Bi.zero _⟩
 ·obtain ⟨c, _, a2, a3⟩ := h
  have hl := cutn_top h0
  obtain ⟨n, e, hn⟩ := a3 (cutn qs - 1)
  have hc := nat_ne0 a2
  have hn0 : n ≠ 0 := fun h => by rw [h] at e; exact mul_ne0 hl hc e
  refine ⟨n.natAbs, hn, by omega, fun j => ?_⟩
  unfold monP
  rw [getQ_div, getQ_cut, getQ_cut, cutQ_length]
  have key : ((n.natAbs : Int) : Rat) = qs.getD (cutn qs - 1) 0 * ((c : Int) : Rat) * ((n.sign : Int) : Rat) := by
   rw [e, ← Rat.intCast_mul, Int.mul_sign_self]
  rw [key]
  have e2 := Rat.div_mul_cancel (a := qs.getD j 0) hl
  generalize qs.getD j 0 / qs.getD (cutn qs - 1) 0 = y at *
  rw [show y * (qs.getD (cutn qs - 1) 0 * ((c : Int) : Rat) * ((n.sign : Int) : Rat)) = (y * qs.getD (cutn qs - 1) 0 * ((c : Int) : Rat)) * ((n.sign : Int) : Rat) by grind, e2]
  have h1 : Bi ((n.sign : Int) : Rat) 1 := Bi.int (by
   rcases Int.lt_trichotomy n 0 with h | h | h
   ·rw [Int.sign_eq_neg_one_of_neg h]; decide
   ·exact absurd h hn0
   ·rw [Int.sign_eq_one_of_pos h]; decide)
  exact ((a3 j).mul h1).mono (by omega)
theorem prim_wb {qs : List Rat} {C B : Nat} (h : PB qs C B) (hB : 0 < B) : WB (primP qs) (2 * B) :=
 ⟨B, Nat.le_refl _, (PX.pb (C := 1) (B := B) ⟨by decide, fun j => by
  have := clq_bi (h.monic hB) j
  unfold primP
  rw [show (((1 : Nat) : Int) : Rat) = 1 from rfl, Rat.mul_one]
  exact this⟩).mono hB (Nat.le_refl _)⟩
theorem prim_le {qs : List Rat} {n : Nat} (h : qs.length ≤ n) : (primP qs).length ≤ n := Nat.le_trans (primP_len qs) h
theorem gcd_pb {ps qs : List Rat} {n0 u0 : Nat} (hp : WB (primP ps) u0) (hq : WB (primP qs) u0) (lp : (primP ps).length ≤ n0) (lq : (primP qs).length ≤ n0) : PB (gcdP ps qs) (u0 ^ 3 ^ n0) (u0 ^ 3 ^ n0) := by
 have h := GS_all hp hq lp lq (gM ps qs)
 have hu0 := hp.pos
 unfold gcdP
 have hW : WB (gN ps qs (gM ps qs)).1 (u0 ^ 3 ^ n0) := by
  rcases h with ⟨a1, a2, a3, _⟩ | ⟨d, u, e, b1, b2, b3, _⟩
  ·exact a3.up (Nat.le_self_pow (Nat.ne_of_gt (Nat.pow_pos (by decide))) _)
  ·refine b3.up ?_
   rw [e]
   exact Nat.pow_le_pow_right (by omega) (Nat.pow_le_pow_right (by decide) (by omega))
 obtain ⟨x, x1, x2⟩ := hW
 exact (x2.monic x2.pos).mono (by omega) (by omega)
theorem mulP_len1 {a b : List Rat} {m n : Nat} (h1 : a.length ≤ m) (h2 : b.length ≤ n) : (mulP a b).length ≤ m + n - 1 := by
 unfold mulP
 have h3 := cutQ_le (mulQ (cutQ a) (cutQ b))
 have h4 := mulQ_len1 (cutQ a) (cutQ b)
 have h5 := cutQ_le a
 have h6 := cutQ_le b
 omega

theorem len_0 {q : List Rat} (h : decide (((q.length : Nat) : Int) = 0) = true) : q = [] := List.eq_nil_of_length_eq_zero (by have := of_decide_eq_true h; omega)
theorem gcd_0l {p q : List Rat} (hp : cutQ p = p) (h : gcdP p q = []) : p = [] := dv_zero hp (h ▸ (gcd_is p q).l)
theorem gcd_0r {p q : List Rat} (hq : cutQ q = q) (h : gcdP p q = []) : q = [] := dv_zero hq (h ▸ (gcd_is p q).r)
theorem gcd_ne {p q : List Rat} (h : decide ((((gcdP p q).length : Nat) : Int) = 0) = false) : (clq (gcdP p q)).length ≠ 0 := by
 have h1 := of_decide_eq_false h
 have h2 := (gcd_mon p q).1
 have h3 := cutQ_length (gcdP p q)
 rw [h2] at h3
 rw [clq_cutn]
 omega
theorem gcd_lead {p q : List Rat} (h : decide ((((gcdP p q).length : Nat) : Int) = 0) = false) : decide (cmpQ ((gcdP p q).getD ((gcdP p q).length - 1) 0) ((1 : Int) : Rat) = 0) = true := by
 have h1 := of_decide_eq_false h
 have h2 := gcd_mon p q
 have h3 := cutQ_length (gcdP p q)
 rw [h2.1] at h3
 refine cmp_same ?_
 rw [h3]
 exact h2.2.resolve_left (by omega)
theorem gcd_mul' (p q r : List Rat) : decide (gcdP (mulP p r) (mulP q r) = monP (mulP (gcdP p q) r)) = true := decide_eq_true (gcd_mul p q r)
theorem gcd_reml {p q : List Rat} (h : (clq (gcdP p q)).length ≠ 0) : dvr p (gcdP p q) = [] := dv_rem h (gcd_is p q).l
theorem gcd_remr {p q : List Rat} (h : (clq (gcdP p q)).length ≠ 0) : dvr q (gcdP p q) = [] := dv_rem h (gcd_is p q).r
end Go.Proofs.YtcankknlbljicaaGreatDoor

namespace Go.Proofs.YtcankknlbljicaaGreatDoor
open Go.RowKit Num

set_option maxRecDepth 100000
set_option maxHeartbeats 2000000
theorem walkPolyGcds {ts us vs : List Int} {v0 : Value} {v1 : Value} {v2 : Value} {w : World} {O : Bs} (hn0 : ts.length ≤ 9223372036854775807) (hI0 : ∀ j : Nat, -9223372036854775808 ≤ ts.getD j 0 ∧ ts.getD j 0 ≤ 9223372036854775807) (hn1 : us.length ≤ 9223372036854775807) (hI1 : ∀ j : Nat, -9223372036854775808 ≤ us.getD j 0 ∧ us.getD j 0 ≤ 9223372036854775807) (hn2 : vs.length ≤ 9223372036854775807) (hI2 : ∀ j : Nat, -9223372036854775808 ≤ vs.getD j 0 ∧ vs.getD j 0 ≤ 9223372036854775807) (pf0 : (mSl 0 (lI ts 0)).S O w v0) (pf1 : (mSl 0 (lI us 0)).S O w v1) (pf2 : (mSl 0 (lI vs 0)).S O w v2) (hT : Tb w) (ho : OB O w) :
    Calls Tryz.prog 8 #[v0, v1, v2] w (RetM (mV (.bool (true))) O w) := by
 refine st_start 98 Tryz.func8 [(mSl 0 (lI ts 0)), (mSl 0 (lI us 0)), (mSl 0 (lI vs 0))] ⟨pf0, pf1, pf2, trivial⟩ ho fun a S => ?_
 have lp := polQ_len ts 4
 have lq := polQ_len us 4
 have lr := polQ_len vs 3
 have lg := gcdP_len (L := 5) lp lq
 have l1 := dvq_le (polQ ts 4) (gcdP (polQ ts 4) (polQ us 4))
 have l2 := dvr_le (polQ ts 4) (gcdP (polQ ts 4) (polQ us 4))
 have l3 := dvq_le (polQ us 4) (gcdP (polQ ts 4) (polQ us 4))
 have l4 := dvr_le (polQ us 4) (gcdP (polQ ts 4) (polQ us 4))
 have l5 := mulP_len1 lp lr
 have l6 := mulP_len1 lq lr
 have l7 := mulP_len (gcdP (polQ ts 4) (polQ us 4)) (polQ vs 3)
 have l8 := gcdP_len (L := 8) l5 l6
 have l9 := monP_len (mulP (gcdP (polQ ts 4) (polQ us 4)) (polQ vs 3))
 refine wp_seq ?_
 refine st_seq S 0 [] [(false, 0), (false, 1), (false, 2)] trivial (L' := [(0, ?_), (1, ?_), (2, ?_)]) ?_ fun a1 w2 S3 => ?_
 rotate_left 3
 · rfl
 refine t_asgC S3 fun a5 S6 => ?_
 refine wpList_nil (then_normal ?_)
 refine wp_seq ?_
 refine st_seq S6 6 [?_, ?_, ?_, ?_, ?_, ?_] [(true, 1), (true, 3), (true, 5), (false, 0)] ⟨?_, ?_, ?_, ?_, ?_, ?_, trivial⟩ (L' := [(18, ?_), (20, ?_), (22, ?_), (6, ?_)]) ?_ fun a7 w8 S9 => ?_
 rotate_left 10
 · exact opP S6.r fun c => ⟨_, run_move rfl, (c.o 1 rfl)⟩
 · exact opC S6.r rfl fun c B => ⟨_, args_2 rfl rfl, (k_poly (n := 4) (by omega) hI0 (by omega) (c.h 0 rfl) (S6.obc c.wb))⟩
 · exact opP S6.r fun c => ⟨_, run_move rfl, (c.o 2 rfl)⟩
 · exact opC S6.r rfl fun c B => ⟨_, args_2 rfl rfl, (k_poly (n := 4) (by omega) hI1 (by omega) (c.h 0 rfl) (S6.obc c.wb))⟩
 · exact opP S6.r fun c => ⟨_, run_move rfl, (c.o 3 rfl)⟩
 · exact opC S6.r rfl fun c B => ⟨_, args_2 rfl rfl, (k_poly (n := 3) (by omega) hI2 (by omega) (c.h 0 rfl) (S6.obc c.wb))⟩
 · rfl
 refine t_asg S9 0 fun a11 S12 => ?_
 refine t_asg S12 2 fun a13 S14 => ?_
 refine t_asg S14 4 fun a15 S16 => ?_
 refine wpList_nil (then_normal ?_)
 refine wp_seq ?_
 refine st_seq S16 3 [?_, ?_, ?_] [(true, 2), (false, 0), (false, 1), (false, 2), (false, 6)] ⟨?_, ?_, ?_, trivial⟩ (L' := [(25, ?_), (9, ?_), (8, ?_), (7, ?_), (6, ?_)]) ?_ fun a17 w18 S19 => ?_
 rotate_left 8
 · exact opP S16.r fun c => ⟨_, run_move rfl, (c.o 2 rfl)⟩
 · exact opP S16.r fun c => ⟨_, run_move rfl, (c.o 1 rfl)⟩
 · exact opC S16.r rfl fun c B => ⟨_, args_2 rfl rfl, (p_gcd (L := 5) (K1 := 57) (K := 109) (by omega) (by omega) (by omega) (by omega) (by omega) (by omega) (by omega) (by omega) (by omega) (by omega) (fun P Q l c g => GZ_of ((prim_wb (polQ_pb ts 4) (by decide +kernel)).up (v := 20160) (by decide +kernel)) ((prim_wb (polQ_pb us 4) (by decide +kernel)).up (v := 20160) (by decide +kernel)) (Nat.le_trans (prim_le (polQ_len ts 4)) (by decide) : (primP (polQ ts 4)).length ≤ 5) (Nat.le_trans (prim_le (polQ_len us 4)) (by decide) : (primP (polQ us 4)).length ≤ 5) (by decide +kernel) P Q l c g) (slC_r (c.h 0 rfl)) (slC_r (c.h 1 rfl)) (hT.below B) (S16.obc c.wb))⟩
 · rfl
 refine t_asg S19 0 fun a21 S22 => ?_
 refine wpList_nil (then_normal ?_)
 refine wp_seq ?_
 refine wp_seq ?_
 refine st_seq S22 3 [?_, ?_, ?_] [(true, 2), (false, 0), (false, 2), (false, 3), (false, 4), (false, 5)] ⟨?_, ?_, ?_, trivial⟩ (L' := [(28, ?_), (10, ?_), (9, ?_), (8, ?_), (7, ?_), (6, ?_)]) ?_ fun a23 w24 S25 => ?_
 rotate_left 9
 · exact opP S22.r fun c => ⟨_, run_move rfl, (c.o 0 rfl)⟩
 · exact opV S22.r fun c => len_L ((gcdP (polQ ts 4) (polQ us 4)).length) Tryz.underlying37 (c.h 0 rfl) (lC_len _ _)
 · exact opV S22.r fun c => run_eql rfl (c.e 0 rfl) rfl
 · rfl
 refine wpList_nil (then_normal ?_)
 refine cond_b _ (ev (S25.sl 0 rfl)) (fun hb27 => ?_) (fun hb27 => ?_)
 ·have hb27p := of_decide_eq_true hb27
  have hg := len_0 hb27
  refine wp_seq ?_
  refine st_seq S25 11 [?_, ?_, ?_, ?_, ?_, ?_, ?_, ?_, ?_, ?_, ?_] [(true, 10), (false, 1), (false, 2), (false, 3), (false, 4), (false, 5)] ⟨?_, ?_, ?_, ?_, ?_, ?_, ?_, ?_, ?_, ?_, ?_, trivial⟩ (L' := [(39, ?_), (10, ?_), (9, ?_), (8, ?_), (7, ?_), (6, ?_)]) ?_ fun a28 w29 S30 => ?_
  rotate_left 17
  · exact opC S25.r rfl fun c B => ⟨_, args_0, (l5_awake (hT.below B) (S25.obc c.wb))⟩
  · exact opV S25.r fun c => run_v (run_move rfl) (c.e 0 rfl)
  · exact opT S25.r 0 (opP S25.r fun c => ⟨_, run_move rfl, (c.o 4 rfl)⟩)
  · exact opT S25.r 1 (opV S25.r fun c => len_L ((polQ ts 4).length) Tryz.underlying37 (c.h 0 rfl) (lC_len _ _))
  · exact opT S25.r 1 (opV S25.r fun c => run_b (y := true) (run_eql rfl (c.e 0 rfl) rfl) (nil_0 (gcd_0l (polQ_can ts 4) hg)))
  · exact opE S25.r fun c => ⟨_, run_pick rfl (c.e 0 rfl), pick_and (fun _ => (c.e 1 rfl))⟩
  · exact opV S25.r fun c => run_v (run_move rfl) (c.e 0 rfl)
  · exact opT S25.r 0 (opP S25.r fun c => ⟨_, run_move rfl, (c.o 3 rfl)⟩)
  · exact opT S25.r 1 (opV S25.r fun c => len_L ((polQ us 4).length) Tryz.underlying37 (c.h 0 rfl) (lC_len _ _))
  · exact opT S25.r 1 (opV S25.r fun c => run_b (y := true) (run_eql rfl (c.e 0 rfl) rfl) (nil_0 (gcd_0r (polQ_can us 4) hg)))
  · exact opE S25.r fun c => ⟨_, run_pick rfl (c.e 0 rfl), pick_and (fun _ => (c.e 1 rfl))⟩
  · rfl
  refine t_asg S30 0 fun a32 S33 => ?_
  refine wpList_nil (then_normal ?_)
  refine wp_ret ?_
  exact st_endT S33 0 rfl fun v h => h
 ·have hb27p := of_decide_eq_false hb27
  have h0 := gcd_ne hb27
  have hgl : 1 ≤ (gcdP (polQ ts 4) (polQ us 4)).length := by have := of_decide_eq_false hb27; omega
  refine wp_skip (then_normal ?_)
  refine wp_seq ?_
  refine st_seq S25 7 [?_, ?_, ?_, ?_, ?_, ?_, ?_] [(true, 4), (true, 5), (true, 6), (false, 1), (false, 2), (false, 3), (false, 4), (false, 5)] ⟨?_, ?_, ?_, ?_, ?_, ?_, ?_, trivial⟩ (L' := [(44, ?_), (45, ?_), (46, ?_), (10, ?_), (9, ?_), (8, ?_), (7, ?_), (6, ?_)]) ?_ fun a34 w35 S36 => ?_
  rotate_left 15
  · exact opP S25.r fun c => ⟨_, run_move rfl, (c.o 4 rfl)⟩
  · exact opP S25.r fun c => ⟨_, run_move rfl, (c.o 1 rfl)⟩
  · exact opC S25.r rfl fun c B => ⟨_, args_2 rfl rfl, (p_divmod (L := 5) (K1 := 1117) (KR := 653) (KE := 652) (by omega) (by omega) (by omega) (by omega) (by omega) (by omega) (by omega) (by omega) (by omega) (by omega) (fun t l ht => redN_szs (N := 6) (polQ_pb ts 4) (gcd_pb ((prim_wb (polQ_pb ts 4) (by decide +kernel)).up (v := 20160) (by decide +kernel)) ((prim_wb (polQ_pb us 4) (by decide +kernel)).up (v := 20160) (by decide +kernel)) (Nat.le_trans (prim_le (polQ_len ts 4)) (by decide +kernel) : (primP (polQ ts 4)).length ≤ 5) (Nat.le_trans (prim_le (polQ_len us 4)) (by decide +kernel) : (primP (polQ us 4)).length ≤ 5)) (dvN_le (polQ_len ts 4)) (by decide +kernel) (by decide +kernel) (by decide +kernel) t l ht) (fun t ht => den_szs (N := 6) (polQ_pb ts 4) (gcd_pb ((prim_wb (polQ_pb ts 4) (by decide +kernel)).up (v := 20160) (by decide +kernel)) ((prim_wb (polQ_pb us 4) (by decide +kernel)).up (v := 20160) (by decide +kernel)) (Nat.le_trans (prim_le (polQ_len ts 4)) (by decide +kernel) : (primP (polQ ts 4)).length ≤ 5) (Nat.le_trans (prim_le (polQ_len us 4)) (by decide +kernel) : (primP (polQ us 4)).length ≤ 5)) (dvN_le (polQ_len ts 4)) (by decide +kernel) (by decide +kernel) (by decide +kernel) t ht) (slC_r (c.h 0 rfl)) (slC_r (c.h 1 rfl)) (hT.below B) (S25.obc c.wb))⟩
  · exact opP S25.r fun c => ⟨_, run_move rfl, (c.h 0 rfl)⟩
  · exact opP S25.r fun c => ext3_0 rfl (c.h 0 rfl)
  · exact opP S25.r fun c => ext3_1 rfl (c.h 0 rfl)
  · exact opP S25.r fun c => ext3_2 rfl (c.h 0 rfl)
  · rfl
  refine t_asg S36 0 fun a38 S39 => ?_
  refine t_asg S39 2 fun a40 S41 => ?_
  refine t_asg S41 4 fun a42 S43 => ?_
  refine wpList_nil (then_normal ?_)
  refine wp_seq ?_
  refine st_seq S43 7 [?_, ?_, ?_, ?_, ?_, ?_, ?_] [(true, 4), (true, 5), (true, 6), (false, 0), (false, 1), (false, 6), (false, 7), (false, 8), (false, 9), (false, 10)] ⟨?_, ?_, ?_, ?_, ?_, ?_, ?_, trivial⟩ (L' := [(51, ?_), (52, ?_), (53, ?_), (13, ?_), (12, ?_), (10, ?_), (9, ?_), (8, ?_), (7, ?_), (6, ?_)]) ?_ fun a44 w45 S46 => ?_
  rotate_left 17
  · exact opP S43.r fun c => ⟨_, run_move rfl, (c.o 8 rfl)⟩
  · exact opP S43.r fun c => ⟨_, run_move rfl, (c.o 6 rfl)⟩
  · exact opC S43.r rfl fun c B => ⟨_, args_2 rfl rfl, (p_divmod (L := 5) (K1 := 1117) (KR := 653) (KE := 652) (by omega) (by omega) (by omega) (by omega) (by omega) (by omega) (by omega) (by omega) (by omega) (by omega) (fun t l ht => redN_szs (N := 6) (polQ_pb us 4) (gcd_pb ((prim_wb (polQ_pb ts 4) (by decide +kernel)).up (v := 20160) (by decide +kernel)) ((prim_wb (polQ_pb us 4) (by decide +kernel)).up (v := 20160) (by decide +kernel)) (Nat.le_trans (prim_le (polQ_len ts 4)) (by decide +kernel) : (primP (polQ ts 4)).length ≤ 5) (Nat.le_trans (prim_le (polQ_len us 4)) (by decide +kernel) : (primP (polQ us 4)).length ≤ 5)) (dvN_le (polQ_len us 4)) (by decide +kernel) (by decide +kernel) (by decide +kernel) t l ht) (fun t ht => den_szs (N := 6) (polQ_pb us 4) (gcd_pb ((prim_wb (polQ_pb ts 4) (by decide +kernel)).up (v := 20160) (by decide +kernel)) ((prim_wb (polQ_pb us 4) (by decide +kernel)).up (v := 20160) (by decide +kernel)) (Nat.le_trans (prim_le (polQ_len ts 4)) (by decide +kernel) : (primP (polQ ts 4)).length ≤ 5) (Nat.le_trans (prim_le (polQ_len us 4)) (by decide +kernel) : (primP (polQ us 4)).length ≤ 5)) (dvN_le (polQ_len us 4)) (by decide +kernel) (by decide +kernel) (by decide +kernel) t ht) (slC_r (c.h 0 rfl)) (slC_r (c.h 1 rfl)) (hT.below B) (S43.obc c.wb))⟩
  · exact opP S43.r fun c => ⟨_, run_move rfl, (c.h 0 rfl)⟩
  · exact opP S43.r fun c => ext3_0 rfl (c.h 0 rfl)
  · exact opP S43.r fun c => ext3_1 rfl (c.h 0 rfl)
  · exact opP S43.r fun c => ext3_2 rfl (c.h 0 rfl)
  · rfl
  refine t_asg S46 0 fun a48 S49 => ?_
  refine t_asg S49 2 fun a50 S51 => ?_
  refine t_asg S51 4 fun a52 S53 => ?_
  refine wpList_nil (then_normal ?_)
  refine wp_seq ?_
  refine st_mono S53 45 [?_, ?_, ?_, ?_, ?_, ?_, ?_, ?_, ?_, ?_, ?_, ?_, ?_, ?_, ?_, ?_, ?_, ?_, ?_, ?_, ?_, ?_, ?_, ?_, ?_, ?_, ?_, ?_, ?_, ?_, ?_, ?_, ?_, ?_, ?_, ?_, ?_, ?_, ?_, ?_, ?_, ?_, ?_, ?_, ?_] [(true, 44)] ⟨?_, ?_, ?_, ?_, ?_, ?_, ?_, ?_, ?_, ?_, ?_, ?_, ?_, ?_, ?_, ?_, ?_, ?_, ?_, ?_, ?_, ?_, ?_, ?_, ?_, ?_, ?_, ?_, ?_, ?_, ?_, ?_, ?_, ?_, ?_, ?_, ?_, ?_, ?_, ?_, ?_, ?_, ?_, ?_, ?_, trivial⟩ (L' := [(6, ?_)]) ?_ fun a54 w55 S56 => ?_
  rotate_left 46
  · exact opC S53.r rfl fun c B => ⟨_, args_0, (l5_awake (hT.below B) (S53.obc c.wb))⟩
  · exact opV S53.r fun c => run_v (run_move rfl) (c.e 0 rfl)
  · exact opT S53.r 0 (opV S53.r fun c => run_v (run_move rfl) (c.q 6 rfl))
  · exact opT S53.r 1 (opV S53.r fun c => run_b (y := true) (run_eql rfl (c.e 0 rfl) rfl) (dve_0 h0))
  · exact opE S53.r fun c => ⟨_, run_pick rfl (c.e 0 rfl), pick_and (fun _ => (c.e 1 rfl))⟩
  · exact opV S53.r fun c => run_v (run_move rfl) (c.e 0 rfl)
  · exact opT S53.r 0 (opV S53.r fun c => run_v (run_move rfl) (c.q 0 rfl))
  · exact opT S53.r 1 (opV S53.r fun c => run_b (y := true) (run_eql rfl (c.e 0 rfl) rfl) (dve_0 h0))
  · exact opE S53.r fun c => ⟨_, run_pick rfl (c.e 0 rfl), pick_and (fun _ => (c.e 1 rfl))⟩
  · exact opV S53.r fun c => run_v (run_move rfl) (c.e 0 rfl)
  · exact opT S53.r 0 (opP S53.r fun c => ⟨_, run_move rfl, (c.o 7 rfl)⟩)
  · exact opT S53.r 1 (opV S53.r fun c => len_L ((dvr (polQ ts 4) (gcdP (polQ ts 4) (polQ us 4))).length) Tryz.underlying37 (c.h 0 rfl) (lC_len _ _))
  · exact opT S53.r 1 (opV S53.r fun c => run_b (y := true) (run_eql rfl (c.e 0 rfl) rfl) (nil_0 (gcd_reml h0)))
  · exact opE S53.r fun c => ⟨_, run_pick rfl (c.e 0 rfl), pick_and (fun _ => (c.e 1 rfl))⟩
  · exact opV S53.r fun c => run_v (run_move rfl) (c.e 0 rfl)
  · exact opT S53.r 0 (opP S53.r fun c => ⟨_, run_move rfl, (c.o 1 rfl)⟩)
  · exact opT S53.r 1 (opV S53.r fun c => len_L ((dvr (polQ us 4) (gcdP (polQ ts 4) (polQ us 4))).length) Tryz.underlying37 (c.h 0 rfl) (lC_len _ _))
  · exact opT S53.r 1 (opV S53.r fun c => run_b (y := true) (run_eql rfl (c.e 0 rfl) rfl) (nil_0 (gcd_remr h0)))
  · exact opE S53.r fun c => ⟨_, run_pick rfl (c.e 0 rfl), pick_and (fun _ => (c.e 1 rfl))⟩
  · exact opV S53.r fun c => run_v (run_move rfl) (c.e 0 rfl)
  · exact opT S53.r 0 (opP S53.r fun c => ⟨_, run_move rfl, (c.o 8 rfl)⟩)
  · exact opT S53.r 0 (opP S53.r fun c => ⟨_, run_move rfl, (c.o 8 rfl)⟩)
  · exact opT S53.r 1 (opV S53.r fun c => len_L ((gcdP (polQ ts 4) (polQ us 4)).length) Tryz.underlying37 (c.h 0 rfl) (lC_len _ _))
  · exact opT S53.r 1 (opV S53.r fun c => run_sub rfl (c.e 0 rfl) rfl (by omega) (by omega))
  · exact opT S53.r 2 (opP S53.r fun c => ix_sl Tryz.underlying37 infoRz (c.h 0 rfl) (c.e 1 rfl) (i := ((gcdP (polQ ts 4) (polQ us 4)).length) - 1) (by omega) (lC_get (by omega)))
  · exact opT S53.r 1 (opP S53.r fun c => ld_pt (c.h 0 rfl) Tryz.underlying26 info_Rat)
  · exact opT S53.r 0 (opC S53.r rfl fun c B => ⟨_, args_1 rfl, (r_of (1) (by omega) (by omega))⟩)
  · exact opT S53.r 3 (opC S53.r rfl fun c B => ⟨_, args_2 rfl rfl, (r_cmp (by omega) (by omega) (isC.r (c.h 0 rfl)) (isC.r (c.h 1 rfl)))⟩)
  · exact opT S53.r 1 (opV S53.r fun c => run_b (y := true) (run_eql rfl (c.e 0 rfl) rfl) (gcd_lead (by assumption)))
  · exact opE S53.r fun c => ⟨_, run_pick rfl (c.e 0 rfl), pick_and (fun _ => (c.e 1 rfl))⟩
  · exact opV S53.r fun c => run_v (run_move rfl) (c.e 0 rfl)
  · exact opT S53.r 0 (opP S53.r fun c => ⟨_, run_move rfl, (c.o 11 rfl)⟩)
  · exact opT S53.r 0 (opP S53.r fun c => ⟨_, run_move rfl, (c.o 9 rfl)⟩)
  · exact opT S53.r 2 (opC S53.r rfl fun c B => ⟨_, args_2 rfl rfl, (p_mul (L := 5) (K1 := 27) (K3 := 347) (by omega) (by omega) (by omega) (by omega) (by omega) (by omega) (by omega) (by omega) (by omega) (by omega) (slC_r (c.h 0 rfl)) (slC_r (c.h 1 rfl)) (hT.below B) (S53.obc c.wb))⟩)
  · exact opT S53.r 0 (opP S53.r fun c => ⟨_, run_move rfl, (c.o 10 rfl)⟩)
  · exact opT S53.r 0 (opP S53.r fun c => ⟨_, run_move rfl, (c.o 9 rfl)⟩)
  · exact opT S53.r 3 (opC S53.r rfl fun c B => ⟨_, args_2 rfl rfl, (p_mul (L := 5) (K1 := 27) (K3 := 347) (by omega) (by omega) (by omega) (by omega) (by omega) (by omega) (by omega) (by omega) (by omega) (by omega) (slC_r (c.h 0 rfl)) (slC_r (c.h 1 rfl)) (hT.below B) (S53.obc c.wb))⟩)
  · exact opT S53.r 3 (opC S53.r rfl fun c B => ⟨_, args_2 rfl rfl, (p_gcd (L := 8) (K1 := 794) (K := 6135) (by omega) (by omega) (by omega) (by omega) (by omega) (by omega) (by omega) (by omega) (by omega) (by omega) (fun P Q l c g => GZ_of ((prim_wb (PB.mul (polQ_pb ts 4) (polQ_pb vs 3) (polQ_len ts 4)) (by decide +kernel)).up (v := 1016064000) (by decide +kernel)) ((prim_wb (PB.mul (polQ_pb us 4) (polQ_pb vs 3) (polQ_len us 4)) (by decide +kernel)).up (v := 1016064000) (by decide +kernel)) (Nat.le_trans (prim_le (mulP_len1 (polQ_len ts 4) (polQ_len vs 3))) (by decide) : (primP (mulP (polQ ts 4) (polQ vs 3))).length ≤ 8) (Nat.le_trans (prim_le (mulP_len1 (polQ_len us 4) (polQ_len vs 3))) (by decide) : (primP (mulP (polQ us 4) (polQ vs 3))).length ≤ 8) (by decide +kernel) P Q l c g) (slC_r (c.h 0 rfl)) (slC_r (c.h 1 rfl)) (hT.below B) (S53.obc c.wb))⟩)
  · exact opT S53.r 0 (opP S53.r fun c => ⟨_, run_move rfl, (c.o 8 rfl)⟩)
  · exact opT S53.r 0 (opP S53.r fun c => ⟨_, run_move rfl, (c.o 9 rfl)⟩)
  · exact opT S53.r 3 (opC S53.r rfl fun c B => ⟨_, args_2 rfl rfl, (p_mul (L := 5) (K1 := 1117) (K3 := 12337) (by omega) (by omega) (by omega) (by omega) (by omega) (by omega) (by omega) (by omega) (by omega) (by omega) (slC_r (c.h 0 rfl)) (slC_r (c.h 1 rfl)) (hT.below B) (S53.obc c.wb))⟩)
  · exact opT S53.r 2 (opC S53.r rfl fun c B => ⟨_, args_1 rfl, (p_monic (by omega) (by omega) (slC_r (c.h 0 rfl)) (hT.below B) (S53.obc c.wb))⟩)
  · exact opT S53.r 3 (opC S53.r rfl fun c B => ⟨_, args_2 rfl rfl, ret_b (y := true) (r5_equal (by first | omega | decide +kernel) (by first | omega | decide +kernel) (by omega) (by omega) (c.h 0 rfl) (c.h 1 rfl) (S53.obc c.wb)) (gcd_mul' _ _ _)⟩)
  · exact opE S53.r fun c => ⟨_, run_pick rfl (c.e 0 rfl), pick_and (fun _ => (c.e 1 rfl))⟩
  · exact opV S53.r fun c => run_v (run_assign rfl) (c.e 0 rfl)
  · rfl
  refine wpList_nil (then_normal ?_)
  refine wp_ret ?_
  exact st_endT S56 0 rfl fun v h => h
end Go.Proofs.YtcankknlbljicaaGreatDoor

namespace Go.Proofs.YtcankknlbljicaaGreatDoor.polyGcds
open Go.ChangeShapes Go.WideShapes Go.ChangeAt Go.RowKit
open Go.ChangeMaps (open_string shut_string)

set_option linter.unusedVariables false
theorem lifted (os : Os) (started : os.Started) (H : Type) (enc : TypeId × Value → H) :
  ReturnsInHanded {} Tryz.checked os 8 .any (fun w args => (Rows.polyGcdsSpec.pre enc Tryz.prog Tryz.f8 Rows.polyGcdsRow.domain false w args ∧ laidMetH Tryz.prog Rows.polyGcdsRow.laid w) ∧ sizedMet enc Tryz.prog Tryz.f8 (OpenSpec.ofChange Rows.polyGcdsSpec) false w args)
   (Rows.polyGcdsSpec.post enc Tryz.prog Tryz.f8 false true false false) := by
 refine returnsInHanded_of_change_and (C := Tryz.checked) (X := fun w _ => laidMetH Tryz.prog Rows.polyGcdsRow.laid w) (fun _ _ _ hh h => h.of_heap hh) own started (by kernel_rfl) Tryz.func8
  (ChangeSpec.witness_shaped (enc := enc) (C := Tryz.checked) (os := os) (X := fun w _ => laidMetH Tryz.prog Rows.polyGcdsRow.laid w) false (World.laidAll Tryz.prog os Rows.polyGcdsRow.laid) #[.slice none 0 0, .slice none 0 0, .slice none 0 0] 8 (World.laidAll_os _ _ _)
   (World.shaped_of_ZipB (by kernel_rfl) (by kernel_rfl)) (by kernel_rfl) (by kernel_rfl) (by kernel_rfl)
   (by rw [MakeChecks.laidMetH_plain _ _ _ (by kernel_rfl)]; exact laidMet_laidAll _ (by kernel_rfl) (by kernel_rfl))) ?_
 intro W base args ds gs before hval0 hW hcnd _ hL _
 have hval : ∀ (j : Nat) t v, Tryz.f8.params[j]? = some t → args[j]? = some v → Value.okWide Tryz.prog W .any base t v := hval0
 have hW' := hW
 obtain ⟨p, q, hA0, hV, rfl, hfz, hnd⟩ := hW
 have hA : DataW.TrodAll enc Tryz.prog W 0 (fun _ => true) true Tryz.f8.params.toList args.toList ds p := hA0
 rw [Tryz.params8] at hA hval
 obtain ⟨v0, vs0, d0, ds0, p0, q0, hargs, rfl, rfl, h0, r0⟩ := trodAll_cons hA
 obtain ⟨v1, vs1, d1, ds1, p1, q1, rfl, rfl, rfl, h1, r1⟩ := trodAll_cons r0
 obtain ⟨v2, vs2, d2, ds2, p2, q2, rfl, rfl, rfl, h2, r2⟩ := trodAll_cons r1
 obtain ⟨rfl, rfl, rfl⟩ := trodAll_nil r2
 obtain rfl : args = #[v0, v1, v2] := by cases args; simp_all
 obtain ⟨rfl, rfl⟩ := trodVars_none hV
 have k0 := h0
 have lt0 : ∀ x ∈ p0, x.block < W.heap.size := by obtain ⟨m, hm⟩ := k0; exact DataW.trod_lt m _ _ _ hm
 obtain ⟨t0, hf0, hl0, hr0⟩ := open_lI (hval 0 49 v0 rfl rfl) h0
 have k1 := h1
 have lt1 : ∀ x ∈ p1, x.block < W.heap.size := by obtain ⟨m, hm⟩ := k1; exact DataW.trod_lt m _ _ _ hm
 obtain ⟨t1, hf1, hl1, hr1⟩ := open_lI (hval 1 49 v1 rfl rfl) h1
 have k2 := h2
 have lt2 : ∀ x ∈ p2, x.block < W.heap.size := by obtain ⟨m, hm⟩ := k2; exact DataW.trod_lt m _ _ _ hm
 obtain ⟨t2, hf2, hl2, hr2⟩ := open_lI (hval 2 49 v2 rfl rfl) h2
 clear hA0 hval0
 refine (walkPolyGcds (O := fun _ => False) hl0 hr0 hl1 hr1 hl2 hr2 hf0 hf1 hf2 (tb_of_met (by rw [MakeChecks.laidMetH_plain _ _ _ (by kernel_rfl)] at hL; exact hL)) (fun _ h => h.elim)).mono fun e W' hr => ?_
 obtain ⟨vr, he, hvr, bel⟩ := hr
 obtain rfl : vr = .bool true := hvr
 subst he
 exact ⟨_, rfl, _, _, _, [], _, [], hW', trodAll_mk1 (shut_bool Tryz.underlying4 _), (trodAll_cons_mk (Below.trod laidOut (by kernel_rfl) (of_decide_eq_true (by kernel_rfl)) k0 bel lt0) (trodAll_cons_mk (Below.trod laidOut (by kernel_rfl) (of_decide_eq_true (by kernel_rfl)) k1 bel lt1) (trodAll_cons_mk (Below.trod laidOut (by kernel_rfl) (of_decide_eq_true (by kernel_rfl)) k2 bel lt2) trodAll_mk0))), rfl, bel.frame _, fun h => by cases h⟩

theorem both {a b : Bool} (h1 : a = true) (h2 : b = true) : (a && b) = true := by rw [h1, h2]; rfl

theorem closed : joinedFacts Tryz.prog 8 Tryz.f8 Rows.polyGcdsSpec Rows.polyGcdsRow = true := by
 unfold joinedFacts
 repeat' with_reducible refine both ?_ ?_
 all_goals (as_aux_lemma => kernel_rfl)

theorem over : Rows.PolyGcdsSaid :=
 OpenClaim.holds_of_wide 8 Tryz.f8 rfl rfl rfl rfl rfl rfl rfl ⟨rfl, rfl, rfl, rfl, rfl⟩ rfl rfl rfl rfl rfl (by as_aux_lemma => kernel_rfl) Tryz.func8 closed
  (of_decide_eq_true (by kernel_rfl)) (by unfold Func.isWrapper; first | (rw [if_pos (by decide +kernel)]; kernel_rfl) | (rw [if_neg (by decide +kernel)]; exact ⟨rfl, rfl⟩))
  (fun os started H enc _ => lifted os started H enc)

theorem card : Rows.PolyGcdsCardSaid :=
 Claim7.holds_tied_plain_at .later [] [.data] true Rows.polyGcdsCard.stood.harness false over (fun _ h => by cases h) (by as_aux_lemma => kernel_rfl) (fun _ h => by cases h) polyGcds_row_tie rfl ⟨rfl, rfl⟩ (by as_aux_lemma => kernel_rfl) rfl
  (fun f fn hf hfn => by
   obtain rfl : f = 8 := Option.some.inj ((show Tryz.prog.funcNamed "dspcompiler/dspcompilerlaw05.PolyGcds" = some 8 by as_aux_lemma => kernel_rfl).symm.trans hf) |>.symm
   obtain rfl : fn = Tryz.f8 := (Option.some.inj (Tryz.func8.symm.trans hfn)).symm
   exact ⟨by as_aux_lemma => kernel_rfl, fun j t ht => by
    rw [Tryz.params8] at ht
    have hm : t ∈ [49, 49, 49] := by simpa using Array.mem_of_getElem? ht
    have hall : ([49, 49, 49].all fun u => !Tryz.prog.wantsStandIn u) = true := by as_aux_lemma => kernel_rfl
    exact (show Tryz.prog.wantsStandIn t = false by simpa using List.all_eq_true.1 hall t hm)⟩)
  (by as_aux_lemma => kernel_rfl)
end Go.Proofs.YtcankknlbljicaaGreatDoor.polyGcds
