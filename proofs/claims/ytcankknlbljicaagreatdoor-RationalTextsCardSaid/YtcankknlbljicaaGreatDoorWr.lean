/-  -/
import Derived.Test.YtcankknlbljicaaGreatDoorWq
import Derived.Shelf.Spec.TrailingZeros

set_option linter.unusedVariables false
set_option linter.unusedSimpArgs false
set_option linter.unusedSectionVars false
set_option maxRecDepth 100000
set_option maxHeartbeats 3200000

namespace Go.Proofs.YtcankknlbljicaaGreatDoor
open Num

theorem lehmer_even {x y A B E xr yr x0 y0 x1 y1 a0 b0 : Nat} (hx : x = A * E + xr) (hy : y = B * E + yr) (hxr : xr < E) (hyr : yr < E) (hxy0 : x0 ≤ y0) (hxy1 : x1 ≤ y1) (h0 : 1 ≤ y0)
  (hA : A = y1 * a0 + y0 * b0) (hB : B = x1 * a0 + x0 * b0) (hb : y1 ≤ b0) (ha : b0 + y0 + y1 ≤ a0) (hd : x0 * y1 = x1 * y0 + 1) :
  ∃ u v : Nat, u + y0 * y = x0 * x ∧ v + x1 * x = y1 * y ∧ v < u ∧ x = y1 * u + y0 * v ∧ y = x1 * u + x0 * v := by
 have e1 : x0 * x = x1 * y0 * a0 * E + a0 * E + x0 * y0 * b0 * E + x0 * xr := by
  have : x0 * y1 * (a0 * E) = (x1 * y0 + 1) * (a0 * E) := by rw [hd]
  subst hx hA
  simp only [Nat.add_mul, Nat.mul_add, Nat.mul_assoc, Nat.mul_comm, Nat.mul_left_comm, Nat.one_mul, Nat.mul_one] at *
  omega
 have e2 : y0 * y = x1 * y0 * a0 * E + x0 * y0 * b0 * E + y0 * yr := by
  subst hy hB
  simp only [Nat.add_mul, Nat.mul_add, Nat.mul_assoc, Nat.mul_comm, Nat.mul_left_comm]
 have e3 : y1 * y = x1 * y1 * a0 * E + x1 * y0 * b0 * E + b0 * E + y1 * yr := by
  have : x0 * y1 * (b0 * E) = (x1 * y0 + 1) * (b0 * E) := by rw [hd]
  subst hy hB
  simp only [Nat.add_mul, Nat.mul_add, Nat.mul_assoc, Nat.mul_comm, Nat.mul_left_comm, Nat.one_mul, Nat.mul_one] at *
  omega
 have e4 : x1 * x = x1 * y1 * a0 * E + x1 * y0 * b0 * E + x1 * xr := by
  subst hx hA
  simp only [Nat.add_mul, Nat.mul_add, Nat.mul_assoc, Nat.mul_comm, Nat.mul_left_comm]
 have f1 : (b0 + y0 + y1) * E ≤ a0 * E := Nat.mul_le_mul_right _ ha
 have f2 : y1 * E ≤ b0 * E := Nat.mul_le_mul_right _ hb
 have f3 : y0 * yr < y0 * E := Nat.mul_lt_mul_of_pos_left hyr (by omega)
 have f4 : y1 * yr ≤ y1 * E := Nat.mul_le_mul_left _ (by omega)
 have f5 : x1 * xr ≤ y1 * E := Nat.mul_le_mul hxy1 (by omega)
 simp only [Nat.add_mul] at f1
 obtain ⟨u, hu⟩ : ∃ u, u + y0 * y = x0 * x := ⟨x0 * x - y0 * y, by omega⟩
 obtain ⟨v, hv⟩ : ∃ v, v + x1 * x = y1 * y := ⟨y1 * y - x1 * x, by omega⟩
 refine ⟨u, v, hu, hv, by omega, ?_, ?_⟩
 ·have g1 : y1 * (u + y0 * y) = y1 * (x0 * x) := by rw [hu]
  have g2 : y0 * (v + x1 * x) = y0 * (y1 * y) := by rw [hv]
  have g3 : x0 * y1 * x = (x1 * y0 + 1) * x := by rw [hd]
  simp only [Nat.add_mul, Nat.mul_add, Nat.mul_assoc, Nat.mul_comm, Nat.mul_left_comm, Nat.one_mul, Nat.mul_one] at g1 g2 g3 ⊢
  omega
 ·have g1 : x1 * (u + y0 * y) = x1 * (x0 * x) := by rw [hu]
  have g2 : x0 * (v + x1 * x) = x0 * (y1 * y) := by rw [hv]
  have g3 : x0 * y1 * y = (x1 * y0 + 1) * y := by rw [hd]
  simp only [Nat.add_mul, Nat.mul_add, Nat.mul_assoc, Nat.mul_comm, Nat.mul_left_comm, Nat.one_mul, Nat.mul_one] at g1 g2 g3 ⊢
  omega

theorem lehmer_odd {x y A B E xr yr x0 y0 x1 y1 a0 b0 : Nat} (hx : x = A * E + xr) (hy : y = B * E + yr) (hxr : xr < E) (hyr : yr < E) (hxy0 : x0 ≤ y0) (hxy1 : x1 ≤ y1) (h0 : 1 ≤ y0)
  (hA : A = y1 * a0 + y0 * b0) (hB : B = x1 * a0 + x0 * b0) (hb : y1 ≤ b0) (ha : b0 + y0 + y1 ≤ a0) (hd : x1 * y0 = x0 * y1 + 1) :
  ∃ u v : Nat, u + x0 * x = y0 * y ∧ v + y1 * y = x1 * x ∧ v < u ∧ x = y1 * u + y0 * v ∧ y = x1 * u + x0 * v := by
 have e1 : y0 * y = x0 * y1 * a0 * E + a0 * E + x0 * y0 * b0 * E + y0 * yr := by
  have : x1 * y0 * (a0 * E) = (x0 * y1 + 1) * (a0 * E) := by rw [hd]
  subst hy hB
  simp only [Nat.add_mul, Nat.mul_add, Nat.mul_assoc, Nat.mul_comm, Nat.mul_left_comm, Nat.one_mul, Nat.mul_one] at *
  omega
 have e2 : x0 * x = x0 * y1 * a0 * E + x0 * y0 * b0 * E + x0 * xr := by
  subst hx hA
  simp only [Nat.add_mul, Nat.mul_add, Nat.mul_assoc, Nat.mul_comm, Nat.mul_left_comm]
 have e3 : x1 * x = x1 * y1 * a0 * E + x0 * y1 * b0 * E + b0 * E + x1 * xr := by
  have : x1 * y0 * (b0 * E) = (x0 * y1 + 1) * (b0 * E) := by rw [hd]
  subst hx hA
  simp only [Nat.add_mul, Nat.mul_add, Nat.mul_assoc, Nat.mul_comm, Nat.mul_left_comm, Nat.one_mul, Nat.mul_one] at *
  omega
 have e4 : y1 * y = x1 * y1 * a0 * E + x0 * y1 * b0 * E + y1 * yr := by
  subst hy hB
  simp only [Nat.add_mul, Nat.mul_add, Nat.mul_assoc, Nat.mul_comm, Nat.mul_left_comm]
 have f1 : (b0 + y0 + y1) * E ≤ a0 * E := Nat.mul_le_mul_right _ ha
 have f2 : y1 * E ≤ b0 * E := Nat.mul_le_mul_right _ hb
 have f3 : x0 * xr ≤ y0 * xr := Nat.mul_le_mul_right _ hxy0
 have f4 : y0 * xr < y0 * E := Nat.mul_lt_mul_of_pos_left hxr (by omega)
 have f5 : x1 * xr ≤ y1 * E := Nat.mul_le_mul hxy1 (by omega)
 have f6 : y1 * yr ≤ y1 * E := Nat.mul_le_mul_left _ (by omega)
 simp only [Nat.add_mul] at f1
 obtain ⟨u, hu⟩ : ∃ u, u + x0 * x = y0 * y := ⟨y0 * y - x0 * x, by omega⟩
 obtain ⟨v, hv⟩ : ∃ v, v + y1 * y = x1 * x := ⟨x1 * x - y1 * y, by omega⟩
 refine ⟨u, v, hu, hv, by omega, ?_, ?_⟩
 ·have g1 : y1 * (u + x0 * x) = y1 * (y0 * y) := by rw [hu]
  have g2 : y0 * (v + y1 * y) = y0 * (x1 * x) := by rw [hv]
  have g3 : x1 * y0 * x = (x0 * y1 + 1) * x := by rw [hd]
  simp only [Nat.add_mul, Nat.mul_add, Nat.mul_assoc, Nat.mul_comm, Nat.mul_left_comm, Nat.one_mul, Nat.mul_one] at g1 g2 g3 ⊢
  omega
 ·have g1 : x1 * (u + x0 * x) = x1 * (y0 * y) := by rw [hu]
  have g2 : x0 * (v + y1 * y) = x0 * (x1 * x) := by rw [hv]
  have g3 : x1 * y0 * y = (x0 * y1 + 1) * y := by rw [hd]
  simp only [Nat.add_mul, Nat.mul_add, Nat.mul_assoc, Nat.mul_comm, Nat.mul_left_comm, Nat.one_mul, Nat.mul_one] at g1 g2 g3 ⊢
  omega

theorem gcd_even {x y u v x0 y0 x1 y1 : Nat} (h1 : u + y0 * y = x0 * x) (h2 : v + x1 * x = y1 * y) (h3 : x = y1 * u + y0 * v) (h4 : y = x1 * u + x0 * v) : Nat.gcd u v = Nat.gcd x y := by
 apply Nat.dvd_antisymm
 ·apply Nat.dvd_gcd
  ·rw [h3]; exact Nat.dvd_add (Nat.dvd_mul_left_of_dvd (Nat.gcd_dvd_left u v) _) (Nat.dvd_mul_left_of_dvd (Nat.gcd_dvd_right u v) _)
  ·rw [h4]; exact Nat.dvd_add (Nat.dvd_mul_left_of_dvd (Nat.gcd_dvd_left u v) _) (Nat.dvd_mul_left_of_dvd (Nat.gcd_dvd_right u v) _)
 ·apply Nat.dvd_gcd
  ·refine (Nat.dvd_add_iff_left (Nat.dvd_mul_left_of_dvd (Nat.gcd_dvd_right x y) y0)).2 ?_
   rw [h1]; exact Nat.dvd_mul_left_of_dvd (Nat.gcd_dvd_left x y) _
  ·refine (Nat.dvd_add_iff_left (Nat.dvd_mul_left_of_dvd (Nat.gcd_dvd_left x y) x1)).2 ?_
   rw [h2]; exact Nat.dvd_mul_left_of_dvd (Nat.gcd_dvd_right x y) _

def GsI (A B a b x0 x1 x2 y0 y1 y2 : Nat) (ev : Bool) : Prop :=
 A = y2 * a + y1 * b ∧ B = x2 * a + x1 * b ∧ b ≤ a ∧ y1 ≤ y2 ∧ x2 ≤ y2 ∧ 1 ≤ y2 ∧ (ev = true → x2 * y1 = x1 * y2 + 1) ∧ (ev = false → x1 * y2 = x2 * y1 + 1) ∧
 ((x0 = 0 ∧ y0 = 0 ∧ x1 = 1 ∧ y1 = 0 ∧ x2 = 0 ∧ y2 = 1 ∧ ev = false) ∨ (x0 = 1 ∧ y0 = 0 ∧ x1 = 0 ∧ y1 = 1 ∧ 1 ≤ x2) ∨
  (x0 ≤ y0 ∧ 1 ≤ y0 ∧ y0 ≤ y1 ∧ x1 ≤ y1 ∧ 1 ≤ x1 ∧ 1 ≤ x2 ∧ ∃ a0, A = y1 * a0 + y0 * a ∧ B = x1 * a0 + x0 * a ∧ y1 ≤ a ∧ a + y0 + y1 ≤ a0 ∧ (ev = true → x0 * y1 = x1 * y0 + 1) ∧ (ev = false → x1 * y0 = x0 * y1 + 1)))

theorem GsI.start {A B : Nat} (h : B ≤ A) : GsI A B A B 0 1 0 0 0 1 false := by
 refine ⟨by simp, by simp, h, by omega, by omega, by omega, (fun h => by cases h), (fun _ => by simp), Or.inl (by simp)⟩

theorem GsI.step {A B a b x0 x1 x2 y0 y1 y2 : Nat} {ev : Bool} (h : GsI A B a b x0 x1 x2 y0 y1 y2 ev) (h1 : y2 ≤ b) (h2 : y1 + y2 ≤ a - b) :
  GsI A B b (a % b) x1 x2 (x1 + a / b * x2) y1 y2 (y1 + a / b * y2) (!ev) := by
 obtain ⟨hA, hB, hba, hy, hx, hp, hdt, hdf, hc⟩ := h
 have hb : 0 < b := by omega
 have hq : 1 ≤ a / b := (Nat.le_div_iff_mul_le hb).2 (by omega)
 have hqm : b * (a / b) + a % b = a := Nat.div_add_mod a b
 generalize hqq : a / b = q at *
 generalize hrr : a % b = r at *
 have hr : r < b := by rw [← hrr]; exact Nat.mod_lt _ hb
 have hqy : y2 ≤ q * y2 := Nat.le_mul_of_pos_left _ hq
 have hqx : x2 ≤ q * x2 := Nat.le_mul_of_pos_left _ hq
 have hqxy : q * x2 ≤ q * y2 := Nat.mul_le_mul_left _ hx
 clear hqq hrr
 refine ⟨?_, ?_, by omega, by omega, ?_, by omega, ?_, ?_, ?_⟩
 ·rw [hA, ← hqm]; simp only [Nat.add_mul, Nat.mul_add, Nat.mul_assoc, Nat.mul_comm, Nat.mul_left_comm]; omega
 ·rw [hB, ← hqm]; simp only [Nat.add_mul, Nat.mul_add, Nat.mul_assoc, Nat.mul_comm, Nat.mul_left_comm]; omega
 ·rcases hc with ⟨rfl, rfl, rfl, rfl, rfl, rfl, rfl⟩ | ⟨rfl, rfl, rfl, rfl, h⟩ | ⟨_, _, _, h, _⟩ <;> omega
 ·intro he
  have := hdf (by cases ev <;> simp_all)
  simp only [Nat.add_mul, Nat.mul_add, Nat.mul_assoc, Nat.mul_comm, Nat.mul_left_comm] at this ⊢
  omega
 ·intro he
  have := hdt (by cases ev <;> simp_all)
  simp only [Nat.add_mul, Nat.mul_add, Nat.mul_assoc, Nat.mul_comm, Nat.mul_left_comm] at this ⊢
  omega
 ·have hlast : A = y2 * a + y1 * b ∧ B = x2 * a + x1 * b ∧ y2 ≤ b ∧ b + y1 + y2 ≤ a ∧ ((!ev) = true → x1 * y2 = x2 * y1 + 1) ∧ ((!ev) = false → x2 * y1 = x1 * y2 + 1) :=
   ⟨hA, hB, h1, by omega, fun he => hdf (by cases ev <;> simp_all), fun he => hdt (by cases ev <;> simp_all)⟩
  rcases hc with ⟨rfl, rfl, rfl, rfl, rfl, rfl, rfl⟩ | ⟨rfl, rfl, rfl, rfl, h⟩ | ⟨h3, h4, h5, h6, h7, h8, _⟩
  ·right; left; exact ⟨rfl, rfl, rfl, rfl, by omega⟩
  ·right; right; exact ⟨by omega, by omega, by omega, by omega, by omega, by omega, a, hlast⟩
  ·right; right; exact ⟨by omega, by omega, by omega, by omega, by omega, by omega, a, hlast⟩

theorem GsI.small {A B a b x0 x1 x2 y0 y1 y2 : Nat} {ev : Bool} (h : GsI A B a b x0 x1 x2 y0 y1 y2 ev) (hA64 : A < 18446744073709551616) (hBA : B ≤ A) (h1 : y2 ≤ b) :
  y2 < 4294967296 ∧ y1 < 4294967296 := by
 obtain ⟨hA, hB, hba, hy, hx, hp, hdt, hdf, hc⟩ := h
 have : y2 * y2 ≤ y2 * a := Nat.mul_le_mul_left _ (by omega)
 have h2 : y2 * y2 < 4294967296 * 4294967296 := by omega
 have h3 : y2 < 4294967296 := by
  apply Classical.byContradiction; intro hn
  have := Nat.mul_le_mul (show 4294967296 ≤ y2 by omega) (show 4294967296 ≤ y2 by omega)
  omega
 omega
theorem GsI.small2 {A B a b x0 x1 x2 y0 y1 y2 : Nat} {ev : Bool} (h : GsI A B a b x0 x1 x2 y0 y1 y2 ev) (hA64 : A < 18446744073709551616) (hBA : B ≤ A) (h1 : 1 ≤ a) :
  y2 < 18446744073709551616 ∧ x2 < 18446744073709551616 ∧ y1 < 18446744073709551616 ∧ a < 18446744073709551616 := by
 obtain ⟨hA, hB, hba, hy, hx, hp, hdt, hdf, hc⟩ := h
 have : y2 * 1 ≤ y2 * a := Nat.mul_le_mul_left _ (by omega)
 have : 1 * a ≤ y2 * a := Nat.mul_le_mul_right _ (by omega)
 omega

def GsOk (A B x0 y0 x1 y1 : Nat) (ev : Bool) : Prop :=
 y0 = 0 ∨ (x0 ≤ y0 ∧ 1 ≤ y0 ∧ y0 ≤ y1 ∧ x1 ≤ y1 ∧ 1 ≤ x1 ∧ y1 < 4294967296 ∧ ∃ a b, A = y1 * a + y0 * b ∧ B = x1 * a + x0 * b ∧ y1 ≤ b ∧ b + y0 + y1 ≤ a ∧ (ev = true → x0 * y1 = x1 * y0 + 1) ∧ (ev = false → x1 * y0 = x0 * y1 + 1))
theorem GsI.ok {A B a b x0 x1 x2 y0 y1 y2 : Nat} {ev : Bool} (h : GsI A B a b x0 x1 x2 y0 y1 y2 ev) (hA64 : A < 18446744073709551616) : GsOk A B x0 y0 x1 y1 ev := by
 obtain ⟨hA, hB, hba, hy, hx, hp, hdt, hdf, hc⟩ := h
 rcases hc with ⟨_, h0, _⟩ | ⟨_, h0, _⟩ | ⟨h3, h4, h5, h6, h7, h8, a0, g1, g2, g3, g4, g5⟩
 ·exact Or.inl h0
 ·exact Or.inl h0
 ·refine Or.inr ⟨h3, h4, h5, h6, h7, ?_, a0, a, g1, g2, g3, g4, g5⟩
  have : y1 * y1 ≤ y1 * a0 := Nat.mul_le_mul_left _ (by omega)
  apply Classical.byContradiction; intro hn
  have := Nat.mul_le_mul (show 4294967296 ≤ y1 by omega) (show 4294967296 ≤ y1 by omega)
  omega

theorem GsOk.use {x y A B E xr yr x0 y0 x1 y1 : Nat} {ev : Bool} (h : GsOk A B x0 y0 x1 y1 ev) (h0 : y0 ≠ 0) (hx : x = A * E + xr) (hy : y = B * E + yr) (hxr : xr < E) (hyr : yr < E) :
  x0 < 4294967296 ∧ y0 < 4294967296 ∧ x1 < 4294967296 ∧ y1 < 4294967296 ∧ ∃ u v : Nat, v < u ∧ u ≤ x ∧ u ≤ y ∧ Nat.gcd u v = Nat.gcd x y ∧
   (ev = true → u + y0 * y = x0 * x ∧ v + x1 * x = y1 * y) ∧ (ev = false → u + x0 * x = y0 * y ∧ v + y1 * y = x1 * x) := by
 rcases h with h | ⟨h1, h2, h3, h4, h5, h6, a, b, hA, hB, h7, h8, h9, h10⟩
 ·exact absurd h h0
 refine ⟨by omega, by omega, by omega, by omega, ?_⟩
 have le : ∀ u v : Nat, x = y1 * u + y0 * v → y = x1 * u + x0 * v → u ≤ x ∧ u ≤ y := by
  intro u v e1 e2
  have i1 : 1 * u ≤ y1 * u := Nat.mul_le_mul_right _ (by omega)
  have i2 : 1 * u ≤ x1 * u := Nat.mul_le_mul_right _ (by omega)
  omega
 cases ev
 ·obtain ⟨u, v, e1, e2, e3, e4, e5⟩ := lehmer_odd hx hy hxr hyr h1 h4 h2 hA hB h7 h8 (h10 rfl)
  refine ⟨u, v, e3, (le u v e4 e5).1, (le u v e4 e5).2, ?_, (fun h => by cases h), fun _ => ⟨e1, e2⟩⟩
  rw [Nat.gcd_comm x y]
  exact gcd_even (x := y) (y := x) (x0 := y0) (y0 := x0) (x1 := y1) (y1 := x1) e1 e2 (by rw [e5]) (by rw [e4])
 ·obtain ⟨u, v, e1, e2, e3, e4, e5⟩ := lehmer_even hx hy hxr hyr h1 h4 h2 hA hB h7 h8 (h9 rfl)
  exact ⟨u, v, e3, (le u v e4 e5).1, (le u v e4 e5).2, gcd_even e1 e2 e4 e5, fun _ => ⟨e1, e2⟩, fun h => by cases h⟩

theorem diff_step {P zv p q X Y x y pl ml pl1 ml1 pd md d b b' : Nat} (h : zv + q * Y + pl * P = p * X + (ml + b) * P)
  (hp : pl + p * x = pl1 * 4294967296 + pd) (hm : ml + q * y = ml1 * 4294967296 + md) (hd : d + md + b = pd + b' * 4294967296) :
  zv + P * d + q * (Y + P * y) + pl1 * (P * 4294967296) = p * (X + P * x) + (ml1 + b') * (P * 4294967296) := by
 have g1 : P * (pl + p * x) = P * (pl1 * 4294967296 + pd) := by rw [hp]
 have g2 : P * (ml + q * y) = P * (ml1 * 4294967296 + md) := by rw [hm]
 have g3 : P * (d + md + b) = P * (pd + b' * 4294967296) := by rw [hd]
 simp only [Nat.add_mul, Nat.mul_add, Nat.mul_assoc, Nat.mul_comm, Nat.mul_left_comm] at h g1 g2 g3 ⊢
 omega

theorem gcd_odd_shift {a b t : Nat} (ha : a % 2 = 1) : Nat.gcd a (b * 2 ^ t) = Nat.gcd a b := by
 have h : Nat.gcd a (2 ^ t) = 1 := by
  have : Nat.Coprime a 2 := by
   rw [Nat.coprime_iff_gcd_eq_one, Nat.gcd_comm, Nat.gcd_rec, ha]; rfl
  exact Nat.Coprime.pow_right t this
 exact Nat.Coprime.gcd_mul_right_cancel_right b (Nat.coprime_iff_gcd_eq_one.2 (by rw [Nat.gcd_comm]; exact h))
theorem gcd_two_pow {b i c : Nat} (hc : c ≤ i) (hb : 2 ^ c ∣ b) (h : c = i ∨ ¬ 2 ^ (c + 1) ∣ b) : Nat.gcd b (2 ^ i) = 2 ^ c := by
 rcases h with rfl | h
 ·exact Nat.gcd_eq_right hb
 ·obtain ⟨k, rfl⟩ := hb
  have hk : k % 2 = 1 := by
   apply Classical.byContradiction; intro hn
   apply h
   refine ⟨k / 2, ?_⟩
   rw [Nat.pow_succ, Nat.mul_assoc]; congr 1; omega
  obtain ⟨d, rfl⟩ : ∃ d, i = c + d := ⟨i - c, by omega⟩
  rw [Nat.pow_add, Nat.gcd_mul_left]
  have := gcd_odd_shift (a := k) (b := 1) (t := d) hk
  rw [Nat.one_mul, Nat.gcd_one_right] at this
  rw [this, Nat.mul_one]
theorem gcd_start {a b i m c k : Nat} (ha : a = 2 ^ i * (2 * m + 1)) (hc : a ||| b = 2 ^ c * (2 * k + 1)) : Nat.gcd a b = Nat.gcd (2 * m + 1) b * 2 ^ c := by
 have h0 : (a ||| b) % 2 ^ c = 0 := by rw [hc]; exact Nat.mul_mod_right _ _
 rw [Nat.or_mod_two_pow, Nat.or_eq_zero_iff] at h0
 have h1 : (a ||| b) % 2 ^ (c + 1) ≠ 0 := by
  intro h
  obtain ⟨t, ht⟩ := Nat.dvd_of_mod_eq_zero h
  rw [hc, Nat.pow_succ, Nat.mul_assoc] at ht
  have := Nat.eq_of_mul_eq_mul_left (Nat.pow_pos (by omega)) ht
  omega
 have hci : c ≤ i := by
  apply Classical.byContradiction; intro hn
  obtain ⟨d, rfl⟩ : ∃ d, c = i + 1 + d := ⟨c - i - 1, by omega⟩
  obtain ⟨t, ht⟩ := Nat.dvd_of_mod_eq_zero h0.1
  rw [ha, Nat.pow_add, Nat.pow_succ, Nat.mul_assoc, Nat.mul_assoc] at ht
  have h3 := Nat.eq_of_mul_eq_mul_left (Nat.pow_pos (by omega)) ht
  omega
 have hg : Nat.gcd b (2 ^ i) = 2 ^ c := by
  refine gcd_two_pow hci (Nat.dvd_of_mod_eq_zero h0.2) ?_
  by_cases hcc : c = i
  ·exact Or.inl hcc
  ·right; intro hd
   apply h1
   rw [Nat.or_mod_two_pow, Nat.or_eq_zero_iff]
   refine ⟨?_, Nat.mod_eq_zero_of_dvd hd⟩
   apply Nat.mod_eq_zero_of_dvd
   rw [ha]
   exact Nat.dvd_mul_right_of_dvd (Nat.pow_dvd_pow 2 (by omega)) _
 have hco : Nat.Coprime (2 ^ i) (2 * m + 1) := by
  have h2 := gcd_odd_shift (a := 2 * m + 1) (b := 1) (t := i) (by omega)
  rw [Nat.one_mul, Nat.gcd_one_right] at h2
  rw [Nat.coprime_iff_gcd_eq_one, Nat.gcd_comm]; exact h2
 rw [ha, Nat.gcd_comm, Nat.Coprime.gcd_mul b hco, hg, Nat.gcd_comm (2 * m + 1) b, Nat.mul_comm]

theorem gcd_round {a b j m : Nat} (ha : a % 2 = 1) (hb : b = 2 ^ j * (2 * m + 1)) :
  Nat.gcd (min a (2 * m + 1)) (max a (2 * m + 1) - min a (2 * m + 1)) = Nat.gcd a b ∧ min a (2 * m + 1) % 2 = 1 ∧ min a (2 * m + 1) + (max a (2 * m + 1) - min a (2 * m + 1)) < a + b ∧ 2 * m + 1 ≤ b := by
 have h1 : Nat.gcd a b = Nat.gcd a (2 * m + 1) := by rw [hb, Nat.mul_comm]; exact gcd_odd_shift ha
 have h2 : 1 * (2 * m + 1) ≤ b := by rw [hb]; exact Nat.mul_le_mul_right _ (Nat.pow_pos (by omega))
 rcases Nat.le_total a (2 * m + 1) with h | h
 ·rw [Nat.min_eq_left h, Nat.max_eq_right h, Nat.gcd_sub_self_right h]
  exact ⟨h1.symm, ha, by omega, by omega⟩
 ·rw [Nat.min_eq_right h, Nat.max_eq_left h, Nat.gcd_sub_self_right h]
  exact ⟨by rw [Nat.gcd_comm]; exact h1.symm, by omega, by omega, by omega⟩
end Go.Proofs.YtcankknlbljicaaGreatDoor

namespace Go.Proofs.YtcankknlbljicaaGreatDoor
open Go.RowKit Num

def Tb (w : World) : Prop := TabAt 1 Lib.deBruijn64tab w
theorem Tb.keep {w w' : World} (h : Tb w) (hk : ∀ a v, w.cell? a = some v → w'.cell? a = some v) : Tb w' := fun j hj => hk _ _ (h j hj)
theorem Tb.below {w w' : World} (h : Tb w) (hb : Below w.heap.size w w') : Tb w' := h.keep fun _ _ hv => (hb.cell (lt_of_cell hv)).trans hv
theorem Tb.lt {w : World} (h : Tb w) : 1 < w.heap.size := lt_of_cell (h 0 (by decide))

theorem tz64_core (x k idx : Nat) (w : World) (hx0 : ((x : Int) == 0) = false)
  (key : IntKind.u64.wrap (bits BinOp.and IntKind.u64 (x : Int) (IntKind.u64.wrap (-(x : Int))) * 285870213051353865) / 288230376151711744 = (idx : Int))
  (hi : idx < 64) (hk : k < 64) (hcell : w.cell? ⟨1, idx, none⟩ = some (.int .u8 (k : Int))) :
  Calls Tryz.prog 228 #[.int .u64 (x : Int)] w (Ret (.int .i64 (k : Int)) w) := by
 go_enter Tryz.func228, Tryz.ntmps228
 go_wp2_with (simp only [key])
 go_ret
 exact ⟨rfl, rfl⟩
theorem tz64_any (x : Nat) (hx : x < 18446744073709551616) (w : World) (hT : Tb w) :
  Calls Tryz.prog 228 #[.int .u64 (x : Int)] w (Ret (.int .i64 (Lib.ctz 64 x : Int)) w) := by
 by_cases hx0 : x = 0
 ·subst hx0
  go_enter Tryz.func228, Tryz.ntmps228
  go_wp2
  go_ret
  exact ⟨rfl, rfl⟩
 ·obtain ⟨hlow, hk⟩ := Lib.lowest_bit 64 x hx0 hx
  obtain ⟨hi, htab⟩ := Lib.deBruijn64_at _ hk
  have hcell := hT _ hi
  rw [htab] at hcell
  exact tz64_core x _ _ w (by simp; omega) (tz64_key x _ hx hx0 hlow) hi hk hcell
theorem int_shr {a i q : Nat} (h : a / 2 ^ i = q) : (a : Int) / 2 ^ i = (q : Int) := by rw [← h]; simp
theorem ctz_spec {x : Nat} (h : x ≠ 0) (hx : x < 18446744073709551616) : ∃ m, x = 2 ^ Lib.ctz 64 x * (2 * m + 1) ∧ Lib.ctz 64 x < 64 := by
 unfold Lib.ctz
 rw [if_neg h]
 exact Lib.ctzFrom_spec 64 x (by omega) (by omega)

theorem smallGcd_any (a b : Nat) (w : World) (ha0 : a ≠ 0) (ha : a < 18446744073709551616) (hb : b < 18446744073709551616) (hT : Tb w) :
  Calls Tryz.prog 201 #[.int .u64 (a : Int), .int .u64 (b : Int)] w (Ret (.int .u64 (Nat.gcd a b : Int)) w) := by
 obtain ⟨o, ho⟩ : ∃ o, o = a ||| b := ⟨_, rfl⟩
 have ho0 : o ≠ 0 := by rw [ho]; intro h; exact ha0 (Nat.or_eq_zero_iff.1 h).1
 have hol : o < 18446744073709551616 := by rw [ho]; exact Nat.or_lt_two_pow (n := 64) ha hb
 obtain ⟨k, hok, hc64⟩ := ctz_spec ho0 hol
 obtain ⟨m, ham, hi64⟩ := ctz_spec ha0 ha
 have hz1 := tz64_any o hol w hT
 have hz2 := tz64_any a ha w hT
 obtain ⟨c, hc⟩ : ∃ c, c = Lib.ctz 64 o := ⟨_, rfl⟩
 obtain ⟨i, hi⟩ : ∃ i, i = Lib.ctz 64 a := ⟨_, rfl⟩
 rw [← hc] at hok hc64 hz1
 rw [← hi] at ham hi64 hz2
 have hG := gcd_start (b := b) (k := k) (c := c) ham (by rw [← ho]; exact hok)
 obtain ⟨G, hGG⟩ : ∃ G, G = Nat.gcd (2 * m + 1) b := ⟨_, rfl⟩
 obtain ⟨R, hR⟩ : ∃ R, R = Nat.gcd a b := ⟨_, rfl⟩
 rw [← hR] at hG ⊢
 rw [← hGG] at hG
 obtain ⟨a1, ha1⟩ : ∃ a1, a1 = 2 * m + 1 := ⟨_, rfl⟩
 rw [← ha1] at hGG ham
 have hsh : a >>> i = a1 := by rw [Nat.shiftRight_eq_div_pow, ham, Nat.mul_div_cancel_left _ (Nat.pow_pos (by omega))]
 have hal : a1 < 18446744073709551616 := by rw [← hsh, Nat.shiftRight_eq_div_pow]; exact Nat.lt_of_le_of_lt (Nat.div_le_self _ _) ha
 have hRl : R < 18446744073709551616 := Nat.lt_of_le_of_lt (by rw [hR]; exact Nat.gcd_le_left _ (by omega)) ha
 have hor : bits .or .u64 (a : Int) (b : Int) = (o : Int) := by rw [u64_or_nat a b ha hb, ho]
 have HGG := hid hGG
 have HG := hid hG
 have HA1 := hid ha1
 have HT := hid hT
 have hsi : (a : Int) / 2 ^ i = (a1 : Int) := int_shr (by rw [← hsh, Nat.shiftRight_eq_div_pow])
 clear ha0 ho0 hok ham hG hGG hR ha1 hc hi ho hT
 go_enter Tryz.func201, Tryz.ntmps201
 go_wp2_with fail
 refine hz1.mono ?_
 rintro e w' ⟨rfl, rfl⟩
 go_wp2_with fail
 refine hz2.mono ?_
 rintro e w' ⟨rfl, rfl⟩
 clear hz1 hz2
 go_wp2_with fail
 go_loop [0, 1] (fun av bv => ∃ x y : Nat, av = .int .u64 (x : Int) ∧ bv = .int .u64 (y : Int) ∧ x < 18446744073709551616 ∧ y < 18446744073709551616 ∧ Hid (x % 2 = 1 ∧ Nat.gcd x y = G)) (fun av bv => (intOf av + intOf bv).toNat)
 case atStart => exact ⟨a1, b, rfl, rfl, hal, hb, ⟨by have := HA1.out; omega, HGG.out.symm⟩⟩
 case round =>
  obtain ⟨x, y, rfl, rfl, hxl, hyl, HX⟩ := hrel
  by_cases hy0 : y = 0
  ·subst hy0
   have hG1 := HX.out.2
   rw [Nat.gcd_zero_right] at hG1
   have HF := hid (show IntKind.u64.wrap ((x : Int) * 2 ^ c) = (R : Int) by
    rw [hG1, show (G : Int) * 2 ^ c = ((G * 2 ^ c : Nat) : Int) by simp, ← HG.out]
    exact wrap_u64_nat R hRl)
   clear hG1
   go_wp2
   go_ret
   exact Ret.mk (int_eq HF.out)
  ·obtain ⟨m1, hm1, hj64⟩ := ctz_spec hy0 hyl
   have hz := tz64_any y hyl w HT.out
   obtain ⟨j, hj⟩ : ∃ j, j = Lib.ctz 64 y := ⟨_, rfl⟩
   rw [← hj] at hm1 hj64 hz
   have hyi : ¬ (y : Int) = 0 := by omega
   have hq : y / 2 ^ j = 2 * m1 + 1 := by rw [hm1, Nat.mul_div_cancel_left _ (Nat.pow_pos (by omega))]
   obtain ⟨z, hz1⟩ : ∃ z, z = 2 * m1 + 1 := ⟨_, rfl⟩
   have hrd := gcd_round HX.out.1 hm1
   rw [← hz1] at hrd hq
   have hzl : z ≤ y := hrd.2.2.2
   have hzs := int_shr hq
   have HR := hid hrd
   have hyb : ((y : Int) != 0) = true := by simp [hy0]
   clear hm1 hj hq hz1 hrd hy0
   go_wp2_with fail
   refine hz.mono ?_
   rintro e w' ⟨rfl, rfl⟩
   rcases Nat.le_total x z with hxz | hxz
   ·go_wp2
    have h := HR.out
    rw [Nat.min_eq_left hxz, Nat.max_eq_right hxz] at h
    have e1 : (if x < z then (z : Int) else (x : Int)) - (x : Int) = ((z - x : Nat) : Int) := by split <;> omega
    rw [e1]
    exact ⟨⟨x, z - x, rfl, rfl, hxl, by omega, ⟨h.2.1, h.1.trans HX.out.2⟩⟩, by simp only [intOf]; omega⟩
   ·go_wp2
    have h := HR.out
    rw [Nat.min_eq_right hxz, Nat.max_eq_left hxz] at h
    have e0 : (if z < x then (z : Int) else (x : Int)) = ((z : Nat) : Int) := by split <;> omega
    have e1 : (if x < z then (z : Int) else (x : Int)) - (z : Int) = ((x - z : Nat) : Int) := by split <;> omega
    rw [e0, e1]
    exact ⟨⟨z, x - z, rfl, rfl, by omega, by omega, ⟨h.2.1, h.1.trans HX.out.2⟩⟩, by simp only [intOf]; omega⟩

theorem toUint64_any (ao : Option Addr) (c : Nat) (ds : List Nat) (w : World) (h : Rd w ao c ds) (hlen : ds.length ≤ 2) :
  Calls Tryz.prog 202 #[.slice ao ds.length c] w (Ret (.int .u64 (val ds : Int)) w) := by
 have hle := h.le
 have hcm := h.cm
 have hdw := h.dg
 have hrd := h
 have HV := hid (show ∃ m, val ds = m from ⟨_, rfl⟩)
 clear h
 go_enter Tryz.func202, Tryz.ntmps202
 go_wp2
 go_loopw [3, 8] (fun sv kv wr => ∃ (k S : Nat) (K : Int), k ≤ ds.length ∧ kv = .int .i64 K ∧ Hid (K = (k : Int)) ∧ sv = .int .u64 (S : Int) ∧ S < 18446744073709551616 ∧ Hid (S = val (ds.take k)) ∧ wr = w) (fun _ kv _ => ds.length - (intOf kv).toNat)
 case atStart => exact ⟨0, 0, 0, Nat.zero_le _, rfl, rfl, rfl, by omega, by simp [Hid, val], rfl⟩
 case round =>
  obtain ⟨k, S, K, hk, rfl, HK, rfl, hSl, HS, rfl⟩ := hrel
  by_cases hlt : k < ds.length
  ·rcases hrd.lies with h9 | ⟨b1, o1, rfl, hc1⟩
   ·simp [h9] at hlt
   have g1 := hc1 k hlt
   obtain ⟨x, hx⟩ : ∃ x, x = ds.getD k 0 := ⟨_, rfl⟩
   rw [← hx] at g1
   have hxl : x < 4294967296 := by rw [hx]; exact wf_getD hdw k
   have hSk : S < 4294967296 ^ k := by rw [HS.out]; exact val_take_lt hdw k
   obtain ⟨t, ht⟩ : ∃ t, t = S + x * 4294967296 ^ k := ⟨_, rfl⟩
   have hor := or_join k S x t (by omega) hSk hxl ht
   have HT := hid (show t = val (ds.take (k + 1)) by rw [val_take_getD, ← hx, ← HS.out, ht, Nat.mul_comm])
   clear hc1 hx ht
   rcases (by omega : k = 0 ∨ k = 1) with hk0 | hk0
   ·obtain rfl : K = 0 := by have := HK.out; omega
    subst hk0
    simp only [Nat.pow_zero, Nat.mul_one] at hor
    rw [Nat.add_zero] at g1
    obtain ⟨hor1, hor2⟩ := hor
    have hki : (0 : Int) < (ds.length : Int) := by omega
    clear HK hk
    go_wp2
    exact ⟨⟨1, t, 1, by omega, rfl, rfl, rfl, hor2, HT.out, trivial⟩, by simp [intOf]; omega⟩
   ·obtain rfl : K = 1 := by have := HK.out; omega
    subst hk0
    simp only [Nat.pow_one] at hor
    obtain ⟨hor1, hor2⟩ := hor
    have hki : (1 : Int) < (ds.length : Int) := by omega
    clear HK hk
    go_wp2
    exact ⟨⟨2, t, 2, by omega, rfl, rfl, int_eq (by simpa using hor1), hor2, HT.out, trivial⟩, by simp [intOf]; omega⟩
  ·obtain rfl : k = ds.length := by omega
   obtain rfl : K = (ds.length : Int) := HK.out
   have hS : S = val ds := by rw [HS.out, List.take_length]
   have hke : ¬ ((ds.length : Int) < (ds.length : Int)) := by omega
   have HSS := hid hS
   clear hS HS HK
   go_wp2
   go_ret
   exact ⟨by rw [HSS.out]; rfl, rfl⟩

theorem ofUint64_any (n : Nat) (w : World) (h : n < 18446744073709551616) :
  Calls Tryz.prog 200 #[.int .u64 (n : Int)] w (RetOwn w.heap.size (nd n) w) := by
 have hu : (n : Int) % 4294967296 = ((n % 4294967296 : Nat) : Int) := by omega
 have hv : (n : Int) / 4294967296 % 4294967296 = ((n / 4294967296 : Nat) : Int) := by omega
 have hv2 : (n : Int) / 4294967296 = ((n / 4294967296 : Nat) : Int) := by omega
 have hown := Own.word w w.heap.size n _ _ hu hv2 h (Nat.le_refl _)
 have hb2 := below_alloc w (.cells #[.int .u32 ((n : Int) % 4294967296), .int .u32 ((n : Int) / 4294967296)] 88)
 have ht := cut_any _ 2 _ _ hown.rd
 rw [val_word] at ht
 have hcn := hown.cutND
 rw [val_word] at hcn
 have HT := hid ht
 have HB := hid (And.intro hcn hb2)
 clear hu hv hv2 hown hb2 ht hcn
 go_enter Tryz.func200, Tryz.ntmps200
 go_wp2_with fail
 refine HT.out.mono ?_
 rintro e w' ⟨rfl, rfl⟩
 go_wp2
 go_ret
 exact ⟨_, 2, rfl, HB.out.1, HB.out.2⟩
end Go.Proofs.YtcankknlbljicaaGreatDoor

namespace Go.Proofs.YtcankknlbljicaaGreatDoor
open Go.RowKit Num

theorem val_take_more (xs : List Nat) (k : Nat) : val (xs.take (k + 1)) = val (xs.take k) + 4294967296 ^ k * xs.getD k 0 := by
 by_cases h : k < xs.length
 ·exact val_take_succ h
 ·rw [val_take_of_ge (by omega), val_take_of_ge (by omega), List.getD_eq_getElem?_getD, List.getElem?_eq_none (by omega)]; simp
theorem getD_out {xs : List Nat} {k : Nat} (h : ¬ k < xs.length) : xs.getD k 0 = 0 := by
 rw [List.getD_eq_getElem?_getD, List.getElem?_eq_none (by omega)]; rfl

def RetDif (w : World) (g o n cz V : Nat) (e : Ending) (w' : World) : Prop := e = .returned (.slice (some ⟨g, o, none⟩) (nd V).length cz) ∧ w' = wput w g o (dig n V)

theorem difference_any (aa ab : Option Addr) (g o cz ca cb p q V : Nat) (zs xs ys : List Nat) (w : World) (hwr : Wr w g o zs) (hcz : zs.length ≤ cz) (hcm : cz ≤ 9223372036854775807) (ha : Rd w aa ca xs) (hb : Rd w ab cb ys)
  (hoa : Off g aa xs) (hob : Off g ab ys) (hl1 : xs.length ≤ zs.length) (hl2 : ys.length ≤ zs.length) (hp : p < 4294967296) (hq : q < 4294967296) (hV : V + q * val ys = p * val xs) (hVl : V < 4294967296 ^ zs.length) :
  Calls Tryz.prog 226 #[.slice (some ⟨g, o, none⟩) zs.length cz, .int .u64 (p : Int), .slice aa xs.length ca, .int .u64 (q : Int), .slice ab ys.length cb] w (RetDif w g o zs.length cz V) := by
 have HV := hid (And.intro hV hVl)
 have HO := hid (And.intro hwr (And.intro (And.intro ha hoa) (And.intro hb hob)))
 have HL := hid (And.intro hl1 hl2)
 have h0 := ha.le
 have h1 := ha.cm
 have h2 := hb.le
 have h3 := hb.cm
 clear hV hVl ha hb hoa hob
 go_enter Tryz.func226, Tryz.ntmps226
 go_wp2
 go_loopw [11, 12, 13, 17] (fun pv mv bv iv wr => ∃ k pl ml bw t : Nat, k ≤ zs.length ∧ iv = .int .i64 (k : Int) ∧ pv = .int .u64 (pl : Int) ∧ mv = .int .u64 (ml : Int) ∧ bv = .int .u32 (bw : Int) ∧ pl < 4294967296 ∧ ml < 4294967296 ∧ bw ≤ 1 ∧
   Hid (t < 4294967296 ^ k ∧ t + q * val (ys.take k) + pl * 4294967296 ^ k = p * val (xs.take k) + (ml + bw) * 4294967296 ^ k) ∧ Hid (wr = wput w g o (dig k t ++ zs.drop k)))
  (fun _ _ _ iv _ => zs.length - (intOf iv).toNat)
 case atStart => exact ⟨0, 0, 0, 0, 0, Nat.zero_le _, rfl, rfl, rfl, rfl, by omega, by omega, by omega, by simp [Hid, val], by simp [Hid, dig]; exact (wput_self HO.out.1).symm⟩
 case round =>
  obtain ⟨k, pl, ml, bw, t, hk, rfl, rfl, rfl, rfl, hpl, hml, hbw, HC, HW⟩ := hrel
  by_cases hlt : k < zs.length
  ·have hLl := length_dig k t
   have hW := HW.out
   obtain ⟨hzc, hzf⟩ := snoc_cell HO.out.1 hLl hlt hW
   obtain ⟨x, hx⟩ : ∃ x, x = xs.getD k 0 := ⟨_, rfl⟩
   obtain ⟨y, hy⟩ : ∃ y, y = ys.getD k 0 := ⟨_, rfl⟩
   have hxl : x < 4294967296 := by rw [hx]; exact wf_getD HO.out.2.1.1.dg k
   have hyl : y < 4294967296 := by rw [hy]; exact wf_getD HO.out.2.2.1.dg k
   obtain ⟨P, hP⟩ : ∃ P, P = p * x := ⟨_, rfl⟩
   obtain ⟨Q, hQ⟩ : ∃ Q, Q = q * y := ⟨_, rfl⟩
   have hPl : P ≤ 18446744065119617025 := by rw [hP]; exact mul_u32 hp hxl
   have hQl : Q ≤ 18446744065119617025 := by rw [hQ]; exact mul_u32 hq hyl
   have hPi : (p : Int) * (x : Int) = (P : Int) := by rw [hP]; simp
   have hQi : (q : Int) * (y : Int) = (Q : Int) := by rw [hQ]; simp
   obtain ⟨pd, hpd⟩ : ∃ pd, pd = (pl + P) % 4294967296 := ⟨_, rfl⟩
   obtain ⟨md, hmd⟩ : ∃ md, md = (ml + Q) % 4294967296 := ⟨_, rfl⟩
   have hpi : ((pl : Int) + (P : Int)) % 4294967296 = (pd : Int) := by omega
   have hmi : ((ml : Int) + (Q : Int)) % 4294967296 = (md : Int) := by omega
   have hpdl : pd < 4294967296 := by omega
   have hmdl : md < 4294967296 := by omega
   have hdig := sub_digit pd md bw hpdl hmdl hbw
   obtain ⟨d, hd⟩ : ∃ d, d = (pd + 8589934592 - md - bw) % 4294967296 := ⟨_, rfl⟩
   obtain ⟨c, hc⟩ : ∃ c, c = if pd < md + bw then 1 else 0 := ⟨_, rfl⟩
   have hcon := fun w => sub32_any pd md bw d c w hpdl hmdl hbw hd hc
   rw [← hd, ← hc] at hdig
   have hstep := diff_step (x := x) (y := y) (pl1 := (pl + P) / 4294967296) (ml1 := (ml + Q) / 4294967296) HC.out.2 (by rw [← hP, hpd]; omega) (by rw [← hQ, hmd]; omega) hdig.1
   have hpb : (pl + P) / 4294967296 < 4294967296 := by omega
   have hmb : (ml + Q) / 4294967296 < 4294967296 := by omega
   have HN := hid (show t + 4294967296 ^ k * d < 4294967296 ^ (k + 1) ∧ t + 4294967296 ^ k * d + q * val (ys.take (k + 1)) + (pl + P) / 4294967296 * 4294967296 ^ (k + 1) = p * val (xs.take (k + 1)) + ((ml + Q) / 4294967296 + c) * 4294967296 ^ (k + 1) by
    rw [val_take_more, val_take_more, ← hx, ← hy, Nat.pow_succ]
    exact ⟨step_lt HC.out.1 hdig.2.1, hstep⟩)
   have HF := hid (show World.setCell wr ⟨g, o + k, none⟩ (.int .u32 (d : Int)) = wput w g o (dig (k + 1) (t + 4294967296 ^ k * d) ++ zs.drop (k + 1)) by
    rw [step_dig_succ, Nat.div_eq_of_lt HC.out.1, Nat.zero_add, Nat.mod_eq_of_lt hdig.2.1]
    exact snoc_put hLl hlt hW rfl)
   have hc1 := hdig.2.2
   have HX := hid (And.intro (And.intro hx hP) (And.intro hy hQ))
   clear hd hc hdig hstep HC hpd hmd hP hQ hLl
   by_cases hix : k < xs.length
   ·by_cases hiy : k < ys.length
    ·obtain ⟨b2, o2, rfl, hxc⟩ := rd_cell HO.out.2.1.1 HO.out.2.1.2 hix hW
     rw [← HX.out.1.1] at hxc
     obtain ⟨b3, o3, rfl, hyc⟩ := rd_cell HO.out.2.2.1 HO.out.2.2.2 hiy hW
     rw [← HX.out.2.1] at hyc
     clear hx hy HX hW HW
     go_wp2_with (go_at_call 246; refine (hcon _).mono ?_; rintro e w' ⟨rfl, rfl⟩)
     refine ⟨⟨k + 1, (pl + P) / 4294967296, (ml + Q) / 4294967296, c, t + 4294967296 ^ k * d, by omega, by simp, int_eq (by omega), int_eq (by omega), rfl, hpb, hmb, hc1, HN.out, HF.out⟩, by simp [intOf]; omega⟩
    ·obtain ⟨b2, o2, rfl, hxc⟩ := rd_cell HO.out.2.1.1 HO.out.2.1.2 hix hW
     rw [← HX.out.1.1] at hxc
     have hy0 : Q = 0 := by rw [HX.out.2.2, HX.out.2.1, getD_out hiy, Nat.mul_zero]
     obtain rfl : md = ml := by omega
     rw [hy0, Nat.add_zero] at HN hmb
     clear hmi hQi hQl hy0
     clear hx hy HX hW HW
     go_wp2_with (go_at_call 246; refine (hcon _).mono ?_; rintro e w' ⟨rfl, rfl⟩)
     refine ⟨⟨k + 1, (pl + P) / 4294967296, md / 4294967296, c, t + 4294967296 ^ k * d, by omega, by simp, int_eq (by omega), int_eq (by omega), rfl, hpb, hmb, hc1, HN.out, HF.out⟩, by simp [intOf]; omega⟩
   ·by_cases hiy : k < ys.length
    ·have hx0 : P = 0 := by rw [HX.out.1.2, HX.out.1.1, getD_out hix, Nat.mul_zero]
     obtain rfl : pd = pl := by omega
     rw [hx0, Nat.add_zero] at HN hpb
     clear hpi hPi hPl hx0
     obtain ⟨b3, o3, rfl, hyc⟩ := rd_cell HO.out.2.2.1 HO.out.2.2.2 hiy hW
     rw [← HX.out.2.1] at hyc
     clear hx hy HX hW HW
     go_wp2_with (go_at_call 246; refine (hcon _).mono ?_; rintro e w' ⟨rfl, rfl⟩)
     refine ⟨⟨k + 1, pd / 4294967296, (ml + Q) / 4294967296, c, t + 4294967296 ^ k * d, by omega, by simp, int_eq (by omega), int_eq (by omega), rfl, hpb, hmb, hc1, HN.out, HF.out⟩, by simp [intOf]; omega⟩
    ·have hx0 : P = 0 := by rw [HX.out.1.2, HX.out.1.1, getD_out hix, Nat.mul_zero]
     obtain rfl : pd = pl := by omega
     rw [hx0, Nat.add_zero] at HN hpb
     clear hpi hPi hPl hx0
     have hy0 : Q = 0 := by rw [HX.out.2.2, HX.out.2.1, getD_out hiy, Nat.mul_zero]
     obtain rfl : md = ml := by omega
     rw [hy0, Nat.add_zero] at HN hmb
     clear hmi hQi hQl hy0
     clear hx hy HX hW HW
     go_wp2_with (go_at_call 246; refine (hcon _).mono ?_; rintro e w' ⟨rfl, rfl⟩)
     refine ⟨⟨k + 1, pd / 4294967296, md / 4294967296, c, t + 4294967296 ^ k * d, by omega, by simp, int_eq (by omega), int_eq (by omega), rfl, hpb, hmb, hc1, HN.out, HF.out⟩, by simp [intOf]; omega⟩
  ·obtain rfl : k = zs.length := by omega
   have hW := HW.out
   have h1 := HC.out
   rw [val_take_of_ge HL.out.1, val_take_of_ge HL.out.2] at h1
   have htV : t = V := by
    have h2 := HV.out.1
    have h3 := HV.out.2
    have h4 : t + pl * 4294967296 ^ zs.length = V + (ml + bw) * 4294967296 ^ zs.length := by omega
    have h5 := congrArg (· % 4294967296 ^ zs.length) h4
    simp only [Nat.add_mul_mod_self_right] at h5
    rw [Nat.mod_eq_of_lt h1.1, Nat.mod_eq_of_lt h3] at h5
    exact h5
   subst htV
   rw [List.drop_eq_nil_of_le (Nat.le_refl _), List.append_nil] at hW
   have hrd := ((HO.out.1.put (ys := dig zs.length t) (length_dig _ _)).rd (c := cz) (by rw [length_dig]; exact hcz) hcm (wf_dig _ _))
   have hcut := cut_any _ _ _ _ hrd
   rw [length_dig, val_dig, Nat.mod_eq_of_lt h1.1] at hcut
   have HW2 := hid hW
   subst hW
   clear hrd h1 HC HW
   go_wp2_with fail
   refine hcut.mono ?_
   rintro e w' ⟨rfl, rfl⟩
   go_wp2
   go_ret
   exact ⟨rfl, rfl⟩
end Go.Proofs.YtcankknlbljicaaGreatDoor
