/- Lehmer's steps of Euclid's algorithm, by the condition of Collins: the arithmetic. -/
import Derived.Test.YtbcaigpdckencaaDoorNum
namespace Go.Proofs.YtbcaigpdckencaaDoor
open Num

/-- the steps that were guessed on the first bits, done on the numbers: an even number of steps -/
theorem lehmer_even {x y A B E xr yr x0 y0 x1 y1 a0 b0 : Nat} (hx : x = A * E + xr) (hy : y = B * E + yr) (hxr : xr < E) (hyr : yr < E) (hxy0 : x0 ≤ y0) (hxy1 : x1 ≤ y1) (h0 : 1 ≤ y0)
    (hA : A = y1 * a0 + y0 * b0) (hB : B = x1 * a0 + x0 * b0) (hb : y1 ≤ b0) (ha : b0 + y0 + y1 ≤ a0) (hd : x0 * y1 = x1 * y0 + 1) :
    ∃ u v : Nat, u + y0 * y = x0 * x ∧ v + x1 * x = y1 * y ∧ v < u ∧ x = y1 * u + y0 * v ∧ y = x1 * u + x0 * v := by
  have e1 : x0 * x = x1 * y0 * a0 * E + a0 * E + x0 * y0 * b0 * E + x0 * xr := by
    have : x0 * y1 * (a0 * E) = (x1 * y0 + 1) * (a0 * E) := by rw [hd]
    subst hx hA
    simp only [Nat.add_mul, Nat.mul_add, Nat.mul_assoc, Nat.mul_comm, Nat.mul_left_comm, Nat.one_mul, Nat.mul_one] at *
    omega
  have e2 : y0 * y = x1 * y0 * a0 * E + x0 * y0 * b0 * E + y0 * yr := by
    subst hy hB
    simp only [Nat.add_mul, Nat.mul_add, Nat.mul_assoc, Nat.mul_comm, Nat.mul_left_comm]
  have e3 : y1 * y = x1 * y1 * a0 * E + x1 * y0 * b0 * E + b0 * E + y1 * yr := by
    have : x0 * y1 * (b0 * E) = (x1 * y0 + 1) * (b0 * E) := by rw [hd]
    subst hy hB
    simp only [Nat.add_mul, Nat.mul_add, Nat.mul_assoc, Nat.mul_comm, Nat.mul_left_comm, Nat.one_mul, Nat.mul_one] at *
    omega
  have e4 : x1 * x = x1 * y1 * a0 * E + x1 * y0 * b0 * E + x1 * xr := by
    subst hx hA
    simp only [Nat.add_mul, Nat.mul_add, Nat.mul_assoc, Nat.mul_comm, Nat.mul_left_comm]
  have f1 : (b0 + y0 + y1) * E ≤ a0 * E := Nat.mul_le_mul_right _ ha
  have f2 : y1 * E ≤ b0 * E := Nat.mul_le_mul_right _ hb
  have f3 : y0 * yr < y0 * E := Nat.mul_lt_mul_of_pos_left hyr (by omega)
  have f4 : y1 * yr ≤ y1 * E := Nat.mul_le_mul_left _ (by omega)
  have f5 : x1 * xr ≤ y1 * E := Nat.mul_le_mul hxy1 (by omega)
  simp only [Nat.add_mul] at f1
  obtain ⟨u, hu⟩ : ∃ u, u + y0 * y = x0 * x := ⟨x0 * x - y0 * y, by omega⟩
  obtain ⟨v, hv⟩ : ∃ v, v + x1 * x = y1 * y := ⟨y1 * y - x1 * x, by omega⟩
  refine ⟨u, v, hu, hv, by omega, ?_, ?_⟩
  · have g1 : y1 * (u + y0 * y) = y1 * (x0 * x) := by rw [hu]
    have g2 : y0 * (v + x1 * x) = y0 * (y1 * y) := by rw [hv]
    have g3 : x0 * y1 * x = (x1 * y0 + 1) * x := by rw [hd]
    simp only [Nat.add_mul, Nat.mul_add, Nat.mul_assoc, Nat.mul_comm, Nat.mul_left_comm, Nat.one_mul, Nat.mul_one] at g1 g2 g3 ⊢
    omega
  · have g1 : x1 * (u + y0 * y) = x1 * (x0 * x) := by rw [hu]
    have g2 : x0 * (v + x1 * x) = x0 * (y1 * y) := by rw [hv]
    have g3 : x0 * y1 * y = (x1 * y0 + 1) * y := by rw [hd]
    simp only [Nat.add_mul, Nat.mul_add, Nat.mul_assoc, Nat.mul_comm, Nat.mul_left_comm, Nat.one_mul, Nat.mul_one] at g1 g2 g3 ⊢
    omega

/-- an odd number of steps -/
theorem lehmer_odd {x y A B E xr yr x0 y0 x1 y1 a0 b0 : Nat} (hx : x = A * E + xr) (hy : y = B * E + yr) (hxr : xr < E) (hyr : yr < E) (hxy0 : x0 ≤ y0) (hxy1 : x1 ≤ y1) (h0 : 1 ≤ y0)
    (hA : A = y1 * a0 + y0 * b0) (hB : B = x1 * a0 + x0 * b0) (hb : y1 ≤ b0) (ha : b0 + y0 + y1 ≤ a0) (hd : x1 * y0 = x0 * y1 + 1) :
    ∃ u v : Nat, u + x0 * x = y0 * y ∧ v + y1 * y = x1 * x ∧ v < u ∧ x = y1 * u + y0 * v ∧ y = x1 * u + x0 * v := by
  have e1 : y0 * y = x0 * y1 * a0 * E + a0 * E + x0 * y0 * b0 * E + y0 * yr := by
    have : x1 * y0 * (a0 * E) = (x0 * y1 + 1) * (a0 * E) := by rw [hd]
    subst hy hB
    simp only [Nat.add_mul, Nat.mul_add, Nat.mul_assoc, Nat.mul_comm, Nat.mul_left_comm, Nat.one_mul, Nat.mul_one] at *
    omega
  have e2 : x0 * x = x0 * y1 * a0 * E + x0 * y0 * b0 * E + x0 * xr := by
    subst hx hA
    simp only [Nat.add_mul, Nat.mul_add, Nat.mul_assoc, Nat.mul_comm, Nat.mul_left_comm]
  have e3 : x1 * x = x1 * y1 * a0 * E + x0 * y1 * b0 * E + b0 * E + x1 * xr := by
    have : x1 * y0 * (b0 * E) = (x0 * y1 + 1) * (b0 * E) := by rw [hd]
    subst hx hA
    simp only [Nat.add_mul, Nat.mul_add, Nat.mul_assoc, Nat.mul_comm, Nat.mul_left_comm, Nat.one_mul, Nat.mul_one] at *
    omega
  have e4 : y1 * y = x1 * y1 * a0 * E + x0 * y1 * b0 * E + y1 * yr := by
    subst hy hB
    simp only [Nat.add_mul, Nat.mul_add, Nat.mul_assoc, Nat.mul_comm, Nat.mul_left_comm]
  have f1 : (b0 + y0 + y1) * E ≤ a0 * E := Nat.mul_le_mul_right _ ha
  have f2 : y1 * E ≤ b0 * E := Nat.mul_le_mul_right _ hb
  have f3 : x0 * xr ≤ y0 * xr := Nat.mul_le_mul_right _ hxy0
  have f4 : y0 * xr < y0 * E := Nat.mul_lt_mul_of_pos_left hxr (by omega)
  have f5 : x1 * xr ≤ y1 * E := Nat.mul_le_mul hxy1 (by omega)
  have f6 : y1 * yr ≤ y1 * E := Nat.mul_le_mul_left _ (by omega)
  simp only [Nat.add_mul] at f1
  obtain ⟨u, hu⟩ : ∃ u, u + x0 * x = y0 * y := ⟨y0 * y - x0 * x, by omega⟩
  obtain ⟨v, hv⟩ : ∃ v, v + y1 * y = x1 * x := ⟨x1 * x - y1 * y, by omega⟩
  refine ⟨u, v, hu, hv, by omega, ?_, ?_⟩
  · have g1 : y1 * (u + x0 * x) = y1 * (y0 * y) := by rw [hu]
    have g2 : y0 * (v + y1 * y) = y0 * (x1 * x) := by rw [hv]
    have g3 : x1 * y0 * x = (x0 * y1 + 1) * x := by rw [hd]
    simp only [Nat.add_mul, Nat.mul_add, Nat.mul_assoc, Nat.mul_comm, Nat.mul_left_comm, Nat.one_mul, Nat.mul_one] at g1 g2 g3 ⊢
    omega
  · have g1 : x1 * (u + x0 * x) = x1 * (y0 * y) := by rw [hu]
    have g2 : x0 * (v + y1 * y) = x0 * (x1 * x) := by rw [hv]
    have g3 : x1 * y0 * y = (x0 * y1 + 1) * y := by rw [hd]
    simp only [Nat.add_mul, Nat.mul_add, Nat.mul_assoc, Nat.mul_comm, Nat.mul_left_comm, Nat.one_mul, Nat.mul_one] at g1 g2 g3 ⊢
    omega

theorem gcd_even {x y u v x0 y0 x1 y1 : Nat} (h1 : u + y0 * y = x0 * x) (h2 : v + x1 * x = y1 * y) (h3 : x = y1 * u + y0 * v) (h4 : y = x1 * u + x0 * v) : Nat.gcd u v = Nat.gcd x y := by
  apply Nat.dvd_antisymm
  · apply Nat.dvd_gcd
    · rw [h3]; exact Nat.dvd_add (Nat.dvd_mul_left_of_dvd (Nat.gcd_dvd_left u v) _) (Nat.dvd_mul_left_of_dvd (Nat.gcd_dvd_right u v) _)
    · rw [h4]; exact Nat.dvd_add (Nat.dvd_mul_left_of_dvd (Nat.gcd_dvd_left u v) _) (Nat.dvd_mul_left_of_dvd (Nat.gcd_dvd_right u v) _)
  · apply Nat.dvd_gcd
    · refine (Nat.dvd_add_iff_left (Nat.dvd_mul_left_of_dvd (Nat.gcd_dvd_right x y) y0)).2 ?_
      rw [h1]; exact Nat.dvd_mul_left_of_dvd (Nat.gcd_dvd_left x y) _
    · refine (Nat.dvd_add_iff_left (Nat.dvd_mul_left_of_dvd (Nat.gcd_dvd_left x y) x1)).2 ?_
      rw [h2]; exact Nat.dvd_mul_left_of_dvd (Nat.gcd_dvd_right x y) _

/-- what the loop of the guess keeps -/
def GsI (A B a b x0 x1 x2 y0 y1 y2 : Nat) (ev : Bool) : Prop :=
  A = y2 * a + y1 * b ∧ B = x2 * a + x1 * b ∧ b ≤ a ∧ y1 ≤ y2 ∧ x2 ≤ y2 ∧ 1 ≤ y2 ∧ (ev = true → x2 * y1 = x1 * y2 + 1) ∧ (ev = false → x1 * y2 = x2 * y1 + 1) ∧
  ((x0 = 0 ∧ y0 = 0 ∧ x1 = 1 ∧ y1 = 0 ∧ x2 = 0 ∧ y2 = 1 ∧ ev = false) ∨ (x0 = 1 ∧ y0 = 0 ∧ x1 = 0 ∧ y1 = 1 ∧ 1 ≤ x2) ∨
   (x0 ≤ y0 ∧ 1 ≤ y0 ∧ y0 ≤ y1 ∧ x1 ≤ y1 ∧ 1 ≤ x1 ∧ 1 ≤ x2 ∧ ∃ a0, A = y1 * a0 + y0 * a ∧ B = x1 * a0 + x0 * a ∧ y1 ≤ a ∧ a + y0 + y1 ≤ a0 ∧ (ev = true → x0 * y1 = x1 * y0 + 1) ∧ (ev = false → x1 * y0 = x0 * y1 + 1)))

theorem GsI.start {A B : Nat} (h : B ≤ A) : GsI A B A B 0 1 0 0 0 1 false := by
  refine ⟨by simp, by simp, h, by omega, by omega, by omega, (fun h => by cases h), (fun _ => by simp), Or.inl (by simp)⟩

theorem GsI.step {A B a b x0 x1 x2 y0 y1 y2 : Nat} {ev : Bool} (h : GsI A B a b x0 x1 x2 y0 y1 y2 ev) (h1 : y2 ≤ b) (h2 : y1 + y2 ≤ a - b) :
    GsI A B b (a % b) x1 x2 (x1 + a / b * x2) y1 y2 (y1 + a / b * y2) (!ev) := by
  obtain ⟨hA, hB, hba, hy, hx, hp, hdt, hdf, hc⟩ := h
  have hb : 0 < b := by omega
  have hq : 1 ≤ a / b := (Nat.le_div_iff_mul_le hb).2 (by omega)
  have hqm : b * (a / b) + a % b = a := Nat.div_add_mod a b
  generalize hqq : a / b = q at *
  generalize hrr : a % b = r at *
  have hr : r < b := by rw [← hrr]; exact Nat.mod_lt _ hb
  have hqy : y2 ≤ q * y2 := Nat.le_mul_of_pos_left _ hq
  have hqx : x2 ≤ q * x2 := Nat.le_mul_of_pos_left _ hq
  have hqxy : q * x2 ≤ q * y2 := Nat.mul_le_mul_left _ hx
  clear hqq hrr
  refine ⟨?_, ?_, by omega, by omega, ?_, by omega, ?_, ?_, ?_⟩
  · rw [hA, ← hqm]; simp only [Nat.add_mul, Nat.mul_add, Nat.mul_assoc, Nat.mul_comm, Nat.mul_left_comm]; omega
  · rw [hB, ← hqm]; simp only [Nat.add_mul, Nat.mul_add, Nat.mul_assoc, Nat.mul_comm, Nat.mul_left_comm]; omega
  · rcases hc with ⟨rfl, rfl, rfl, rfl, rfl, rfl, rfl⟩ | ⟨rfl, rfl, rfl, rfl, h⟩ | ⟨_, _, _, h, _⟩ <;> omega
  · intro he
    have := hdf (by cases ev <;> simp_all)
    simp only [Nat.add_mul, Nat.mul_add, Nat.mul_assoc, Nat.mul_comm, Nat.mul_left_comm] at this ⊢
    omega
  · intro he
    have := hdt (by cases ev <;> simp_all)
    simp only [Nat.add_mul, Nat.mul_add, Nat.mul_assoc, Nat.mul_comm, Nat.mul_left_comm] at this ⊢
    omega
  · have hlast : A = y2 * a + y1 * b ∧ B = x2 * a + x1 * b ∧ y2 ≤ b ∧ b + y1 + y2 ≤ a ∧ ((!ev) = true → x1 * y2 = x2 * y1 + 1) ∧ ((!ev) = false → x2 * y1 = x1 * y2 + 1) :=
      ⟨hA, hB, h1, by omega, fun he => hdf (by cases ev <;> simp_all), fun he => hdt (by cases ev <;> simp_all)⟩
    rcases hc with ⟨rfl, rfl, rfl, rfl, rfl, rfl, rfl⟩ | ⟨rfl, rfl, rfl, rfl, h⟩ | ⟨h3, h4, h5, h6, h7, h8, _⟩
    · right; left; exact ⟨rfl, rfl, rfl, rfl, by omega⟩
    · right; right; exact ⟨by omega, by omega, by omega, by omega, by omega, by omega, a, hlast⟩
    · right; right; exact ⟨by omega, by omega, by omega, by omega, by omega, by omega, a, hlast⟩

/-- the numbers of a round that goes on are in the range of a word -/
theorem GsI.small {A B a b x0 x1 x2 y0 y1 y2 : Nat} {ev : Bool} (h : GsI A B a b x0 x1 x2 y0 y1 y2 ev) (hA64 : A < 18446744073709551616) (hBA : B ≤ A) (h1 : y2 ≤ b) :
    y2 < 4294967296 ∧ y1 < 4294967296 := by
  obtain ⟨hA, hB, hba, hy, hx, hp, hdt, hdf, hc⟩ := h
  have : y2 * y2 ≤ y2 * a := Nat.mul_le_mul_left _ (by omega)
  have h2 : y2 * y2 < 4294967296 * 4294967296 := by omega
  have h3 : y2 < 4294967296 := by
    apply Classical.byContradiction; intro hn
    have := Nat.mul_le_mul (show 4294967296 ≤ y2 by omega) (show 4294967296 ≤ y2 by omega)
    omega
  omega
theorem GsI.small2 {A B a b x0 x1 x2 y0 y1 y2 : Nat} {ev : Bool} (h : GsI A B a b x0 x1 x2 y0 y1 y2 ev) (hA64 : A < 18446744073709551616) (hBA : B ≤ A) (h1 : 1 ≤ a) :
    y2 < 18446744073709551616 ∧ x2 < 18446744073709551616 ∧ y1 < 18446744073709551616 ∧ a < 18446744073709551616 := by
  obtain ⟨hA, hB, hba, hy, hx, hp, hdt, hdf, hc⟩ := h
  have : y2 * 1 ≤ y2 * a := Nat.mul_le_mul_left _ (by omega)
  have : 1 * a ≤ y2 * a := Nat.mul_le_mul_right _ (by omega)
  omega

/-- what the guess returns: no step that helps, or factors below 2^32 that may be used on the numbers -/
def GsOk (A B x0 y0 x1 y1 : Nat) (ev : Bool) : Prop :=
  y0 = 0 ∨ (x0 ≤ y0 ∧ 1 ≤ y0 ∧ y0 ≤ y1 ∧ x1 ≤ y1 ∧ 1 ≤ x1 ∧ y1 < 4294967296 ∧ ∃ a b, A = y1 * a + y0 * b ∧ B = x1 * a + x0 * b ∧ y1 ≤ b ∧ b + y0 + y1 ≤ a ∧ (ev = true → x0 * y1 = x1 * y0 + 1) ∧ (ev = false → x1 * y0 = x0 * y1 + 1))
theorem GsI.ok {A B a b x0 x1 x2 y0 y1 y2 : Nat} {ev : Bool} (h : GsI A B a b x0 x1 x2 y0 y1 y2 ev) (hA64 : A < 18446744073709551616) : GsOk A B x0 y0 x1 y1 ev := by
  obtain ⟨hA, hB, hba, hy, hx, hp, hdt, hdf, hc⟩ := h
  rcases hc with ⟨_, h0, _⟩ | ⟨_, h0, _⟩ | ⟨h3, h4, h5, h6, h7, h8, a0, g1, g2, g3, g4, g5⟩
  · exact Or.inl h0
  · exact Or.inl h0
  · refine Or.inr ⟨h3, h4, h5, h6, h7, ?_, a0, a, g1, g2, g3, g4, g5⟩
    have : y1 * y1 ≤ y1 * a0 := Nat.mul_le_mul_left _ (by omega)
    apply Classical.byContradiction; intro hn
    have := Nat.mul_le_mul (show 4294967296 ≤ y1 by omega) (show 4294967296 ≤ y1 by omega)
    omega

/-- what is done with the factors -/
theorem GsOk.use {x y A B E xr yr x0 y0 x1 y1 : Nat} {ev : Bool} (h : GsOk A B x0 y0 x1 y1 ev) (h0 : y0 ≠ 0) (hx : x = A * E + xr) (hy : y = B * E + yr) (hxr : xr < E) (hyr : yr < E) :
    x0 < 4294967296 ∧ y0 < 4294967296 ∧ x1 < 4294967296 ∧ y1 < 4294967296 ∧ ∃ u v : Nat, v < u ∧ u ≤ x ∧ u ≤ y ∧ Nat.gcd u v = Nat.gcd x y ∧
      (ev = true → u + y0 * y = x0 * x ∧ v + x1 * x = y1 * y) ∧ (ev = false → u + x0 * x = y0 * y ∧ v + y1 * y = x1 * x) := by
  rcases h with h | ⟨h1, h2, h3, h4, h5, h6, a, b, hA, hB, h7, h8, h9, h10⟩
  · exact absurd h h0
  refine ⟨by omega, by omega, by omega, by omega, ?_⟩
  have le : ∀ u v : Nat, x = y1 * u + y0 * v → y = x1 * u + x0 * v → u ≤ x ∧ u ≤ y := by
    intro u v e1 e2
    have i1 : 1 * u ≤ y1 * u := Nat.mul_le_mul_right _ (by omega)
    have i2 : 1 * u ≤ x1 * u := Nat.mul_le_mul_right _ (by omega)
    omega
  cases ev
  · obtain ⟨u, v, e1, e2, e3, e4, e5⟩ := lehmer_odd hx hy hxr hyr h1 h4 h2 hA hB h7 h8 (h10 rfl)
    refine ⟨u, v, e3, (le u v e4 e5).1, (le u v e4 e5).2, ?_, (fun h => by cases h), fun _ => ⟨e1, e2⟩⟩
    rw [Nat.gcd_comm x y]
    exact gcd_even (x := y) (y := x) (x0 := y0) (y0 := x0) (x1 := y1) (y1 := x1) e1 e2 (by rw [e5]) (by rw [e4])
  · obtain ⟨u, v, e1, e2, e3, e4, e5⟩ := lehmer_even hx hy hxr hyr h1 h4 h2 hA hB h7 h8 (h9 rfl)
    exact ⟨u, v, e3, (le u v e4 e5).1, (le u v e4 e5).2, gcd_even e1 e2 e4 e5, fun _ => ⟨e1, e2⟩, fun h => by cases h⟩

/-- the digits of a difference of products, one more -/
theorem diff_step {P zv p q X Y x y pl ml pl1 ml1 pd md d b b' : Nat} (h : zv + q * Y + pl * P = p * X + (ml + b) * P)
    (hp : pl + p * x = pl1 * 4294967296 + pd) (hm : ml + q * y = ml1 * 4294967296 + md) (hd : d + md + b = pd + b' * 4294967296) :
    zv + P * d + q * (Y + P * y) + pl1 * (P * 4294967296) = p * (X + P * x) + (ml1 + b') * (P * 4294967296) := by
  have g1 : P * (pl + p * x) = P * (pl1 * 4294967296 + pd) := by rw [hp]
  have g2 : P * (ml + q * y) = P * (ml1 * 4294967296 + md) := by rw [hm]
  have g3 : P * (d + md + b) = P * (pd + b' * 4294967296) := by rw [hd]
  simp only [Nat.add_mul, Nat.mul_add, Nat.mul_assoc, Nat.mul_comm, Nat.mul_left_comm] at h g1 g2 g3 ⊢
  omega

/-- two odd numbers and halving -/
theorem gcd_odd_shift {a b t : Nat} (ha : a % 2 = 1) : Nat.gcd a (b * 2 ^ t) = Nat.gcd a b := by
  have h : Nat.gcd a (2 ^ t) = 1 := by
    have : Nat.Coprime a 2 := by
      rw [Nat.coprime_iff_gcd_eq_one, Nat.gcd_comm, Nat.gcd_rec, ha]; rfl
    exact Nat.Coprime.pow_right t this
  exact Nat.Coprime.gcd_mul_right_cancel_right b (Nat.coprime_iff_gcd_eq_one.2 (by rw [Nat.gcd_comm]; exact h))
/-- the power of two in a common divisor -/
theorem gcd_two_pow {b i c : Nat} (hc : c ≤ i) (hb : 2 ^ c ∣ b) (h : c = i ∨ ¬ 2 ^ (c + 1) ∣ b) : Nat.gcd b (2 ^ i) = 2 ^ c := by
  rcases h with rfl | h
  · exact Nat.gcd_eq_right hb
  · obtain ⟨k, rfl⟩ := hb
    have hk : k % 2 = 1 := by
      apply Classical.byContradiction; intro hn
      apply h
      refine ⟨k / 2, ?_⟩
      rw [Nat.pow_succ, Nat.mul_assoc]; congr 1; omega
    obtain ⟨d, rfl⟩ : ∃ d, i = c + d := ⟨i - c, by omega⟩
    rw [Nat.pow_add, Nat.gcd_mul_left]
    have := gcd_odd_shift (a := k) (b := 1) (t := d) hk
    rw [Nat.one_mul, Nat.gcd_one_right] at this
    rw [this, Nat.mul_one]
theorem gcd_start {a b i m c k : Nat} (ha : a = 2 ^ i * (2 * m + 1)) (hc : a ||| b = 2 ^ c * (2 * k + 1)) : Nat.gcd a b = Nat.gcd (2 * m + 1) b * 2 ^ c := by
  have h0 : (a ||| b) % 2 ^ c = 0 := by rw [hc]; exact Nat.mul_mod_right _ _
  rw [Nat.or_mod_two_pow, Nat.or_eq_zero_iff] at h0
  have h1 : (a ||| b) % 2 ^ (c + 1) ≠ 0 := by
    intro h
    obtain ⟨t, ht⟩ := Nat.dvd_of_mod_eq_zero h
    rw [hc, Nat.pow_succ, Nat.mul_assoc] at ht
    have := Nat.eq_of_mul_eq_mul_left (Nat.pow_pos (by omega)) ht
    omega
  have hci : c ≤ i := by
    apply Classical.byContradiction; intro hn
    obtain ⟨d, rfl⟩ : ∃ d, c = i + 1 + d := ⟨c - i - 1, by omega⟩
    obtain ⟨t, ht⟩ := Nat.dvd_of_mod_eq_zero h0.1
    rw [ha, Nat.pow_add, Nat.pow_succ, Nat.mul_assoc, Nat.mul_assoc] at ht
    have h3 := Nat.eq_of_mul_eq_mul_left (Nat.pow_pos (by omega)) ht
    omega
  have hg : Nat.gcd b (2 ^ i) = 2 ^ c := by
    refine gcd_two_pow hci (Nat.dvd_of_mod_eq_zero h0.2) ?_
    by_cases hcc : c = i
    · exact Or.inl hcc
    · right; intro hd
      apply h1
      rw [Nat.or_mod_two_pow, Nat.or_eq_zero_iff]
      refine ⟨?_, Nat.mod_eq_zero_of_dvd hd⟩
      apply Nat.mod_eq_zero_of_dvd
      rw [ha]
      exact Nat.dvd_mul_right_of_dvd (Nat.pow_dvd_pow 2 (by omega)) _
  have hco : Nat.Coprime (2 ^ i) (2 * m + 1) := by
    have h2 := gcd_odd_shift (a := 2 * m + 1) (b := 1) (t := i) (by omega)
    rw [Nat.one_mul, Nat.gcd_one_right] at h2
    rw [Nat.coprime_iff_gcd_eq_one, Nat.gcd_comm]; exact h2
  rw [ha, Nat.gcd_comm, Nat.Coprime.gcd_mul b hco, hg, Nat.gcd_comm (2 * m + 1) b, Nat.mul_comm]

/-- one round of halving and subtracting -/
theorem gcd_round {a b j m : Nat} (ha : a % 2 = 1) (hb : b = 2 ^ j * (2 * m + 1)) :
    Nat.gcd (min a (2 * m + 1)) (max a (2 * m + 1) - min a (2 * m + 1)) = Nat.gcd a b ∧ min a (2 * m + 1) % 2 = 1 ∧ min a (2 * m + 1) + (max a (2 * m + 1) - min a (2 * m + 1)) < a + b ∧ 2 * m + 1 ≤ b := by
  have h1 : Nat.gcd a b = Nat.gcd a (2 * m + 1) := by rw [hb, Nat.mul_comm]; exact gcd_odd_shift ha
  have h2 : 1 * (2 * m + 1) ≤ b := by rw [hb]; exact Nat.mul_le_mul_right _ (Nat.pow_pos (by omega))
  rcases Nat.le_total a (2 * m + 1) with h | h
  · rw [Nat.min_eq_left h, Nat.max_eq_right h, Nat.gcd_sub_self_right h]
    exact ⟨h1.symm, ha, by omega, by omega⟩
  · rw [Nat.min_eq_right h, Nat.max_eq_left h, Nat.gcd_sub_self_right h]
    exact ⟨by rw [Nat.gcd_comm]; exact h1.symm, by omega, by omega, by omega⟩
end Go.Proofs.YtbcaigpdckencaaDoor
