/- Roots by Newton's method: plain mathematics. -/
import Derived.Test.YtbcaigpdckencaaDoorBln
namespace Go.Proofs.YtbcaigpdckencaaDoor.Num
/-- r is the n-th root of a, rounded down -/
def isRoot (n a r : Nat) : Prop := r ^ n ≤ a ∧ a < (r + 1) ^ n
theorem isRoot_unique {n a r s : Nat} (h : isRoot n a r) (k : isRoot n a s) : r = s := by
  have h1 : ∀ {r s : Nat}, isRoot n a r → isRoot n a s → r ≤ s := by
    intro r s h k
    apply Classical.byContradiction
    intro hc
    have := Nat.pow_le_pow_left (show s + 1 ≤ r by omega) n
    have := h.1
    have := k.2
    omega
  exact Nat.le_antisymm (h1 h k) (h1 k h)
theorem amgm (r x : Nat) : ∀ n : Nat, (n + 1) * r * x ^ n ≤ r ^ (n + 1) + n * x ^ (n + 1) := by
  intro n
  induction n with
  | zero => simp
  | succ n ih =>
    have h1 := Nat.mul_le_mul_right x ih
    have h2 : r ^ (n + 1) * x + r * x ^ (n + 1) ≤ r ^ (n + 1) * r + x ^ (n + 1) * x := by
      rcases Nat.le_total r x with h | h
      · have h3 := Nat.pow_le_pow_left h (n + 1)
        obtain ⟨d, rfl⟩ : ∃ d, x = r + d := ⟨x - r, by omega⟩
        obtain ⟨e, he⟩ : ∃ e, (r + d) ^ (n + 1) = r ^ (n + 1) + e := ⟨(r + d) ^ (n + 1) - r ^ (n + 1), by omega⟩
        rw [he]
        generalize r ^ (n + 1) = p
        have : p * (r + d) + r * (p + e) + d * e = p * r + (p + e) * (r + d) := by grind
        omega
      · have h3 := Nat.pow_le_pow_left h (n + 1)
        obtain ⟨d, rfl⟩ : ∃ d, r = x + d := ⟨r - x, by omega⟩
        obtain ⟨e, he⟩ : ∃ e, (x + d) ^ (n + 1) = x ^ (n + 1) + e := ⟨(x + d) ^ (n + 1) - x ^ (n + 1), by omega⟩
        rw [he]
        generalize x ^ (n + 1) = p
        have : (p + e) * x + (x + d) * p + d * e = (p + e) * (x + d) + p * x := by grind
        omega
    have e1 : (n + 1) * r * x ^ n * x = (n + 1) * (r * x ^ (n + 1)) := by rw [Nat.pow_succ]; grind
    have e2 : (r ^ (n + 1) + n * x ^ (n + 1)) * x = r ^ (n + 1) * x + n * (x ^ (n + 1) * x) := by grind
    rw [e1, e2] at h1
    have e3 : (n + 1 + 1) * r * x ^ (n + 1) = (n + 1) * (r * x ^ (n + 1)) + r * x ^ (n + 1) := by grind
    have e4 : r ^ (n + 1 + 1) + (n + 1) * x ^ (n + 1 + 1) = r ^ (n + 1) * r + (n * (x ^ (n + 1) * x) + x ^ (n + 1) * x) := by rw [Nat.pow_succ r (n + 1), Nat.pow_succ x (n + 1)]; grind
    rw [e3, e4]
    omega
/-- a step stays at least the root -/
theorem newton_ge {m a r x : Nat} (hx : 0 < x) (hr : r ^ (m + 1) ≤ a) : r ≤ (a / x ^ m + m * x) / (m + 1) := by
  rw [Nat.le_div_iff_mul_le (by omega)]
  have h1 := amgm r x m
  have hp : 0 < x ^ m := Nat.pow_pos hx
  by_cases h : r * (m + 1) ≤ m * x
  · exact Nat.le_trans h (Nat.le_add_left _ _)
  · have h2 : r * (m + 1) - m * x ≤ a / x ^ m := by
      rw [Nat.le_div_iff_mul_le hp, Nat.sub_mul]
      have e1 : r * (m + 1) * x ^ m = (m + 1) * r * x ^ m := by grind
      have e2 : m * x * x ^ m = m * x ^ (m + 1) := by rw [Nat.pow_succ]; grind
      rw [e1, e2]
      omega
    omega
/-- above the root a step falls -/
theorem newton_lt {m a x : Nat} (hx : 0 < x) (ha : a < x ^ (m + 1)) : (a / x ^ m + m * x) / (m + 1) < x := by
  rw [Nat.div_lt_iff_lt_mul (by omega)]
  have hp : 0 < x ^ m := Nat.pow_pos hx
  have h1 : a / x ^ m < x := by
    rw [Nat.div_lt_iff_lt_mul hp, Nat.mul_comm, ← Nat.pow_succ]; exact ha
  have : x * (m + 1) = m * x + x := by grind
  omega
/-- the start lies above the root -/
theorem root_start {n a r0 h : Nat} (h0 : isRoot n (a / 2 ^ (n * h)) r0) : a < ((r0 + 1) * 2 ^ h) ^ n := by
  have h1 := h0.2
  rw [Nat.mul_pow, ← Nat.pow_mul, Nat.mul_comm h n]
  exact Nat.lt_mul_of_div_lt h1 (Nat.pow_pos (by omega)) |> fun h => by rw [Nat.mul_comm]; rw [Nat.mul_comm] at h; first | exact h | (rw [Nat.mul_comm]; exact h)
theorem root_start_le {n a r0 h : Nat} (hn : 0 < n) (h0 : isRoot n (a / 2 ^ (n * h)) r0) (hh : 2 ^ h ≤ a) : (r0 + 1) * 2 ^ h ≤ 2 * a := by
  have h1 := h0.1
  have h2 : (r0 * 2 ^ h) ^ n ≤ a := by
    rw [Nat.mul_pow, ← Nat.pow_mul, Nat.mul_comm h n]
    exact Nat.le_trans (Nat.mul_le_mul_right _ h1) (Nat.div_mul_le_self _ _)
  have h3 : r0 * 2 ^ h ≤ a := by
    by_cases hz : r0 * 2 ^ h = 0
    · omega
    · have := Nat.pow_le_pow_right (show 0 < r0 * 2 ^ h by omega) (show 1 ≤ n by omega)
      rw [Nat.pow_one] at this; omega
  rw [Nat.add_mul]; omega
theorem root_zero {n : Nat} (hn : 0 < n) : isRoot n 0 0 := ⟨by rw [Nat.zero_pow hn]; exact Nat.le_refl _, by simp⟩
theorem root_one {n a : Nat} (ha : a ≠ 0) (hl : blen a ≤ n) : isRoot n a 1 := by
  refine ⟨by simp; omega, ?_⟩
  have := lt_blen a
  exact Nat.lt_of_lt_of_le this (Nat.pow_le_pow_right (by omega) hl)
theorem root_self {a : Nat} : isRoot 1 a a := ⟨by simp, by simp⟩
theorem root_exists {n : Nat} (hn : 0 < n) (a : Nat) : ∃ r, isRoot n a r := by
  induction a with
  | zero => exact ⟨0, root_zero hn⟩
  | succ a ih =>
    obtain ⟨r, h1, h2⟩ := ih
    by_cases h : (r + 1) ^ n ≤ a + 1
    · refine ⟨r + 1, h, ?_⟩
      have := Nat.pow_lt_pow_left (show r + 1 < r + 1 + 1 by omega) (Nat.pos_iff_ne_zero.1 hn)
      omega
    · exact ⟨r, by omega, by omega⟩
theorem root_le {n a r x : Nat} (h : isRoot n a r) (hx : a < x ^ n) : r ≤ x := by
  apply Classical.byContradiction
  intro hc
  have := Nat.pow_le_pow_left (show x ≤ r by omega) n
  have := h.1
  omega
theorem root_lt {n a r x : Nat} (h : isRoot n a r) (hx : r < x) : a < x ^ n :=
  Nat.lt_of_lt_of_le h.2 (Nat.pow_le_pow_left hx n)
end Go.Proofs.YtbcaigpdckencaaDoor.Num
