/- Integers: Div. -/
import Derived.Test.YtbcaigpdckencaaDoorIn5
namespace Go.Proofs.YtbcaigpdckencaaDoor
open Go.RowKit Num

/-- quotient, remainder and an error code -/
def RetIDiv (B : Nat) (z1 z2 er : Int) (w : World) (e : Ending) (w' : World) : Prop :=
  ∃ a1 c1 a2 c2, e = .returned (.tuple #[.agg #[.bool (decide (z1 < 0)), .slice a1 (nd z1.natAbs).length c1], .agg #[.bool (decide (z2 < 0)), .slice a2 (nd z2.natAbs).length c2], .int .i64 er]) ∧
    Own B w' a1 c1 (nd z1.natAbs) ∧ Own B w' a2 c2 (nd z2.natAbs) ∧ Below w.heap.size w w'

theorem ediv_unique {a b q r : Int} (hb : b ≠ 0) (h : a = b * q + r) (h0 : 0 ≤ r) (h1 : r < b.natAbs) : a / b = q ∧ a % b = r := by
  have hm : a % b = r := by
    rw [h, Int.mul_add_emod_self_left]
    by_cases hp : 0 < b
    · exact Int.emod_eq_of_lt h0 (by omega)
    · rw [← Int.emod_neg]
      exact Int.emod_eq_of_lt h0 (by omega)
  refine ⟨?_, hm⟩
  have h2 := Int.mul_ediv_add_emod a b
  rw [hm] at h2
  have h3 : b * (a / b) = b * q := by omega
  exact Int.eq_of_mul_eq_mul_left hb h3
/-- the quotient as the program has it -/
theorem idiv_plain {b1 b2 : Bool} {x y : Nat} (hy : y ≠ 0) (h : b1 = false ∨ x % y = 0) : iv b1 x / iv b2 y = iv (!(b1 == b2)) (x / y) ∧ iv b1 x % iv b2 y = iv false (x % y) := by
  have h1 : (x : Int) = (y : Int) * ((x / y : Nat) : Int) + ((x % y : Nat) : Int) := by
    have := Nat.div_add_mod x y
    rw [← Int.natCast_mul, ← Int.natCast_add, this]
  have h2 := Nat.mod_lt x (Nat.pos_of_ne_zero hy)
  refine ediv_unique (by cases b2 <;> simp [iv] <;> omega) ?_ (by simp [iv]; omega) (by rw [iv_abs]; simp [iv]; omega)
  rcases h with rfl | h
  · cases b2
    · exact h1
    · show (x : Int) = -(y : Int) * -((x / y : Nat) : Int) + ((x % y : Nat) : Int)
      rw [Int.neg_mul_neg]; exact h1
  · cases b1 <;> cases b2
    · exact h1
    · show (x : Int) = -(y : Int) * -((x / y : Nat) : Int) + ((x % y : Nat) : Int)
      rw [Int.neg_mul_neg]; exact h1
    · show -(x : Int) = (y : Int) * -((x / y : Nat) : Int) + ((x % y : Nat) : Int)
      rw [Int.mul_neg, h]; rw [h] at h1; omega
    · show -(x : Int) = -(y : Int) * ((x / y : Nat) : Int) + ((x % y : Nat) : Int)
      rw [Int.neg_mul, h]; rw [h] at h1; omega
theorem idiv_up {b2 : Bool} {x y : Nat} (hy : y ≠ 0) (h : x % y ≠ 0) : iv true x / iv b2 y = iv (!(true == b2)) (x / y + 1) ∧ iv true x % iv b2 y = iv false (y - x % y) := by
  have h1 : (x : Int) = (y : Int) * ((x / y : Nat) : Int) + ((x % y : Nat) : Int) := by
    have := Nat.div_add_mod x y
    rw [← Int.natCast_mul, ← Int.natCast_add, this]
  have h2 := Nat.mod_lt x (Nat.pos_of_ne_zero hy)
  have hq : (y : Int) * ((x / y + 1 : Nat) : Int) = (y : Int) * ((x / y : Nat) : Int) + (y : Int) := by
    rw [Int.natCast_add, Int.mul_add]; simp
  refine ediv_unique (by cases b2 <;> simp [iv] <;> omega) ?_ (by simp [iv]) (by rw [iv_abs]; simp [iv]; omega)
  cases b2
  · show -(x : Int) = (y : Int) * -((x / y + 1 : Nat) : Int) + ((y - x % y : Nat) : Int)
    rw [Int.mul_neg, hq]; omega
  · show -(x : Int) = -(y : Int) * ((x / y + 1 : Nat) : Int) + ((y - x % y : Nat) : Int)
    rw [Int.neg_mul, hq]; omega
end Go.Proofs.YtbcaigpdckencaaDoor
