/- Decimal digits: plain mathematics. -/
import Derived.Test.YtbcaigpdckencaaDoorNum
namespace Go.Proofs.YtbcaigpdckencaaDoor.Num
/-- k decimal digits of v, as bytes, the lowest first -/
def dpad : Nat → Nat → List Nat
  | 0, _ => []
  | k + 1, v => (48 + v % 10) :: dpad k (v / 10)
/-- the decimal digits of v, the lowest first; none of 0 -/
def decR (v : Nat) : List Nat := if h : v = 0 then [] else (48 + v % 10) :: decR (v / 10)
termination_by v
decreasing_by omega
/-- the text of v -/
def decT (v : Nat) : List Nat := if v = 0 then [48] else (decR v).reverse
def bstr (bs : List Nat) : ByteArray := ⟨(bs.map UInt8.ofNat).toArray⟩

theorem length_dpad (k v : Nat) : (dpad k v).length = k := by
  induction k generalizing v with
  | zero => rfl
  | succ k ih => simp [dpad, ih]
theorem dpad_lt (k v : Nat) : ∀ x ∈ dpad k v, x < 256 := by
  induction k generalizing v with
  | zero => simp [dpad]
  | succ k ih =>
    intro x hx
    simp only [dpad, List.mem_cons] at hx
    rcases hx with rfl | hx
    · omega
    · exact ih _ x hx
theorem dpad_succ (k v : Nat) : dpad (k + 1) v = dpad k v ++ [48 + v / 10 ^ k % 10] := by
  induction k generalizing v with
  | zero => simp [dpad]
  | succ k ih =>
    rw [dpad, ih, dpad]
    simp only [List.cons_append, List.cons.injEq, true_and]
    rw [Nat.div_div_eq_div_mul, Nat.pow_succ, Nat.mul_comm (10 ^ k)]
theorem dpad_zero (k : Nat) : dpad k 0 = List.replicate k 48 := by
  induction k with
  | zero => rfl
  | succ k ih => rw [dpad, Nat.zero_div, ih]; rfl
theorem decR_zero : decR 0 = [] := by rw [decR]; simp
theorem decR_pos {v : Nat} (h : v ≠ 0) : decR v = (48 + v % 10) :: decR (v / 10) := by rw [decR]; simp [h]
theorem dpad_eq {k v : Nat} (h : v < 10 ^ k) : ∃ j, dpad k v = decR v ++ List.replicate j 48 := by
  induction k generalizing v with
  | zero =>
    have : v = 0 := by simp at h; omega
    subst this
    exact ⟨0, by rw [decR_zero]; rfl⟩
  | succ k ih =>
    by_cases hv : v = 0
    · subst hv; exact ⟨k + 1, by rw [dpad_zero, decR_zero]; rfl⟩
    · obtain ⟨j, hj⟩ := ih (v := v / 10) (by rw [Nat.pow_succ] at h; omega)
      exact ⟨j, by rw [dpad, hj, decR_pos hv]; rfl⟩
theorem decR_last {v : Nat} (h : v ≠ 0) : ∃ l d, decR v = l ++ [d] ∧ d ≠ 48 ∧ d < 58 := by
  induction v using Nat.strongRecOn with
  | _ v ih =>
    rw [decR_pos h]
    by_cases h2 : v / 10 = 0
    · rw [h2, decR_zero]; exact ⟨[], 48 + v % 10, rfl, by omega, by omega⟩
    · obtain ⟨l, d, h3, h4, h5⟩ := ih (v / 10) (by omega) h2
      exact ⟨_ :: l, d, by rw [h3]; rfl, h4, h5⟩
theorem decR_lt (v : Nat) : ∀ x ∈ decR v, x < 256 := by
  induction v using Nat.strongRecOn with
  | _ v ih =>
    by_cases h : v = 0
    · subst h; rw [decR_zero]; simp
    · rw [decR_pos h]
      intro x hx
      simp only [List.mem_cons] at hx
      rcases hx with rfl | hx
      · omega
      · exact ih _ (by omega) x hx
theorem chunk_digit (x i : Nat) (hi : i < 9) : x % 1000000000 / 10 ^ i % 10 = x / 10 ^ i % 10 := by
  have e : 1000000000 = 10 ^ i * (10 ^ (8 - i) * 10) := by rw [← Nat.pow_succ, ← Nat.pow_add, show i + (8 - i).succ = 9 by omega]
  rw [e, Nat.mod_mul_right_div_self, Nat.mod_mul_left_mod]
/-- the text that is trimmed -/
theorem trimmed {k v : Nat} (hv : v ≠ 0) (h : v < 10 ^ k) : ∃ j, (dpad k v).reverse = List.replicate j 48 ++ decT v := by
  obtain ⟨j, hj⟩ := dpad_eq h
  exact ⟨j, by rw [hj, List.reverse_append, List.reverse_replicate, decT, if_neg hv]⟩
theorem decT_head {v : Nat} (hv : v ≠ 0) : ∃ d l, decT v = d :: l ∧ d ≠ 48 ∧ d < 58 := by
  obtain ⟨l, d, h1, h2, h3⟩ := decR_last hv
  exact ⟨d, l.reverse, by rw [decT, if_neg hv, h1]; simp, h2, h3⟩
theorem foldl_push (ns : List Nat) (s : ByteArray) : (ns.map fun d : Nat => (d : Int)).foldl (fun r n => r.push (UInt8.ofNat n.toNat)) s = ⟨s.data ++ (ns.map UInt8.ofNat).toArray⟩ := by
  induction ns generalizing s with
  | nil => simp
  | cons n ns ih =>
    rw [List.map_cons, List.foldl_cons, ih]
    simp [ByteArray.push]
theorem bstr_size (bs : List Nat) : (bstr bs).size = bs.length := by simp [bstr, ByteArray.size]
theorem bstr_tail (b : Nat) (bs : List Nat) : (bstr (b :: bs)).extract 1 (bstr (b :: bs)).size = bstr bs := by
  apply ByteArray.ext
  simp [bstr, ByteArray.size]
  exact List.take_of_length_le (by simp)
end Go.Proofs.YtbcaigpdckencaaDoor.Num
