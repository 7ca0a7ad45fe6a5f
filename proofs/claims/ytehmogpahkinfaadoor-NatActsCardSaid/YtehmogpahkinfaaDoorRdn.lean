/- Long division in place, as the reference does it: plain mathematics on lists of digits. -/
import Derived.Test.YtehmogpahkinfaaDoorRf9
namespace Go.Proofs.YtehmogpahkinfaaDoor
open Go.RowKit Num

/-- one digit in the middle of a list that is being turned -/
theorem set_mid {L X Z : List Nat} {j i d : Nat} (hL : L.length = j) (hX : X.length = i) (hi : i < Z.length) :
    (L ++ (X ++ Z.drop i)).set (i + j) d = L ++ (X ++ [d] ++ Z.drop (i + 1)) := by
  rw [List.set_append_right _ _ (by omega), hL, Nat.add_sub_cancel, set_snoc hX hi]
theorem getD_mid {L X Z : List Nat} {j i : Nat} (hL : L.length = j) (hX : X.length = i) :
    (L ++ (X ++ Z.drop i)).getD (i + j) 0 = Z.getD i 0 := by
  rw [List.getD_eq_getElem?_getD, List.getElem?_append_right (by omega), hL, Nat.add_sub_cancel, ← List.getD_eq_getElem?_getD, getD_snoc hX]
theorem length_mid {L X Z : List Nat} {j i : Nat} (hL : L.length = j) (hX : X.length = i) (hi : i ≤ Z.length) :
    (L ++ (X ++ Z.drop i)).length = j + Z.length := by
  rw [List.length_append, hL, length_snoc hX hi]
theorem mod_succ (W i : Nat) : W % 4294967296 ^ (i + 1) = W % 4294967296 ^ i + 4294967296 ^ i * (W / 4294967296 ^ i % 4294967296) := Nat.mod_pow_succ
/-- the last digit of the window -/
theorem mid_fin {n M T t d : Nat} (hT : T < 4294967296 ^ (n + 1)) (ht : t < 4294967296 ^ n) (hd : d < 4294967296) (hM : n + 1 ≤ M) :
    dig n t ++ [d] ++ (dig M T).drop (n + 1) = dig M (t + 4294967296 ^ n * d) := by
  have h1 : t + 4294967296 ^ n * d < 4294967296 ^ (n + 1) := by rw [Nat.pow_succ]; exact step_lt ht hd
  obtain ⟨k, rfl⟩ : ∃ k, M = n + 1 + k := ⟨M - (n + 1), by omega⟩
  rw [drop_dig (by omega), Nat.div_eq_of_lt hT, dig_append (n + 1) k, Nat.div_eq_of_lt h1, Nat.add_sub_cancel_left, step_dig_succ, Nat.div_eq_of_lt ht, Nat.zero_add, Nat.mod_eq_of_lt hd]
/-- one digit of the subtraction of a product -/
theorem sub_mid {W D P t bv x y c b s d b' i : Nat} (hP : P = 4294967296 ^ i) (h : t + D * bv = W % P + (c + b) * P) (hx : x = W / P % 4294967296) (hs : s = c + D * y) (hd : d + (s % 4294967296 + b) = x + b' * 4294967296) :
    (t + P * d) + D * (bv + P * y) = W % (P * 4294967296) + (s / 4294967296 + b') * (P * 4294967296) := by
  have h1 := subBy_step (y := y) (c' := s / 4294967296) (l := s % 4294967296) (x := x) (b' := b') (d := d) h (by omega) (by omega)
  have h2 : W % (P * 4294967296) = W % P + P * x := by
    have := mod_succ W i
    rw [hP, hx, hP, ← Nat.pow_succ]; exact this
  rw [h1, h2]
/-- the end of the subtraction -/
theorem sub_end {W D V t x e d b' n : Nat} (hW : W < 4294967296 ^ (n + 1)) (h : t + D * V = W % 4294967296 ^ n + e * 4294967296 ^ n) (hx : x = W / 4294967296 ^ n % 4294967296) (hd : d + e = x + b' * 4294967296) :
    (t + 4294967296 ^ n * d) + D * V = W + b' * 4294967296 ^ (n + 1) := by
  have h2 := mod_succ W n
  rw [Nat.mod_eq_of_lt hW, ← hx] at h2
  rw [Nat.pow_succ]
  have h3 : 4294967296 ^ n * (d + e) = 4294967296 ^ n * (x + b' * 4294967296) := by rw [hd]
  rw [h2]
  generalize W % 4294967296 ^ n = r at h ⊢
  generalize 4294967296 ^ n = P at h h3 ⊢
  grind
/-- the divisor is added back -/
theorem add_end {T V R x c n z : Nat} (hT : T < 4294967296 ^ (n + 1)) (hR : R < 4294967296 ^ n) (h : T + V = 4294967296 ^ (n + 1) + R) (hc : (T % 4294967296 ^ n + V) / 4294967296 ^ n = c) (hx : x = T / 4294967296 ^ n % 4294967296) (hz : z = (x + c) % 4294967296) :
    x + c = 4294967296 ∧ (T % 4294967296 ^ n + V) % 4294967296 ^ n = R := by
  have h2 := mod_succ T n
  rw [Nat.mod_eq_of_lt hT, ← hx] at h2
  have hp := pow_pos n
  have e1 := Nat.div_add_mod (T % 4294967296 ^ n + V) (4294967296 ^ n)
  rw [hc] at e1
  have e2 : 4294967296 ^ n * (c + x) + (T % 4294967296 ^ n + V) % 4294967296 ^ n = 4294967296 ^ n * 4294967296 + R := by
    rw [Nat.pow_succ] at h
    rw [Nat.mul_add]
    omega
  have hr := Nat.mod_lt (T % 4294967296 ^ n + V) hp
  have e3 := congrArg (· / 4294967296 ^ n) e2
  have e4 := congrArg (· % 4294967296 ^ n) e2
  simp only [Nat.mul_add_div hp, Nat.mul_add_mod, Nat.div_eq_of_lt hr, Nat.div_eq_of_lt hR, Nat.mod_mod, Nat.mod_eq_of_lt hR] at e3 e4
  exact ⟨by omega, e4⟩
theorem getD_app {L Z : List Nat} {i k : Nat} (hL : L.length = i) : (L ++ Z).getD (i + k) 0 = Z.getD k 0 := by
  rw [List.getD_eq_getElem?_getD, List.getElem?_append_right (by omega), ← List.getD_eq_getElem?_getD, hL, Nat.add_sub_cancel_left]
theorem u64_low (a : Nat) (h : a < 18446744073709551616) : bits .and .u64 (a : Int) 4294967295 = ((a % 4294967296 : Nat) : Int) := by
  have h1 := u64_and_nat a 4294967295 h (by omega)
  have h2 : a &&& 4294967295 = a % 4294967296 := Nat.and_two_pow_sub_one_eq_mod a 32
  rw [h2] at h1
  exact h1
/-- what is known of a guess -/
theorem guess_facts {vv : List Nat} {W V n : Nat} (hvw : wf vv) (hvl : vv.length = n + 2) (hvv : val vv = V) (hf : 2147483648 ≤ vv.getD (n + 1) 0) (hlt : W < 4294967296 * V) (hWn : W < 4294967296 ^ (n + 3)) {f s t1 t0 u top : Nat}
    (hfe : f = vv.getD (n + 1) 0) (hse : s = vv.getD n 0) (ht1 : t1 = W / 4294967296 ^ (n + 2) % 4294967296) (ht0 : t0 = W / 4294967296 ^ (n + 1) % 4294967296) (hue : u = W / 4294967296 ^ n % 4294967296) (htop : top = t1 * 4294967296 + t0) :
    t1 ≤ f ∧ W / V ≤ top / f ∧ (∀ d r, d * f + r = top → (4294967296 ≤ d ∨ r * 4294967296 + u < d * s) → W / V < d) ∧ (∀ d r, d * f + r = top → d * s ≤ r * 4294967296 + u → d < 4294967296 → d ≤ W / V + 1) := by
  have tv := top_two hvw hvl
  have hw := top_three (xs := dig (n + 3) W) (wf_dig _ _) (length_dig _ _)
  rw [val_dig, Nat.mod_eq_of_lt hWn, getD_dig (by omega), getD_dig (by omega), getD_dig (by omega), ← ht1, ← ht0, ← hue, ← htop] at hw
  rw [hvv, ← hfe, ← hse] at tv
  rw [← hfe] at hf
  have hul : u < 4294967296 := by rw [hue]; exact Nat.mod_lt _ (by omega)
  have hV0 : 0 < V := by
    have := pow_pos n
    have h2 : 0 < (f * 4294967296 + s) * 4294967296 ^ n := Nat.mul_pos (by omega) this
    omega
  refine ⟨?_, guess_start tv.1 hw.1 hw.2 hul (by omega) hV0, fun d r => guess_down tv.1 hw.1 hw.2 hlt hV0, fun d r h1 h2 h3 => guess_end tv.1 tv.2 hw.1 hV0 h1 h2 h3 (by omega)⟩
  apply Classical.byContradiction
  intro hgt
  have h1 : (t1 * 4294967296 ^ 2) * 4294967296 ^ n ≤ W := by
    rw [hw.1, htop]
    refine Nat.le_trans (Nat.mul_le_mul_right _ ?_) (Nat.le_add_right _ _)
    rw [show (4294967296 : Nat) ^ 2 = 4294967296 * 4294967296 from rfl]; omega
  have h2 : 4294967296 * V < 4294967296 * ((f + 1) * 4294967296 * 4294967296 ^ n) := by
    refine Nat.mul_lt_mul_of_pos_left ?_ (by omega)
    rw [tv.1]
    have hs : s < 4294967296 := by rw [hse]; exact wf_getD hvw _
    have := Nat.mul_le_mul_right (4294967296 ^ n) (show f * 4294967296 + s + 1 ≤ (f + 1) * 4294967296 by omega)
    rw [Nat.add_mul _ 1] at this
    omega
  have h3 : 4294967296 * ((f + 1) * 4294967296 * 4294967296 ^ n) ≤ (t1 * 4294967296 ^ 2) * 4294967296 ^ n := by
    have := Nat.mul_le_mul_right (4294967296 * 4294967296 * 4294967296 ^ n) (show f + 1 ≤ t1 by omega)
    rw [show (4294967296 : Nat) ^ 2 = 4294967296 * 4294967296 from rfl]
    calc 4294967296 * ((f + 1) * 4294967296 * 4294967296 ^ n) = (f + 1) * (4294967296 * 4294967296 * 4294967296 ^ n) := by grind
      _ ≤ _ := this
      _ = _ := by grind
  omega
end Go.Proofs.YtehmogpahkinfaaDoor
