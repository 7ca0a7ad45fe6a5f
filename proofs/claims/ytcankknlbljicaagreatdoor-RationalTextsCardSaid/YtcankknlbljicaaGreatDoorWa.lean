/-  -/
import Derived.KernelRfl

set_option linter.unusedVariables false
set_option linter.unusedSimpArgs false
set_option linter.unusedSectionVars false
set_option maxRecDepth 100000
set_option maxHeartbeats 3200000

namespace Go.Proofs.YtcankknlbljicaaGreatDoor.Num

def wf (xs : List Nat) : Prop := ∀ x ∈ xs, x < 4294967296
def val : List Nat → Nat
 | [] => 0
 | d :: ds => d + 4294967296 * val ds
def dig : Nat → Nat → List Nat
 | 0, _ => []
 | k + 1, v => v % 4294967296 :: dig k (v / 4294967296)
def nd (v : Nat) : List Nat := if h : v = 0 then [] else v % 4294967296 :: nd (v / 4294967296)
termination_by v
decreasing_by omega

theorem wf_nil : wf [] := by simp [wf]
theorem wf_cons {d : Nat} {ds : List Nat} : wf (d :: ds) ↔ d < 4294967296 ∧ wf ds := by simp [wf]
theorem wf_append {xs ys : List Nat} : wf (xs ++ ys) ↔ wf xs ∧ wf ys := by
 simp only [wf, List.mem_append]
 exact ⟨fun h => ⟨fun x hx => h x (Or.inl hx), fun x hx => h x (Or.inr hx)⟩, fun h x hx => hx.elim (h.1 x) (h.2 x)⟩
theorem wf_take {xs : List Nat} (h : wf xs) (k : Nat) : wf (xs.take k) := fun x hx => h x (List.mem_of_mem_take hx)
theorem wf_drop {xs : List Nat} (h : wf xs) (k : Nat) : wf (xs.drop k) := fun x hx => h x (List.mem_of_mem_drop hx)
theorem wf_getD {xs : List Nat} (h : wf xs) (i : Nat) : xs.getD i 0 < 4294967296 := by
 rw [List.getD_eq_getElem?_getD]
 cases e : xs[i]? with
 | none => simp
 | some x => exact h x (List.mem_of_getElem? e)
theorem wf_dig (k v : Nat) : wf (dig k v) := by
 induction k generalizing v with
 | zero => exact wf_nil
 | succ k ih => exact wf_cons.2 ⟨Nat.mod_lt _ (by omega), ih _⟩
theorem wf_nd (v : Nat) : wf (nd v) := by
 induction v using Nat.strongRecOn with
 | _ v ih =>
  rw [nd]
  split
  ·exact wf_nil
  ·exact wf_cons.2 ⟨Nat.mod_lt _ (by omega), ih _ (by omega)⟩
theorem wf_set {xs : List Nat} (h : wf xs) (i x : Nat) (hx : x < 4294967296) : wf (xs.set i x) := by
 intro y hy
 rcases List.mem_or_eq_of_mem_set hy with h1 | rfl
 ·exact h y h1
 ·exact hx
theorem wf_replicate (n : Nat) : wf (List.replicate n 0) := by
 intro x hx
 rw [(List.mem_replicate.1 hx).2]; omega

theorem length_dig (k v : Nat) : (dig k v).length = k := by
 induction k generalizing v with
 | zero => rfl
 | succ k ih => simp [dig, ih]
theorem val_append (xs ys : List Nat) : val (xs ++ ys) = val xs + 4294967296 ^ xs.length * val ys := by
 induction xs with
 | nil => simp [val]
 | cons d ds ih => simp only [List.cons_append, val, ih, List.length_cons, Nat.pow_succ]; grind
theorem val_snoc (xs : List Nat) (d : Nat) : val (xs ++ [d]) = val xs + 4294967296 ^ xs.length * d := by
 rw [val_append]; simp [val]
theorem val_lt {xs : List Nat} (h : wf xs) : val xs < 4294967296 ^ xs.length := by
 induction xs with
 | nil => simp [val]
 | cons d ds ih =>
  obtain ⟨h1, h2⟩ := wf_cons.1 h
  have := ih h2
  simp only [val, List.length_cons, Nat.pow_succ]
  omega
theorem val_dig (k v : Nat) : val (dig k v) = v % 4294967296 ^ k := by
 induction k generalizing v with
 | zero => simp [dig, val, Nat.mod_one]
 | succ k ih =>
  simp only [dig, val, ih, Nat.pow_succ]
  rw [Nat.mul_comm (4294967296 ^ k), Nat.mod_mul]
theorem dig_val {xs : List Nat} (h : wf xs) : dig xs.length (val xs) = xs := by
 induction xs with
 | nil => rfl
 | cons d ds ih =>
  obtain ⟨h1, h2⟩ := wf_cons.1 h
  simp only [List.length_cons, dig, val]
  have e1 : (d + 4294967296 * val ds) % 4294967296 = d := by omega
  have e2 : (d + 4294967296 * val ds) / 4294967296 = val ds := by omega
  rw [e1, e2, ih h2]
theorem val_inj {xs ys : List Nat} (hx : wf xs) (hy : wf ys) (hl : xs.length = ys.length) (h : val xs = val ys) : xs = ys := by
 rw [← dig_val hx, ← dig_val hy, hl, h]
theorem dig_mod (k v : Nat) : dig k (v % 4294967296 ^ k) = dig k v := by
 refine val_inj (wf_dig _ _) (wf_dig _ _) (by simp [length_dig]) ?_
 rw [val_dig, val_dig, Nat.mod_mod]
theorem dig_succ (k v : Nat) : dig (k + 1) v = dig k v ++ [v / 4294967296 ^ k % 4294967296] := by
 induction k generalizing v with
 | zero => simp [dig]
 | succ k ih =>
  rw [dig, ih, dig]
  simp only [List.cons_append, List.cons.injEq, true_and]
  rw [Nat.div_div_eq_div_mul, Nat.pow_succ, Nat.mul_comm (4294967296 ^ k)]
theorem dig_append (j k v : Nat) : dig (j + k) v = dig j v ++ dig k (v / 4294967296 ^ j) := by
 induction k with
 | zero => simp [dig]
 | succ k ih => rw [← Nat.add_assoc, dig_succ, ih, dig_succ, List.append_assoc, Nat.div_div_eq_div_mul, ← Nat.pow_add]
theorem val_nd (v : Nat) : val (nd v) = v := by
 induction v using Nat.strongRecOn with
 | _ v ih =>
  rw [nd]
  split
  ·simp [val]; omega
  ·rw [val, ih _ (by omega)]; omega
theorem nd_zero : nd 0 = [] := by rw [nd]; simp
theorem nd_eq_nil {v : Nat} : nd v = [] ↔ v = 0 := by
 constructor
 ·intro h; rw [← val_nd v, h]; rfl
 ·rintro rfl; exact nd_zero
theorem nd_pos {v : Nat} (h : v ≠ 0) : nd v = v % 4294967296 :: nd (v / 4294967296) := by rw [nd]; simp [h]
def nrm (xs : List Nat) : Prop := xs = [] ∨ xs.getD (xs.length - 1) 0 ≠ 0
theorem nd_val {xs : List Nat} (h : wf xs) (hn : nrm xs) : nd (val xs) = xs := by
 induction xs with
 | nil => simp [val, nd_zero]
 | cons d ds ih =>
  obtain ⟨h1, h2⟩ := wf_cons.1 h
  have hv : val (d :: ds) ≠ 0 := by
   rcases hn with hn | hn
   ·simp at hn
   ·intro h0
    simp only [val] at h0
    have hd : d = 0 := by omega
    have hs : val ds = 0 := by omega
    cases ds with
    | nil => simp at hn; omega
    | cons e es =>
     have hn2 : nrm (e :: es) := Or.inr (by simpa using hn)
     have := ih h2 hn2
     rw [hs, nd_zero] at this
     simp at this
  have hn2 : nrm ds := by
   cases ds with
   | nil => exact Or.inl rfl
   | cons e es =>
    rcases hn with hn | hn
    ·simp at hn
    ·exact Or.inr (by simpa using hn)
  rw [nd_pos hv]
  have e1 : val (d :: ds) % 4294967296 = d := by simp only [val]; omega
  have e2 : val (d :: ds) / 4294967296 = val ds := by simp only [val]; omega
  rw [e1, e2, ih h2 hn2]
theorem nrm_nd (v : Nat) : nrm (nd v) := by
 induction v using Nat.strongRecOn with
 | _ v ih =>
  by_cases h : v = 0
  ·left; rw [h, nd_zero]
  ·right
   rw [nd_pos h]
   by_cases h2 : v / 4294967296 = 0
   ·rw [h2, nd_zero]; simp; omega
   ·have := ih (v / 4294967296) (by omega)
    rcases this with h3 | h3
    ·exact absurd (nd_eq_nil.1 h3) h2
    ·have hl : (nd (v / 4294967296)).length ≠ 0 := by
      intro h4; exact h2 (nd_eq_nil.1 (List.eq_nil_of_length_eq_zero h4))
     obtain ⟨m, hm⟩ : ∃ m, (nd (v / 4294967296)).length = m + 1 := ⟨_, (Nat.succ_pred_eq_of_pos (by omega)).symm⟩
     simp only [List.length_cons, hm] at h3 ⊢
     simpa using h3
theorem lt_pow_nd (v : Nat) : v < 4294967296 ^ (nd v).length := by
 have := val_lt (wf_nd v); rwa [val_nd] at this
theorem pow_nd_le {v : Nat} (h : v ≠ 0) : 4294967296 ^ ((nd v).length - 1) ≤ v := by
 induction v using Nat.strongRecOn with
 | _ v ih =>
  rw [nd_pos h]
  by_cases h2 : v / 4294967296 = 0
  ·rw [h2, nd_zero]; simp; omega
  ·have h3 := ih _ (by omega) h2
   have hl : (nd (v / 4294967296)).length ≠ 0 := by
    intro h4; exact h2 (nd_eq_nil.1 (List.eq_nil_of_length_eq_zero h4))
   obtain ⟨m, hm⟩ : ∃ m, (nd (v / 4294967296)).length = m + 1 := ⟨_, (Nat.succ_pred_eq_of_pos (by omega)).symm⟩
   simp only [List.length_cons, hm, Nat.add_sub_cancel] at h3 ⊢
   rw [Nat.pow_succ]
   have := Nat.mul_le_mul_right 4294967296 h3
   omega
theorem nd_length_le {v k : Nat} (h : v < 4294967296 ^ k) : (nd v).length ≤ k := by
 by_cases hv : v = 0
 ·subst hv; rw [nd_zero]; simp
 ·have h1 := pow_nd_le hv
  have h2 := Nat.lt_of_le_of_lt h1 h
  have := (Nat.pow_lt_pow_iff_right (by omega : 1 < 4294967296)).1 h2
  omega
theorem nd_length_le_of {xs : List Nat} (h : wf xs) : (nd (val xs)).length ≤ xs.length := nd_length_le (val_lt h)
theorem nd_length_mono {u v : Nat} (h : u ≤ v) : (nd u).length ≤ (nd v).length :=
 nd_length_le (Nat.lt_of_le_of_lt h (lt_pow_nd v))
theorem take_nd {xs : List Nat} (h : wf xs) : xs.take (nd (val xs)).length = nd (val xs) := by
 have hl := nd_length_le_of h
 refine val_inj (wf_take h _) (wf_nd _) (by simp; omega) ?_
 rw [val_nd]
 have e : xs = xs.take (nd (val xs)).length ++ xs.drop (nd (val xs)).length := (List.take_append_drop _ _).symm
 have hv : val xs = val (xs.take (nd (val xs)).length) + 4294967296 ^ (nd (val xs)).length * val (xs.drop (nd (val xs)).length) := by
  conv => lhs; rw [e]
  rw [val_append]; simp only [List.length_take, Nat.min_eq_left hl]
 have hlt := lt_pow_nd (val xs)
 have hz : val (xs.drop (nd (val xs)).length) = 0 := by
  apply Nat.eq_zero_of_not_pos
  intro hp
  have := Nat.mul_le_mul_left (4294967296 ^ (nd (val xs)).length) hp
  omega
 rw [hz] at hv; omega
theorem val_take_pred {xs : List Nat} {m : Nat} (h0 : m < xs.length) (h : xs.getD m 0 = 0) : val (xs.take (m + 1)) = val (xs.take m) := by
 have hx : xs[m]'h0 = 0 := by simpa [List.getD, h0] using h
 rw [List.take_succ_eq_append_getElem h0, hx, val_snoc]; simp
theorem take_succ_getD {xs : List Nat} {k : Nat} (h : k < xs.length) : xs.take (k + 1) = xs.take k ++ [xs.getD k 0] := by
 rw [List.take_succ_eq_append_getElem h]; simp [List.getD, h]
theorem val_take_succ {xs : List Nat} {k : Nat} (h : k < xs.length) : val (xs.take (k + 1)) = val (xs.take k) + 4294967296 ^ k * xs.getD k 0 := by
 rw [take_succ_getD h, val_snoc]; simp [Nat.min_eq_left (Nat.le_of_lt h)]
theorem val_take_of_ge {xs : List Nat} {k : Nat} (h : xs.length ≤ k) : val (xs.take k) = val xs := by
 rw [List.take_of_length_le h]
theorem val_take_lt {xs : List Nat} (h : wf xs) (k : Nat) : val (xs.take k) < 4294967296 ^ k := by
 have h1 := val_lt (wf_take h k)
 have h2 : (xs.take k).length ≤ k := List.length_take_le _ _
 exact Nat.lt_of_lt_of_le h1 (Nat.pow_le_pow_right (by omega) h2)
theorem val_replicate (n : Nat) : val (List.replicate n 0) = 0 := by
 induction n with
 | zero => rfl
 | succ n ih => simp [List.replicate_succ, val, ih]
theorem val_split (xs : List Nat) (k : Nat) (h : k ≤ xs.length) : val xs = val (xs.take k) + 4294967296 ^ k * val (xs.drop k) := by
 conv => lhs; rw [← List.take_append_drop k xs]
 rw [val_append]; simp [Nat.min_eq_left h]
theorem val_pos_of {xs : List Nat} (hn : nrm xs) (hx : xs ≠ []) : val xs ≠ 0 := by
 intro h
 rcases hn with hn | hn
 ·exact hx hn
 ·have hl : xs.length ≠ 0 := fun h => hx (List.eq_nil_of_length_eq_zero h)
  have h1 := val_split xs (xs.length - 1) (by omega)
  have h2 : val (xs.drop (xs.length - 1)) = 0 := by
   apply Nat.eq_zero_of_not_pos
   intro hp
   have := Nat.mul_pos (Nat.pow_pos (n := xs.length - 1) (by omega : 0 < 4294967296)) hp
   omega
  have h3 : xs.drop (xs.length - 1) = [xs.getD (xs.length - 1) 0] := by
   rw [List.drop_eq_getElem_cons (by omega), List.drop_eq_nil_of_le (by omega)]
   simp [List.getD, show xs.length - 1 < xs.length by omega]
  rw [h3] at h2
  simp [val] at h2
  exact hn (by simpa using h2)
theorem pow_pos (k : Nat) : 0 < 4294967296 ^ k := Nat.pow_pos (by omega)
theorem set_snoc {L zs : List Nat} {k d : Nat} (hL : L.length = k) (hk : k < zs.length) : (L ++ zs.drop k).set k d = L ++ [d] ++ zs.drop (k + 1) := by
 rw [List.set_append_right _ _ (by omega), List.drop_eq_getElem_cons hk, hL, Nat.sub_self, List.set_cons_zero, List.append_assoc]; rfl
theorem getD_snoc {L zs : List Nat} {k : Nat} (hL : L.length = k) : (L ++ zs.drop k).getD k 0 = zs.getD k 0 := by
 simp [List.getD_eq_getElem?_getD, List.getElem?_append_right, hL]
theorem length_snoc {L zs : List Nat} {k : Nat} (hL : L.length = k) (hk : k ≤ zs.length) : (L ++ zs.drop k).length = zs.length := by
 simp [hL]; omega
theorem getD_take_app {zs M : List Nat} {k i : Nat} (hi : i < k) (hk : k ≤ zs.length) : (zs.take k ++ M).getD i 0 = zs.getD i 0 := by
 rw [List.getD_eq_getElem?_getD, List.getElem?_append_left (by simp; omega), List.getElem?_take, if_pos hi, ← List.getD_eq_getElem?_getD]
theorem step_div (k s t : Nat) : (s + 4294967296 ^ k * t) / 4294967296 ^ k = s / 4294967296 ^ k + t := by
 rw [Nat.add_mul_div_left _ _ (pow_pos k)]
theorem step_dig (k s t : Nat) : dig k (s + 4294967296 ^ k * t) = dig k s := by
 rw [← dig_mod k (s + _), Nat.add_mul_mod_self_left, dig_mod]
theorem step_dig_succ (k s t : Nat) : dig (k + 1) (s + 4294967296 ^ k * t) = dig k s ++ [(s / 4294967296 ^ k + t) % 4294967296] := by
 rw [dig_succ, step_dig, step_div]
theorem step_div_succ (k s t : Nat) : (s + 4294967296 ^ k * t) / 4294967296 ^ (k + 1) = (s / 4294967296 ^ k + t) / 4294967296 := by
 rw [Nat.pow_succ, ← Nat.div_div_eq_div_mul, step_div]
theorem dig_rest {zs : List Nat} {j s : Nat} (hw : wf zs) (hj : j ≤ zs.length) (hs : s / 4294967296 ^ j = 0) :
  dig j s ++ zs.drop j = dig zs.length (s + 4294967296 ^ j * val (zs.drop j)) := by
 obtain ⟨m, hm⟩ : ∃ m, zs.length = j + m := ⟨zs.length - j, by omega⟩
 rw [hm, dig_append, step_dig, step_div, hs, Nat.zero_add]
 have h := dig_val (wf_drop hw j)
 rw [List.length_drop, hm, Nat.add_sub_cancel_left] at h
 rw [h]
theorem val_lt_top {xs ys : List Nat} {k : Nat} (hx : wf xs) (hl : xs.length = ys.length) (hk : k < xs.length) (hd : xs.drop (k + 1) = ys.drop (k + 1)) (h : xs.getD k 0 < ys.getD k 0) : val xs < val ys := by
 have e1 := val_split xs (k + 1) (by omega)
 have e2 := val_split ys (k + 1) (by omega)
 rw [val_take_succ hk] at e1
 rw [val_take_succ (by omega)] at e2
 rw [hd] at e1
 have := val_take_lt hx k
 have h2 := Nat.mul_le_mul_left (4294967296 ^ k) (show xs.getD k 0 + 1 ≤ ys.getD k 0 from h)
 rw [Nat.mul_add] at h2
 omega
theorem dig_zero (k : Nat) : dig k 0 = List.replicate k 0 := by
 induction k with
 | zero => rfl
 | succ k ih => rw [dig, Nat.zero_div, ih]; rfl
theorem take_dig {k n v : Nat} (h : k ≤ n) : (dig n v).take k = dig k v := by
 obtain ⟨m, rfl⟩ : ∃ m, n = k + m := ⟨n - k, by omega⟩
 rw [dig_append, List.take_left' (length_dig _ _)]
theorem drop_dig {k n v : Nat} (h : k ≤ n) : (dig n v).drop k = dig (n - k) (v / 4294967296 ^ k) := by
 obtain ⟨m, rfl⟩ : ∃ m, n = k + m := ⟨n - k, by omega⟩
 rw [dig_append, List.drop_left' (length_dig _ _), Nat.add_sub_cancel_left]
theorem dig_of_val {xs : List Nat} {N v : Nat} (hw : wf xs) (hl : xs.length = N) (hv : val xs = v) : xs = dig N v := by
 subst hl hv; exact (dig_val hw).symm
theorem nd_pad {N v : Nat} (h : v < 4294967296 ^ N) : nd v ++ List.replicate (N - (nd v).length) 0 = dig N v := by
 have := nd_length_le h
 refine dig_of_val (wf_append.2 ⟨wf_nd v, wf_replicate _⟩) (by simp; omega) ?_
 rw [val_append, val_replicate, val_nd]; omega
theorem val_div {xs : List Nat} (hw : wf xs) (k : Nat) (hk : k ≤ xs.length) : val xs / 4294967296 ^ k = val (xs.drop k) := by
 rw [val_split xs k hk, Nat.add_mul_div_left _ _ (pow_pos k), Nat.div_eq_of_lt (val_take_lt hw k), Nat.zero_add]
theorem val_drop {xs : List Nat} {k : Nat} (hk : k < xs.length) : val (xs.drop k) = xs.getD k 0 + 4294967296 * val (xs.drop (k + 1)) := by
 rw [List.drop_eq_getElem_cons hk, val]; simp [List.getD, hk]
theorem val_drop' {xs : List Nat} {k : Nat} (hw : wf xs) : val (xs.drop k) % 4294967296 = xs.getD k 0 := by
 by_cases hk : k < xs.length
 ·rw [val_drop hk]
  have := wf_getD hw k
  omega
 ·rw [List.drop_eq_nil_of_le (by omega)]
  simp [val, List.getD_eq_getElem?_getD, List.getElem?_eq_none (show xs.length ≤ k by omega)]
theorem div_digit {xs : List Nat} (hw : wf xs) {j w r h : Nat} (hr : r ≤ 31) (hk : j + w < xs.length) (hh : h % 4294967296 = xs.getD (j + w + 1) 0) :
  (val xs / 2 ^ (32 * w + r)) / 4294967296 ^ j % 4294967296 = (xs.getD (j + w) 0 + 4294967296 * h % 18446744073709551616) / 2 ^ r % 4294967296 := by
 have e1 : 2 ^ (32 * w + r) = 4294967296 ^ w * 2 ^ r := by rw [Nat.pow_add, Nat.pow_mul]
 rw [e1, Nat.div_div_eq_div_mul, show 4294967296 ^ w * 2 ^ r * 4294967296 ^ j = 4294967296 ^ (j + w) * 2 ^ r by rw [Nat.pow_add]; grind, ← Nat.div_div_eq_div_mul, val_div hw _ (by omega), val_drop hk]
 obtain ⟨q, hq⟩ : ∃ q, 4294967296 = 2 ^ r * q := ⟨2 ^ (32 - r), by rw [← Nat.pow_add, show r + (32 - r) = 32 by omega]⟩
 have h2 := val_drop' (k := j + w + 1) hw
 have h3 : val (xs.drop (j + w + 1)) = xs.getD (j + w + 1) 0 + 4294967296 * (val (xs.drop (j + w + 1)) / 4294967296) := by omega
 have h4 : 4294967296 * h % 18446744073709551616 = 4294967296 * xs.getD (j + w + 1) 0 := by omega
 rw [h4, h3]
 generalize val (xs.drop (j + w + 1)) / 4294967296 = t
 generalize xs.getD (j + w + 1) 0 = b
 generalize xs.getD (j + w) 0 = a
 have hp : 0 < 2 ^ r := Nat.pow_pos (by omega)
 have e2 : a + 4294967296 * (b + 4294967296 * t) = (a + 4294967296 * b) + 2 ^ r * (q * (4294967296 * t)) := by
  generalize 4294967296 * t = u
  rw [Nat.mul_add, ← Nat.add_assoc]
  congr 1
  rw [← Nat.mul_assoc, ← hq]
 rw [e2, Nat.add_mul_div_left _ _ hp, show q * (4294967296 * t) = 4294967296 * (q * t) by grind, Nat.add_mul_mod_self_left]
theorem div_step (u v D : Nat) (hD : 0 < D) : (u + 4294967296 * v) / D = (4294967296 * (v % D) + u) / D + 4294967296 * (v / D) ∧ (u + 4294967296 * v) % D = (4294967296 * (v % D) + u) % D := by
 have h := Nat.div_add_mod v D
 have e : u + 4294967296 * v = (4294967296 * (v % D) + u) + D * (4294967296 * (v / D)) := by
  conv => lhs; rw [← h]
  grind
 rw [e]
 exact ⟨Nat.add_mul_div_left _ _ hD, Nat.add_mul_mod_self_left _ _ _⟩
theorem div_step_lt {u v D : Nat} (hu : u < 4294967296) (hD : 0 < D) : (4294967296 * (v % D) + u) / D < 4294967296 := by
 have := Nat.mod_lt v hD
 refine Nat.div_lt_of_lt_mul ?_
 have h2 := Nat.mul_le_mul_left 4294967296 (show v % D + 1 ≤ D from this)
 rw [Nat.mul_comm D]
 omega
theorem set_down {zs : List Nat} {i q v : Nat} (hi : i < zs.length) (hq : q < 4294967296) :
  (zs.take (i + 1) ++ dig (zs.length - (i + 1)) v).set i q = zs.take i ++ dig (zs.length - i) (q + 4294967296 * v) := by
 rw [take_succ_getD hi, List.append_assoc, List.set_append_right _ _ (by simp; omega)]
 obtain ⟨u, hu⟩ : ∃ u, zs.length - i = u + 1 := ⟨zs.length - i - 1, by omega⟩
 rw [hu, show zs.length - (i + 1) = u by omega, dig, List.length_take, Nat.min_eq_left (by omega), Nat.sub_self]
 have e1 : (q + 4294967296 * v) % 4294967296 = q := by omega
 have e2 : (q + 4294967296 * v) / 4294967296 = v := by omega
 rw [e1, e2]; rfl
theorem guess_start {W V f s top u P vl wl : Nat} (hV : V = (f * 4294967296 + s) * P + vl) (hW : W = (top * 4294967296 + u) * P + wl) (hwl : wl < P) (hu : u < 4294967296) (hf : 0 < f) (hV0 : 0 < V) : W / V ≤ top / f := by
 rw [Nat.le_div_iff_mul_le hf]
 have h1 := Nat.div_mul_le_self W V
 generalize W / V = q at h1 ⊢
 have h2 : q * (f * 4294967296 * P) ≤ q * V := Nat.mul_le_mul_left q (by rw [hV, Nat.add_mul]; omega)
 have h3 : W < (top * 4294967296 + 4294967296) * P := by
  rw [hW]
  have := Nat.mul_le_mul_right P (show top * 4294967296 + u + 1 ≤ top * 4294967296 + 4294967296 by omega)
  rw [Nat.add_mul _ 1] at this
  omega
 have h4 : (q * f * 4294967296) * P < (top * 4294967296 + 4294967296) * P := by
  have : q * (f * 4294967296 * P) = (q * f * 4294967296) * P := by grind
  omega
 have := Nat.lt_of_mul_lt_mul_right h4
 omega
theorem guess_down {W V f s top u P vl wl d r : Nat} (hV : V = (f * 4294967296 + s) * P + vl) (hW : W = (top * 4294967296 + u) * P + wl) (hwl : wl < P) (hlt : W < 4294967296 * V) (hV0 : 0 < V)
  (hd : d * f + r = top) (h : 4294967296 ≤ d ∨ r * 4294967296 + u < d * s) : W / V < d := by
 rw [Nat.div_lt_iff_lt_mul hV0]
 rcases h with h | h
 ·exact Nat.lt_of_lt_of_le hlt (Nat.mul_le_mul_right V h)
 ·have h1 : top * 4294967296 + u + 1 ≤ d * (f * 4294967296 + s) := by rw [← hd]; grind
  have h2 := Nat.mul_le_mul_right P h1
  have h3 : d * (f * 4294967296 + s) * P ≤ d * V := by rw [hV, Nat.mul_assoc]; exact Nat.mul_le_mul_left d (Nat.le_add_right _ _)
  rw [Nat.add_mul _ 1] at h2
  omega
theorem guess_end {W V f s top u P vl wl d r : Nat} (hV : V = (f * 4294967296 + s) * P + vl) (hvl : vl < P) (hW : W = (top * 4294967296 + u) * P + wl) (hV0 : 0 < V)
  (hd : d * f + r = top) (h : d * s ≤ r * 4294967296 + u) (hdl : d < 4294967296) (hf : 0 < f) : d ≤ W / V + 1 := by
 have h0 : d - 1 ≤ W / V := by
  rw [Nat.le_div_iff_mul_le hV0]
  have h1 : d * (f * 4294967296 + s) ≤ top * 4294967296 + u := by rw [← hd]; grind
  have h2 : (d - 1) * (f * 4294967296 + s + 1) ≤ top * 4294967296 + u := by
   by_cases h : d = 0
   ·subst h; simp
   ·obtain ⟨e, rfl⟩ : ∃ e, d = e + 1 := ⟨d - 1, by omega⟩
    rw [Nat.add_sub_cancel, Nat.mul_add e, Nat.mul_one]
    rw [Nat.add_mul e 1, Nat.one_mul] at h1
    omega
  have h3 : (d - 1) * V ≤ (d - 1) * ((f * 4294967296 + s + 1) * P) := Nat.mul_le_mul_left _ (by rw [hV, Nat.add_mul _ 1]; omega)
  have h4 := Nat.mul_le_mul_right P h2
  rw [← Nat.mul_assoc] at h3
  omega
 omega
theorem top_two {xs : List Nat} {n : Nat} (hw : wf xs) (hl : xs.length = n + 2) : val xs = (xs.getD (n + 1) 0 * 4294967296 + xs.getD n 0) * 4294967296 ^ n + val (xs.take n) ∧ val (xs.take n) < 4294967296 ^ n := by
 refine ⟨?_, val_take_lt hw n⟩
 have h1 := val_take_succ (xs := xs) (k := n + 1) (by omega)
 have h2 := val_take_succ (xs := xs) (k := n) (by omega)
 rw [show n + 1 + 1 = xs.length by omega, List.take_length] at h1
 rw [h1, h2, Nat.pow_succ]; grind
theorem top_three {xs : List Nat} {n : Nat} (hw : wf xs) (hl : xs.length = n + 3) : val xs = ((xs.getD (n + 2) 0 * 4294967296 + xs.getD (n + 1) 0) * 4294967296 + xs.getD n 0) * 4294967296 ^ n + val (xs.take n) ∧ val (xs.take n) < 4294967296 ^ n := by
 refine ⟨?_, val_take_lt hw n⟩
 have h1 := val_take_succ (xs := xs) (k := n + 2) (by omega)
 have h2 := val_take_succ (xs := xs) (k := n + 1) (by omega)
 have h3 := val_take_succ (xs := xs) (k := n) (by omega)
 rw [show n + 2 + 1 = xs.length by omega, List.take_length] at h1
 rw [h1, h2, h3, Nat.pow_succ, Nat.pow_succ]; grind
theorem subBy_step {t P zv bv x y D c b d c' l b' : Nat} (h : t + D * bv = zv + (c + b) * P) (hc : c + D * y = 4294967296 * c' + l) (hd : d + l + b = x + b' * 4294967296) :
  (t + P * d) + D * (bv + P * y) = (zv + P * x) + (c' + b') * (P * 4294967296) := by
 have h2 : P * (d + l + b) = P * (x + b' * 4294967296) := by rw [hd]
 have h3 : P * (c + D * y) = P * (4294967296 * c' + l) := by rw [hc]
 grind
theorem cons_dig {n u v : Nat} (hu : u < 4294967296) : u :: dig n v = dig (n + 1) (u + 4294967296 * v) := by
 rw [dig]
 have e1 : (u + 4294967296 * v) % 4294967296 = u := by omega
 have e2 : (u + 4294967296 * v) / 4294967296 = v := by omega
 rw [e1, e2]
theorem set_zero {n i q v : Nat} (hi : i < n) (hq : q < 4294967296) : (List.replicate (i + 1) 0 ++ dig (n - (i + 1)) v).set i q = List.replicate i 0 ++ dig (n - i) (q + 4294967296 * v) := by
 rw [List.replicate_succ', List.append_assoc, List.set_append_right _ _ (by simp), List.length_replicate, Nat.sub_self]
 obtain ⟨u, hu⟩ : ∃ u, n - i = u + 1 := ⟨n - i - 1, by omega⟩
 rw [hu, show n - (i + 1) = u by omega, ← cons_dig hq]; rfl
theorem dig_down {i m U v : Nat} (hi : i < m) : dig (i + 1) U ++ dig (m - (i + 1)) v = dig i U ++ dig (m - i) (U / 4294967296 ^ i % 4294967296 + 4294967296 * v) := by
 obtain ⟨u, hu⟩ : ∃ u, m - i = u + 1 := ⟨m - i - 1, by omega⟩
 rw [dig_succ, hu, show m - (i + 1) = u by omega, ← cons_dig (Nat.mod_lt _ (by omega)), List.append_assoc]; rfl
theorem nd_length_add {u v k : Nat} (hu : u < 4294967296 ^ k) (hv : v < 4294967296 ^ k) : (nd (u + v)).length ≤ k + 1 :=
 nd_length_le (by rw [Nat.pow_succ]; omega)
theorem nd_length_mul {u v j k : Nat} (hu : u < 4294967296 ^ j) (hv : v < 4294967296 ^ k) : (nd (u * v)).length ≤ j + k :=
 nd_length_le (by rw [Nat.pow_add]; exact Nat.mul_lt_mul_of_lt_of_le hu (Nat.le_of_lt hv) (pow_pos k))
theorem val_lt_of {xs : List Nat} {k : Nat} (hw : wf xs) (hl : xs.length ≤ k) : val xs < 4294967296 ^ k := Nat.lt_of_lt_of_le (val_lt hw) (Nat.pow_le_pow_right (by omega) hl)
def cmpN (a b : Nat) : Int := if a < b then -1 else if b < a then 1 else 0
theorem sub_digit (x y b : Nat) (hx : x < 4294967296) (hy : y < 4294967296) (hb : b ≤ 1) :
  (x + 8589934592 - y - b) % 4294967296 + y + b = x + (if x < y + b then 1 else 0) * 4294967296 ∧ (x + 8589934592 - y - b) % 4294967296 < 4294967296 ∧ (if x < y + b then 1 else 0) ≤ 1 := by
 split <;> omega
theorem sub_step {t P zv bv x y b d b' : Nat} (h : t + bv = zv + b * P) (hd : d + y + b = x + b' * 4294967296) :
  (t + P * d) + (bv + P * y) = (zv + P * x) + b' * (P * 4294967296) := by
 have h2 : P * (d + y + b) = P * (x + b' * 4294967296) := by rw [hd]
 grind
theorem step_lt {t P d : Nat} (h : t < P) (hd : d < 4294967296) : t + P * d < P * 4294967296 := by
 have := Nat.mul_le_mul_left P (show d + 1 ≤ 4294967296 by omega)
 rw [Nat.mul_add] at this
 omega
end Go.Proofs.YtcankknlbljicaaGreatDoor.Num

namespace Go.Proofs.YtcankknlbljicaaGreatDoor.Num
def dpad : Nat → Nat → List Nat
 | 0, _ => []
 | k + 1, v => (48 + v % 10) :: dpad k (v / 10)
def decR (v : Nat) : List Nat := if h : v = 0 then [] else (48 + v % 10) :: decR (v / 10)
termination_by v
decreasing_by omega
def decT (v : Nat) : List Nat := if v = 0 then [48] else (decR v).reverse
def bstr (bs : List Nat) : ByteArray := ⟨(bs.map UInt8.ofNat).toArray⟩

theorem length_dpad (k v : Nat) : (dpad k v).length = k := by
 induction k generalizing v with
 | zero => rfl
 | succ k ih => simp [dpad, ih]
theorem dpad_succ (k v : Nat) : dpad (k + 1) v = dpad k v ++ [48 + v / 10 ^ k % 10] := by
 induction k generalizing v with
 | zero => simp [dpad]
 | succ k ih =>
  rw [dpad, ih, dpad]
  simp only [List.cons_append, List.cons.injEq, true_and]
  rw [Nat.div_div_eq_div_mul, Nat.pow_succ, Nat.mul_comm (10 ^ k)]
theorem dpad_zero (k : Nat) : dpad k 0 = List.replicate k 48 := by
 induction k with
 | zero => rfl
 | succ k ih => rw [dpad, Nat.zero_div, ih]; rfl
theorem decR_zero : decR 0 = [] := by rw [decR]; simp
theorem decR_pos {v : Nat} (h : v ≠ 0) : decR v = (48 + v % 10) :: decR (v / 10) := by rw [decR]; simp [h]
theorem dpad_eq {k v : Nat} (h : v < 10 ^ k) : ∃ j, dpad k v = decR v ++ List.replicate j 48 := by
 induction k generalizing v with
 | zero =>
  have : v = 0 := by simp at h; omega
  subst this
  exact ⟨0, by rw [decR_zero]; rfl⟩
 | succ k ih =>
  by_cases hv : v = 0
  ·subst hv; exact ⟨k + 1, by rw [dpad_zero, decR_zero]; rfl⟩
  ·obtain ⟨j, hj⟩ := ih (v := v / 10) (by rw [Nat.pow_succ] at h; omega)
   exact ⟨j, by rw [dpad, hj, decR_pos hv]; rfl⟩
theorem decR_last {v : Nat} (h : v ≠ 0) : ∃ l d, decR v = l ++ [d] ∧ d ≠ 48 ∧ d < 58 := by
 induction v using Nat.strongRecOn with
 | _ v ih =>
  rw [decR_pos h]
  by_cases h2 : v / 10 = 0
  ·rw [h2, decR_zero]; exact ⟨[], 48 + v % 10, rfl, by omega, by omega⟩
  ·obtain ⟨l, d, h3, h4, h5⟩ := ih (v / 10) (by omega) h2
   exact ⟨_ :: l, d, by rw [h3]; rfl, h4, h5⟩
theorem chunk_digit (x i : Nat) (hi : i < 9) : x % 1000000000 / 10 ^ i % 10 = x / 10 ^ i % 10 := by
 have e : 1000000000 = 10 ^ i * (10 ^ (8 - i) * 10) := by rw [← Nat.pow_succ, ← Nat.pow_add, show i + (8 - i).succ = 9 by omega]
 rw [e, Nat.mod_mul_right_div_self, Nat.mod_mul_left_mod]
theorem trimmed {k v : Nat} (hv : v ≠ 0) (h : v < 10 ^ k) : ∃ j, (dpad k v).reverse = List.replicate j 48 ++ decT v := by
 obtain ⟨j, hj⟩ := dpad_eq h
 exact ⟨j, by rw [hj, List.reverse_append, List.reverse_replicate, decT, if_neg hv]⟩
theorem decT_head {v : Nat} (hv : v ≠ 0) : ∃ d l, decT v = d :: l ∧ d ≠ 48 ∧ d < 58 := by
 obtain ⟨l, d, h1, h2, h3⟩ := decR_last hv
 exact ⟨d, l.reverse, by rw [decT, if_neg hv, h1]; simp, h2, h3⟩
theorem foldl_push (ns : List Nat) (s : ByteArray) : (ns.map fun d : Nat => (d : Int)).foldl (fun r n => r.push (UInt8.ofNat n.toNat)) s = ⟨s.data ++ (ns.map UInt8.ofNat).toArray⟩ := by
 induction ns generalizing s with
 | nil => simp
 | cons n ns ih =>
  rw [List.map_cons, List.foldl_cons, ih]
  simp [ByteArray.push]
theorem bstr_size (bs : List Nat) : (bstr bs).size = bs.length := by simp [bstr, ByteArray.size]
theorem bstr_tail (b : Nat) (bs : List Nat) : (bstr (b :: bs)).extract 1 (bstr (b :: bs)).size = bstr bs := by
 apply ByteArray.ext
 simp [bstr, ByteArray.size]
 exact List.take_of_length_le (by simp)
end Go.Proofs.YtcankknlbljicaaGreatDoor.Num
