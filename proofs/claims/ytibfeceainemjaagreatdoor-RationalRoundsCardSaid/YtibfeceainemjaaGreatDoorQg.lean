/- Walks: power, Pow. · Roots by Newton's method: plain mathematics. -/
import Derived.Test.YtibfeceainemjaaGreatDoorQPrS
import Derived.Test.YtibfeceainemjaaGreatDoorQf
import Derived.Test.YtibfeceainemjaaGreatDoorQc

set_option linter.unusedVariables false
set_option linter.unusedSimpArgs false
set_option linter.unusedSectionVars false

namespace Go.Proofs.YtibfeceainemjaaGreatDoor
open Go.RowKit Num

theorem and1_i64 (x : Nat) (h : x < 4611686018427387904) : bits .and .i64 (x : Int) 1 = ((x % 2 : Nat) : Int) := by
  have := bits_mask .i64 62 (by decide) (fun n h0 h1 => by rw [IntKind.wrap_i64]; omega) 1 (by omega) (x : Int) (by omega) (by omega)
  simpa using this

set_option maxRecDepth 100000 in
set_option maxHeartbeats 800000 in
theorem power_any (aa : Option Addr) (ca n : Nat) (xs : List Nat) (w : World) (ha : Rd w aa ca xs) (hl : xs.length ≤ 34359738368) (hn : n ≤ 64) :
    Calls Tryz.prog 176 #[.slice aa xs.length ca, .int .i64 (n : Int)] w (RetOwn w.heap.size (nd (val xs ^ n)) w) := by
  have hle := ha.le
  have hcm := ha.cm
  have hlen := fun W => len_any n W (by omega)
  have hb := blen_u64 (x := n) (by omega)
  go_enter Tryz.func176, Tryz.ntmps176
  go_wp2_with (go_at_call 202; refine (hlen _).mono ?_; rintro e w' ⟨rfl, rfl⟩)
  clear hlen
  go_loopw [5, 6] (fun zv iv wr => ∃ (j : Nat) (ao : Option Addr) (c : Nat) (zs : List Nat), j ≤ blen n ∧ iv = .int .i64 ((j : Int) - 1) ∧ zv = .slice ao zs.length c ∧ Hid (zs = nd (val xs ^ (n / 2 ^ j))) ∧ Own w.heap.size wr ao c zs ∧ Below w.heap.size w wr)
    (fun _ iv _ => (intOf iv + 1).toNat)
  case atStart =>
    have h0 : n / 2 ^ blen n = 0 := Nat.div_eq_of_lt (lt_blen n)
    have h1 : nd 1 = [1] := by rw [nd_pos (by omega)]; simp [nd_zero]
    refine ⟨blen n, some ⟨w.heap.size, 0, none⟩, 1, [1], Nat.le_refl _, rfl, rfl, ?_, Own.one w w.heap.size 1 (Nat.le_refl _) (by omega), below_alloc _ _⟩
    show _ = _
    rw [h0, Nat.pow_zero, h1]
  case round =>
    obtain ⟨j, ao, c, zs, hj, rfl, rfl, HZ, hown, hbel⟩ := hrel
    by_cases hj0 : j = 0
    · subst hj0
      have hz := HZ.out
      rw [Nat.pow_zero, Nat.div_one] at hz
      have HZ2 := hid hz
      clear hz HZ
      go_wp2
      go_ret
      rw [← HZ2.out]
      exact ⟨ao, c, rfl, hown, hbel⟩
    · obtain ⟨i, rfl⟩ : ∃ i, j = i + 1 := ⟨j - 1, by omega⟩
      clear hj0
      obtain ⟨k, hk⟩ : ∃ k, k = n / 2 ^ (i + 1) := ⟨_, rfl⟩
      have hz := HZ.out
      rw [← hk] at hz
      have hbit : n / 2 ^ i = 2 * k + n / 2 ^ i % 2 := by
        rw [hk, Nat.pow_succ, ← Nat.div_div_eq_div_mul]; omega
      obtain ⟨b, hbb⟩ : ∃ b, b = n / 2 ^ i % 2 := ⟨_, rfl⟩
      rw [← hbb] at hbit
      have hle2 : n / 2 ^ i ≤ n := Nat.div_le_self _ _
      have hlenp : ∀ e, e ≤ 64 → (nd (val xs ^ e)).length ≤ 2199023255553 := by
        intro e he
        obtain ⟨E, hE⟩ : ∃ E : Nat, E = 2199023255553 := ⟨_, rfl⟩
        rw [← hE]
        refine nd_length_le ?_
        have h1 := Nat.pow_le_pow_left (Nat.le_of_lt (val_lt ha.dg)) e
        rw [← Nat.pow_mul] at h1
        refine Nat.lt_of_le_of_lt h1 (Nat.pow_lt_pow_right (by omega) ?_)
        have := Nat.mul_le_mul hl he
        omega
      have hk64 : k ≤ 64 := by omega
      have hzl := hlenp k hk64
      have hz2l := hlenp (2 * k) (by omega)
      rw [← hz] at hzl
      have hsq := product_any ao ao c c zs zs wr hown.rd hown.rd (by omega) (by omega)
      rw [show val zs * val zs = val xs ^ (2 * k) by rw [hz, val_nd, ← Nat.pow_add, show k + k = 2 * k by omega]] at hsq
      obtain ⟨us, hus⟩ : ∃ us, us = nd (val xs ^ (2 * k)) := ⟨_, rfl⟩
      rw [← hus] at hsq hz2l
      have hpr := fun W ao2 c2 (h1 : Own wr.heap.size W ao2 c2 us) (h2 : Below w.heap.size w W) => product_any ao2 aa c2 ca us xs W h1.rd (ha.below h2) (by omega) (by omega)
      have hvu : val us * val xs = val xs ^ (2 * k + 1) := by rw [hus, val_nd, Nat.pow_succ]
      rw [hvu] at hpr
      have HK := hid (And.intro hbit hus)
      have HPR := hid hpr
      have hb1 : b ≤ 1 := by omega
      have hbits : bits BinOp.and IntKind.i64 ((n : Int) / 2 ^ i) 1 = (b : Int) := by
        have e : ((n : Int) / 2 ^ i) = ((n / 2 ^ i : Nat) : Int) := by simp
        rw [e, and1_i64 _ (by omega), hbb]
      clear hk hz hbit hbb hus hle2 hlenp hpr hvu HZ
      by_cases hb0 : b = 0
      · have hbt : ((b : Int) == 1) = false := beq_eq_false_iff_ne.2 (by omega)
        have HB0 := hid hb0
        clear hb0
        go_wp2_with fail
        refine hsq.mono ?_
        rintro e w2 ⟨ao2, c2, rfl, hown2, hbel2⟩
        have hbel3 : Below w.heap.size w w2 := hbel.trans (hbel2.mono hbel.size)
        go_wp2
        refine ⟨⟨i, ao2, c2, us, by omega, int_eq (by omega), rfl, ?_, hown2.mono hbel.size, hbel3⟩, by simp [intOf]⟩
        show _ = _
        rw [HK.out.2, HK.out.1, HB0.out, Nat.add_zero]
      · have hbt : ((b : Int) == 1) = true := beq_iff_eq.2 (by omega)
        have HB0 := hid (show b = 1 by omega)
        clear hb0
        go_wp2_with fail
        refine hsq.mono ?_
        rintro e w2 ⟨ao2, c2, rfl, hown2, hbel2⟩
        have hbel3 : Below w.heap.size w w2 := hbel.trans (hbel2.mono hbel.size)
        go_wp2_with fail
        refine (HPR.out w2 ao2 c2 hown2 hbel3).mono ?_
        rintro e w3 ⟨ao3, c3, rfl, hown3, hbel4⟩
        have hbel5 : Below w.heap.size w w3 := hbel3.trans (hbel4.mono hbel3.size)
        go_wp2
        refine ⟨⟨i, ao3, c3, _, by omega, int_eq (by omega), rfl, ?_, hown3.mono hbel3.size, hbel5⟩, by simp [intOf]⟩
        show _ = _
        rw [HK.out.1, HB0.out]

theorem pow_any (aa : Option Addr) (ca n : Nat) (xs : List Nat) (w : World) (ha : Rd w aa ca xs) (hl : xs.length ≤ 34359738368) (hn : n ≤ 64) :
    Calls Tryz.prog 122 #[.slice aa xs.length ca, .int .i64 (n : Int)] w
      (fun e w' => ∃ ao c, e = .returned (.tuple #[.slice ao (nd (val xs ^ n)).length c, .int .i64 0]) ∧ Own w.heap.size w' ao c (nd (val xs ^ n)) ∧ Below w.heap.size w w') := by
  have hcx := cut_any aa ca xs w ha
  have hlx := nd_length_le_of ha.dg
  have hp := power_any aa ca n (nd (val xs)) w ha.cutND (by omega) hn
  rw [val_nd] at hp
  obtain ⟨us, hus⟩ : ∃ us, us = nd (val xs ^ n) := ⟨_, rfl⟩
  rw [← hus] at hp ⊢
  clear hus ha
  go_enter Tryz.func122, Tryz.ntmps122
  go_wp2_with fail
  refine hcx.mono ?_
  rintro e w' ⟨rfl, rfl⟩
  go_wp2_with fail
  refine hp.mono ?_
  rintro e w2 ⟨ao, c, rfl, hown, hbel⟩
  go_wp2
  go_ret2
  exact ⟨ao, c, rfl, hown, hbel⟩
theorem pow_err (v : Value) (n : Int) (w : World) (hn : n < 0 ∨ 64 < n) :
    Calls Tryz.prog 122 #[v, .int .i64 n] w (Ret (.tuple #[.slice none 0 0, .int .i64 1]) w) := by
  rcases hn with h | h
  · go_enter Tryz.func122, Tryz.ntmps122
    go_wp2
    go_ret2
    exact Ret.mk rfl
  · have h' : ¬ n < 0 := by omega
    go_enter Tryz.func122, Tryz.ntmps122
    go_wp2
    go_ret2
    exact Ret.mk rfl
end Go.Proofs.YtibfeceainemjaaGreatDoor

namespace Go.Proofs.YtibfeceainemjaaGreatDoor.Num
/-- r is the n-th root of a, rounded down -/
def isRoot (n a r : Nat) : Prop := r ^ n ≤ a ∧ a < (r + 1) ^ n
theorem isRoot_unique {n a r s : Nat} (h : isRoot n a r) (k : isRoot n a s) : r = s := by
  have h1 : ∀ {r s : Nat}, isRoot n a r → isRoot n a s → r ≤ s := by
    intro r s h k
    apply Classical.byContradiction
    intro hc
    have := Nat.pow_le_pow_left (show s + 1 ≤ r by omega) n
    have := h.1
    have := k.2
    omega
  exact Nat.le_antisymm (h1 h k) (h1 k h)
theorem amgm (r x : Nat) : ∀ n : Nat, (n + 1) * r * x ^ n ≤ r ^ (n + 1) + n * x ^ (n + 1) := by
  intro n
  induction n with
  | zero => simp
  | succ n ih =>
    have h1 := Nat.mul_le_mul_right x ih
    have h2 : r ^ (n + 1) * x + r * x ^ (n + 1) ≤ r ^ (n + 1) * r + x ^ (n + 1) * x := by
      rcases Nat.le_total r x with h | h
      · have h3 := Nat.pow_le_pow_left h (n + 1)
        obtain ⟨d, rfl⟩ : ∃ d, x = r + d := ⟨x - r, by omega⟩
        obtain ⟨e, he⟩ : ∃ e, (r + d) ^ (n + 1) = r ^ (n + 1) + e := ⟨(r + d) ^ (n + 1) - r ^ (n + 1), by omega⟩
        rw [he]
        generalize r ^ (n + 1) = p
        have : p * (r + d) + r * (p + e) + d * e = p * r + (p + e) * (r + d) := by grind
        omega
      · have h3 := Nat.pow_le_pow_left h (n + 1)
        obtain ⟨d, rfl⟩ : ∃ d, r = x + d := ⟨r - x, by omega⟩
        obtain ⟨e, he⟩ : ∃ e, (x + d) ^ (n + 1) = x ^ (n + 1) + e := ⟨(x + d) ^ (n + 1) - x ^ (n + 1), by omega⟩
        rw [he]
        generalize x ^ (n + 1) = p
        have : (p + e) * x + (x + d) * p + d * e = (p + e) * (x + d) + p * x := by grind
        omega
    have e1 : (n + 1) * r * x ^ n * x = (n + 1) * (r * x ^ (n + 1)) := by rw [Nat.pow_succ]; grind
    have e2 : (r ^ (n + 1) + n * x ^ (n + 1)) * x = r ^ (n + 1) * x + n * (x ^ (n + 1) * x) := by grind
    rw [e1, e2] at h1
    have e3 : (n + 1 + 1) * r * x ^ (n + 1) = (n + 1) * (r * x ^ (n + 1)) + r * x ^ (n + 1) := by grind
    have e4 : r ^ (n + 1 + 1) + (n + 1) * x ^ (n + 1 + 1) = r ^ (n + 1) * r + (n * (x ^ (n + 1) * x) + x ^ (n + 1) * x) := by rw [Nat.pow_succ r (n + 1), Nat.pow_succ x (n + 1)]; grind
    rw [e3, e4]
    omega
/-- a step stays at least the root -/
theorem newton_ge {m a r x : Nat} (hx : 0 < x) (hr : r ^ (m + 1) ≤ a) : r ≤ (a / x ^ m + m * x) / (m + 1) := by
  rw [Nat.le_div_iff_mul_le (by omega)]
  have h1 := amgm r x m
  have hp : 0 < x ^ m := Nat.pow_pos hx
  by_cases h : r * (m + 1) ≤ m * x
  · exact Nat.le_trans h (Nat.le_add_left _ _)
  · have h2 : r * (m + 1) - m * x ≤ a / x ^ m := by
      rw [Nat.le_div_iff_mul_le hp, Nat.sub_mul]
      have e1 : r * (m + 1) * x ^ m = (m + 1) * r * x ^ m := by grind
      have e2 : m * x * x ^ m = m * x ^ (m + 1) := by rw [Nat.pow_succ]; grind
      rw [e1, e2]
      omega
    omega
/-- above the root a step falls -/
theorem newton_lt {m a x : Nat} (hx : 0 < x) (ha : a < x ^ (m + 1)) : (a / x ^ m + m * x) / (m + 1) < x := by
  rw [Nat.div_lt_iff_lt_mul (by omega)]
  have hp : 0 < x ^ m := Nat.pow_pos hx
  have h1 : a / x ^ m < x := by
    rw [Nat.div_lt_iff_lt_mul hp, Nat.mul_comm, ← Nat.pow_succ]; exact ha
  have : x * (m + 1) = m * x + x := by grind
  omega
/-- the start lies above the root -/
theorem root_start {n a r0 h : Nat} (h0 : isRoot n (a / 2 ^ (n * h)) r0) : a < ((r0 + 1) * 2 ^ h) ^ n := by
  have h1 := h0.2
  rw [Nat.mul_pow, ← Nat.pow_mul, Nat.mul_comm h n]
  exact Nat.lt_mul_of_div_lt h1 (Nat.pow_pos (by omega)) |> fun h => by rw [Nat.mul_comm]; rw [Nat.mul_comm] at h; first | exact h | (rw [Nat.mul_comm]; exact h)
theorem root_start_le {n a r0 h : Nat} (hn : 0 < n) (h0 : isRoot n (a / 2 ^ (n * h)) r0) (hh : 2 ^ h ≤ a) : (r0 + 1) * 2 ^ h ≤ 2 * a := by
  have h1 := h0.1
  have h2 : (r0 * 2 ^ h) ^ n ≤ a := by
    rw [Nat.mul_pow, ← Nat.pow_mul, Nat.mul_comm h n]
    exact Nat.le_trans (Nat.mul_le_mul_right _ h1) (Nat.div_mul_le_self _ _)
  have h3 : r0 * 2 ^ h ≤ a := by
    by_cases hz : r0 * 2 ^ h = 0
    · omega
    · have := Nat.pow_le_pow_right (show 0 < r0 * 2 ^ h by omega) (show 1 ≤ n by omega)
      rw [Nat.pow_one] at this; omega
  rw [Nat.add_mul]; omega
theorem root_zero {n : Nat} (hn : 0 < n) : isRoot n 0 0 := ⟨by rw [Nat.zero_pow hn]; exact Nat.le_refl _, by simp⟩
theorem root_one {n a : Nat} (ha : a ≠ 0) (hl : blen a ≤ n) : isRoot n a 1 := by
  refine ⟨by simp; omega, ?_⟩
  have := lt_blen a
  exact Nat.lt_of_lt_of_le this (Nat.pow_le_pow_right (by omega) hl)
theorem root_self {a : Nat} : isRoot 1 a a := ⟨by simp, by simp⟩
theorem root_exists {n : Nat} (hn : 0 < n) (a : Nat) : ∃ r, isRoot n a r := by
  induction a with
  | zero => exact ⟨0, root_zero hn⟩
  | succ a ih =>
    obtain ⟨r, h1, h2⟩ := ih
    by_cases h : (r + 1) ^ n ≤ a + 1
    · refine ⟨r + 1, h, ?_⟩
      have := Nat.pow_lt_pow_left (show r + 1 < r + 1 + 1 by omega) (Nat.pos_iff_ne_zero.1 hn)
      omega
    · exact ⟨r, by omega, by omega⟩
theorem root_le {n a r x : Nat} (h : isRoot n a r) (hx : a < x ^ n) : r ≤ x := by
  apply Classical.byContradiction
  intro hc
  have := Nat.pow_le_pow_left (show x ≤ r by omega) n
  have := h.1
  omega
theorem root_lt {n a r x : Nat} (h : isRoot n a r) (hx : r < x) : a < x ^ n :=
  Nat.lt_of_lt_of_le h.2 (Nat.pow_le_pow_left hx n)
end Go.Proofs.YtibfeceainemjaaGreatDoor.Num
