/- Walks: power, Pow. -/
import Derived.Test.YtbcaigpdckencaaDoorPrS
import Derived.Test.YtbcaigpdckencaaDoorDvm
namespace Go.Proofs.YtbcaigpdckencaaDoor
open Go.RowKit Num

theorem and1_i64 (x : Nat) (h : x < 4611686018427387904) : bits .and .i64 (x : Int) 1 = ((x % 2 : Nat) : Int) := by
  have := bits_mask .i64 62 (by decide) (fun n h0 h1 => by rw [IntKind.wrap_i64]; omega) 1 (by omega) (x : Int) (by omega) (by omega)
  simpa using this

set_option maxRecDepth 100000 in
set_option maxHeartbeats 800000 in
theorem power_any (aa : Option Addr) (ca n : Nat) (xs : List Nat) (w : World) (ha : Rd w aa ca xs) (hl : xs.length ≤ 34359738368) (hn : n ≤ 64) :
    Calls Tryd.prog 52 #[.slice aa xs.length ca, .int .i64 (n : Int)] w (RetOwn w.heap.size (nd (val xs ^ n)) w) := by
  have hle := ha.le
  have hcm := ha.cm
  have hlen := fun W => len_any n W (by omega)
  have hb := blen_u64 (x := n) (by omega)
  go_enter Tryd.func52, Tryd.ntmps52
  go_wp2_with (go_at_call 85; refine (hlen _).mono ?_; rintro e w' ⟨rfl, rfl⟩)
  clear hlen
  go_loopw [5, 6] (fun zv iv wr => ∃ (j : Nat) (ao : Option Addr) (c : Nat) (zs : List Nat), j ≤ blen n ∧ iv = .int .i64 ((j : Int) - 1) ∧ zv = .slice ao zs.length c ∧ Hid (zs = nd (val xs ^ (n / 2 ^ j))) ∧ Own w.heap.size wr ao c zs ∧ Below w.heap.size w wr)
    (fun _ iv _ => (intOf iv + 1).toNat)
  case atStart =>
    have h0 : n / 2 ^ blen n = 0 := Nat.div_eq_of_lt (lt_blen n)
    have h1 : nd 1 = [1] := by rw [nd_pos (by omega)]; simp [nd_zero]
    refine ⟨blen n, some ⟨w.heap.size, 0, none⟩, 1, [1], Nat.le_refl _, rfl, rfl, ?_, Own.one w w.heap.size 1 (Nat.le_refl _) (by omega), below_alloc _ _⟩
    show _ = _
    rw [h0, Nat.pow_zero, h1]
  case round =>
    obtain ⟨j, ao, c, zs, hj, rfl, rfl, HZ, hown, hbel⟩ := hrel
    by_cases hj0 : j = 0
    · subst hj0
      have hz := HZ.out
      rw [Nat.pow_zero, Nat.div_one] at hz
      have HZ2 := hid hz
      clear hz HZ
      go_wp2
      go_ret
      rw [← HZ2.out]
      exact ⟨ao, c, rfl, hown, hbel⟩
    · obtain ⟨i, rfl⟩ : ∃ i, j = i + 1 := ⟨j - 1, by omega⟩
      clear hj0
      obtain ⟨k, hk⟩ : ∃ k, k = n / 2 ^ (i + 1) := ⟨_, rfl⟩
      have hz := HZ.out
      rw [← hk] at hz
      have hbit : n / 2 ^ i = 2 * k + n / 2 ^ i % 2 := by
        rw [hk, Nat.pow_succ, ← Nat.div_div_eq_div_mul]; omega
      obtain ⟨b, hbb⟩ : ∃ b, b = n / 2 ^ i % 2 := ⟨_, rfl⟩
      rw [← hbb] at hbit
      have hle2 : n / 2 ^ i ≤ n := Nat.div_le_self _ _
      have hlenp : ∀ e, e ≤ 64 → (nd (val xs ^ e)).length ≤ 2199023255553 := by
        intro e he
        obtain ⟨E, hE⟩ : ∃ E : Nat, E = 2199023255553 := ⟨_, rfl⟩
        rw [← hE]
        refine nd_length_le ?_
        have h1 := Nat.pow_le_pow_left (Nat.le_of_lt (val_lt ha.dg)) e
        rw [← Nat.pow_mul] at h1
        refine Nat.lt_of_le_of_lt h1 (Nat.pow_lt_pow_right (by omega) ?_)
        have := Nat.mul_le_mul hl he
        omega
      have hk64 : k ≤ 64 := by omega
      have hzl := hlenp k hk64
      have hz2l := hlenp (2 * k) (by omega)
      rw [← hz] at hzl
      have hsq := product_any ao ao c c zs zs wr hown.rd hown.rd (by omega) (by omega)
      rw [show val zs * val zs = val xs ^ (2 * k) by rw [hz, val_nd, ← Nat.pow_add, show k + k = 2 * k by omega]] at hsq
      obtain ⟨us, hus⟩ : ∃ us, us = nd (val xs ^ (2 * k)) := ⟨_, rfl⟩
      rw [← hus] at hsq hz2l
      have hpr := fun W ao2 c2 (h1 : Own wr.heap.size W ao2 c2 us) (h2 : Below w.heap.size w W) => product_any ao2 aa c2 ca us xs W h1.rd (ha.below h2) (by omega) (by omega)
      have hvu : val us * val xs = val xs ^ (2 * k + 1) := by rw [hus, val_nd, Nat.pow_succ]
      rw [hvu] at hpr
      have HK := hid (And.intro hbit hus)
      have HPR := hid hpr
      have hb1 : b ≤ 1 := by omega
      have hbits : bits BinOp.and IntKind.i64 ((n : Int) / 2 ^ i) 1 = (b : Int) := by
        have e : ((n : Int) / 2 ^ i) = ((n / 2 ^ i : Nat) : Int) := by simp
        rw [e, and1_i64 _ (by omega), hbb]
      clear hk hz hbit hbb hus hle2 hlenp hpr hvu HZ
      by_cases hb0 : b = 0
      · have hbt : ((b : Int) == 1) = false := beq_eq_false_iff_ne.2 (by omega)
        have HB0 := hid hb0
        clear hb0
        go_wp2_with fail
        refine hsq.mono ?_
        rintro e w2 ⟨ao2, c2, rfl, hown2, hbel2⟩
        have hbel3 : Below w.heap.size w w2 := hbel.trans (hbel2.mono hbel.size)
        go_wp2
        refine ⟨⟨i, ao2, c2, us, by omega, int_eq (by omega), rfl, ?_, hown2.mono hbel.size, hbel3⟩, by simp [intOf]⟩
        show _ = _
        rw [HK.out.2, HK.out.1, HB0.out, Nat.add_zero]
      · have hbt : ((b : Int) == 1) = true := beq_iff_eq.2 (by omega)
        have HB0 := hid (show b = 1 by omega)
        clear hb0
        go_wp2_with fail
        refine hsq.mono ?_
        rintro e w2 ⟨ao2, c2, rfl, hown2, hbel2⟩
        have hbel3 : Below w.heap.size w w2 := hbel.trans (hbel2.mono hbel.size)
        go_wp2_with fail
        refine (HPR.out w2 ao2 c2 hown2 hbel3).mono ?_
        rintro e w3 ⟨ao3, c3, rfl, hown3, hbel4⟩
        have hbel5 : Below w.heap.size w w3 := hbel3.trans (hbel4.mono hbel3.size)
        go_wp2
        refine ⟨⟨i, ao3, c3, _, by omega, int_eq (by omega), rfl, ?_, hown3.mono hbel3.size, hbel5⟩, by simp [intOf]⟩
        show _ = _
        rw [HK.out.1, HB0.out]

theorem pow_any (aa : Option Addr) (ca n : Nat) (xs : List Nat) (w : World) (ha : Rd w aa ca xs) (hl : xs.length ≤ 34359738368) (hn : n ≤ 64) :
    Calls Tryd.prog 13 #[.slice aa xs.length ca, .int .i64 (n : Int)] w
      (fun e w' => ∃ ao c, e = .returned (.tuple #[.slice ao (nd (val xs ^ n)).length c, .int .i64 0]) ∧ Own w.heap.size w' ao c (nd (val xs ^ n)) ∧ Below w.heap.size w w') := by
  have hcx := cut_any aa ca xs w ha
  have hlx := nd_length_le_of ha.dg
  have hp := power_any aa ca n (nd (val xs)) w ha.cutND (by omega) hn
  rw [val_nd] at hp
  obtain ⟨us, hus⟩ : ∃ us, us = nd (val xs ^ n) := ⟨_, rfl⟩
  rw [← hus] at hp ⊢
  clear hus ha
  go_enter Tryd.func13, Tryd.ntmps13
  go_wp2_with fail
  refine hcx.mono ?_
  rintro e w' ⟨rfl, rfl⟩
  go_wp2_with fail
  refine hp.mono ?_
  rintro e w2 ⟨ao, c, rfl, hown, hbel⟩
  go_wp2
  go_ret2
  exact ⟨ao, c, rfl, hown, hbel⟩
theorem pow_err (v : Value) (n : Int) (w : World) (hn : n < 0 ∨ 64 < n) :
    Calls Tryd.prog 13 #[v, .int .i64 n] w (Ret (.tuple #[.slice none 0 0, .int .i64 1]) w) := by
  rcases hn with h | h
  · go_enter Tryd.func13, Tryd.ntmps13
    go_wp2
    go_ret2
    exact Ret.mk rfl
  · have h' : ¬ n < 0 := by omega
    go_enter Tryd.func13, Tryd.ntmps13
    go_wp2
    go_ret2
    exact Ret.mk rfl
end Go.Proofs.YtbcaigpdckencaaDoor
