/- Integers: Small at an integer of 64 bits in its canonical form. -/
import Derived.Test.YtbcaigpdckencaaDoorIn7
namespace Go.Proofs.YtbcaigpdckencaaDoor
open Go.RowKit Num

theorem or_join (k S x t : Nat) (hk : k ≤ 1) (hS : S < 4294967296 ^ k) (hx : x < 4294967296) (ht : t = S + x * 4294967296 ^ k) :
    bits BinOp.or IntKind.u64 (S : Int) ((x * 4294967296 ^ k : Nat) : Int) = (t : Int) ∧ t < 18446744073709551616 := by
  rcases (by omega : k = 0 ∨ k = 1) with rfl | rfl
  · simp only [Nat.pow_zero, Nat.mul_one] at hS ht ⊢
    have h := or_low 0 S x (by omega) (Nat.mod_one _) (by omega) (by omega)
    rw [h, ht]; exact ⟨rfl, by omega⟩
  · simp only [Nat.pow_one] at hS ht ⊢
    have h := or_low 32 S (x * 4294967296) (by omega) (Nat.mul_mod_left _ _) (by omega) (by omega)
    rw [h, ht]; exact ⟨rfl, by omega⟩

set_option maxRecDepth 100000 in
set_option maxHeartbeats 1600000 in
theorem Small_any (n : Int) (ao : Option Addr) (c : Nat) (w : World) (h : Rd w ao c (nd n.natAbs)) (h1 : -9223372036854775808 ≤ n) (h2 : n ≤ 9223372036854775807) :
    Calls Tryd.prog 42 #[.agg #[.bool (decide (n < 0)), .slice ao (nd n.natAbs).length c]] w fun e w' => e = .returned (.tuple #[.int .i64 n, .bool true]) ∧ Below w.heap.size w w' := by
  obtain ⟨b, hb⟩ : ∃ b, b = decide (n < 0) := ⟨_, rfl⟩
  obtain ⟨m, hm⟩ : ∃ m, m = n.natAbs := ⟨_, rfl⟩
  rw [← hb, ← hm]
  rw [← hm] at h
  have hml : m ≤ 9223372036854775808 := by omega
  have hlen : (nd m).length ≤ 2 := nd_length_le (by rw [show (4294967296 : Nat) ^ 2 = 18446744073709551616 from rfl]; omega)
  obtain ⟨ds, hds⟩ : ∃ ds, ds = nd m := ⟨_, rfl⟩
  have hvd : val ds = m := by rw [hds, val_nd]
  rw [← hds] at h hlen ⊢
  have hle := h.le
  have hcm := h.cm
  have hdw := h.dg
  have hba := below_alloc w (.cells #[.bool b, .slice ao ds.length c] 43)
  have hrd := h.below hba
  have hbl := bitlen_any ao c ds _ hrd (by omega)
  rw [hvd] at hbl
  have hb64 : blen m ≤ 64 := blen_u64 (by omega)
  obtain ⟨B, hB⟩ : ∃ B, B = blen m := ⟨_, rfl⟩
  rw [← hB] at hbl hb64
  have HA := hid hba
  have HV := hid hvd
  have HN := hid (And.intro hb hm)
  clear hb hm hds hvd hB h
  go_enter Tryd.func42, Tryd.ntmps42
  go_wp2_with fail
  refine hbl.mono ?_
  rintro e w' ⟨rfl, rfl⟩
  have hx1 := heap_alloc_at w (.cells #[.bool b, .slice ao ds.length c] 43)
  obtain ⟨s0, s1, _, _⟩ := pair_cells (W := w.alloc (.cells #[.bool b, .slice ao ds.length c] 43)) hx1 (Below.refl _ _)
  clear hbl hba hx1
  generalize w.alloc (.cells #[.bool b, .slice ao ds.length c] 43) = w1 at HA hrd s0 s1 ⊢
  have hb64' : ¬ (64 < (B : Int)) := by omega
  go_wp2_with fail
  go_loopw [4, 14] (fun sv kv wr => ∃ (k S : Nat) (K : Int), k ≤ ds.length ∧ kv = .int .i64 K ∧ Hid (K = (k : Int)) ∧ sv = .int .u64 (S : Int) ∧ S < 18446744073709551616 ∧ Hid (S = val (ds.take k)) ∧ wr = w1) (fun _ kv _ => ds.length - (intOf kv).toNat)
  case atStart => exact ⟨0, 0, 0, Nat.zero_le _, rfl, rfl, rfl, by omega, by simp [Hid, val], rfl⟩
  case round =>
    obtain ⟨k, S, K, hk, rfl, HK, rfl, hSl, HS, rfl⟩ := hrel
    by_cases hlt : k < ds.length
    · rcases hrd.lies with h9 | ⟨b1, o1, rfl, hc1⟩
      · simp [h9] at hlt
      have g1 := hc1 k hlt
      obtain ⟨x, hx⟩ : ∃ x, x = ds.getD k 0 := ⟨_, rfl⟩
      rw [← hx] at g1
      have hxl : x < 4294967296 := by rw [hx]; exact wf_getD hdw k
      have hSk : S < 4294967296 ^ k := by rw [HS.out]; exact val_take_lt hdw k
      obtain ⟨t, ht⟩ : ∃ t, t = S + x * 4294967296 ^ k := ⟨_, rfl⟩
      have hor := or_join k S x t (by omega) hSk hxl ht
      have HT := hid (show t = val (ds.take (k + 1)) by rw [val_take_getD, ← hx, ← HS.out, ht, Nat.mul_comm])
      clear hc1 hx ht
      rcases (by omega : k = 0 ∨ k = 1) with hk0 | hk0
      · obtain rfl : K = 0 := by have := HK.out; omega
        subst hk0
        simp only [Nat.pow_zero, Nat.mul_one] at hor
        rw [Nat.add_zero] at g1
        obtain ⟨hor1, hor2⟩ := hor
        have hki : (0 : Int) < (ds.length : Int) := by omega
        clear HK hk
        go_wp2
        exact ⟨⟨1, t, 1, by omega, rfl, rfl, rfl, hor2, HT.out, trivial⟩, by simp [intOf]; omega⟩
      · obtain rfl : K = 1 := by have := HK.out; omega
        subst hk0
        simp only [Nat.pow_one] at hor
        obtain ⟨hor1, hor2⟩ := hor
        have hki : (1 : Int) < (ds.length : Int) := by omega
        clear HK hk
        go_wp2
        exact ⟨⟨2, t, 2, by omega, rfl, rfl, int_eq (by simpa using hor1), hor2, HT.out, trivial⟩, by simp [intOf]; omega⟩
    · obtain rfl : k = ds.length := by omega
      obtain rfl : K = (ds.length : Int) := HK.out
      have hS : S = m := by rw [HS.out, List.take_length, HV.out]
      subst hS
      have hke : ¬ ((ds.length : Int) < (ds.length : Int)) := by omega
      obtain ⟨Z, hZ⟩ : ∃ Z : Int, Z = (S : Int) := ⟨_, rfl⟩
      have hn := HN.out
      rw [← hZ]
      have hZ0 : 0 ≤ Z := by omega
      have hZ1 : Z ≤ 9223372036854775808 := by omega
      cases b
      · have hnn : 0 ≤ n := by have := of_decide_eq_false hn.1.symm; omega
        have hle2 : Z ≤ 9223372036854775807 := by omega
        obtain rfl : n = Z := by omega
        clear hn HN hZ
        go_wp2
        go_ret2
        exact ⟨rfl, HA.out⟩
      · have hnn : n < 0 := of_decide_eq_true hn.1.symm
        by_cases hmin : Z = 9223372036854775808
        · obtain rfl : n = -9223372036854775808 := by omega
          subst hmin
          clear hn HN hZ
          go_wp2
          go_ret2
          exact ⟨rfl, HA.out⟩
        · have hle2 : Z ≤ 9223372036854775807 := by omega
          obtain rfl : n = -Z := by omega
          clear hn HN hZ hmin
          go_wp2
          go_ret2
          exact ⟨rfl, HA.out⟩
end Go.Proofs.YtbcaigpdckencaaDoor
