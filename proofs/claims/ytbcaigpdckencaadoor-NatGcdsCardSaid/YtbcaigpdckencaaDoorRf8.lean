/- Walks: the reference's Pow, Root. -/
import Derived.Test.YtbcaigpdckencaaDoorRf7
import Derived.Test.YtbcaigpdckencaaDoorAwk
namespace Go.Proofs.YtbcaigpdckencaaDoor
open Go.RowKit Num

theorem nd_one1 : nd 1 = [1] := nd_lit (wf_one (by omega)) (Or.inr (by simp)) (by simp [val])

/-- a list and no error -/
def RetNum (v : Nat) (w : World) (e : Ending) (w' : World) : Prop :=
  ∃ ao c, e = .returned (.tuple #[.slice ao (nd v).length c, .int .i64 0]) ∧ Own w.heap.size w' ao c (nd v) ∧ Below w.heap.size w w'

set_option maxRecDepth 100000 in
set_option maxHeartbeats 800000 in
theorem rpow_any (ao : Option Addr) (c n : Nat) (xs : List Nat) (w : World) (h : Rd w ao c xs) (hl : xs.length ≤ 34359738368) (hn : n ≤ 64) :
    Calls Tryd.prog 14 #[.slice ao xs.length c, .int .i64 (n : Int)] w (RetNum (val xs ^ n) w) := by
  have hax := h.le
  have hax2 := h.cm
  have hlenp : ∀ e, e ≤ 64 → (nd (val xs ^ e)).length ≤ 2199023255553 := by
    intro e he
    obtain ⟨E, hE⟩ : ∃ E : Nat, E = 2199023255553 := ⟨_, rfl⟩
    rw [← hE]
    refine nd_length_le ?_
    have h1 := Nat.pow_le_pow_left (Nat.le_of_lt (val_lt h.dg)) e
    rw [← Nat.pow_mul] at h1
    refine Nat.lt_of_le_of_lt h1 (Nat.pow_lt_pow_right (by omega) ?_)
    have := Nat.mul_le_mul hl he
    omega
  have HLEN := hid hlenp
  have h1 := hid nd_one1
  obtain ⟨v, hv⟩ : ∃ v, v = val xs := ⟨_, rfl⟩
  rw [← hv]
  have HV := hid hv
  clear hlenp hv
  go_enter Tryd.func14, Tryd.ntmps14
  go_wp2
  have hone := Own.one w w.heap.size 1 (Nat.le_refl _) (by omega)
  have hba := below_alloc w (.cells #[.int .u32 ((1 : Nat) : Int)] 61)
  go_loopw [1, 6] (fun nv ov wr => ∃ (i : Nat) (a3 : Option Addr) (c3 : Nat), i ≤ n ∧ nv = .int .i64 ((n : Int) - (i : Int)) ∧ ov = .slice a3 (nd (v ^ i)).length c3 ∧ Own w.heap.size wr a3 c3 (nd (v ^ i)) ∧ Below w.heap.size w wr) (fun nv _ _ => (intOf nv).toNat)
  case atStart =>
    refine ⟨0, some ⟨w.heap.size, 0, none⟩, 1, Nat.zero_le _, int_eq (by omega), ?_, ?_, hba⟩
    · rw [Nat.pow_zero, h1.out]; rfl
    · rw [Nat.pow_zero, h1.out]; exact hone
  case round =>
    obtain ⟨i, a3, c3, hi, rfl, rfl, hown, hbel⟩ := hrel
    by_cases hlt : i < n
    · have hmul := rmul_any a3 ao c3 c (nd (v ^ i)) xs wr hown.rd (h.below hbel) (by have := HLEN.out i (by omega); rw [← HV.out] at this; omega) (by omega)
      rw [val_nd, ← HV.out, ← Nat.pow_succ] at hmul
      have hpos : (n : Int) - (i : Int) > 0 := by omega
      clear hown hone hba
      go_wp2_with fail
      refine hmul.mono ?_
      rintro e w3 ⟨a4, c4, rfl, ho4, hb4⟩
      have hb5 := hbel.trans (hb4.mono hbel.size)
      have ho5 := ho4.mono hbel.size
      have H5 := hid (And.intro ho5 hb5)
      clear ho4 hb4 hbel hmul ho5 hb5
      go_wp2
      refine ⟨⟨i + 1, a4, c4, by omega, int_eq (by omega), rfl, H5.out⟩, by simp [intOf]; omega⟩
    · obtain rfl : i = n := by omega
      clear hone hba
      go_wp2
      go_ret2
      exact ⟨a3, c3, rfl, hown, hbel⟩
theorem rpow_err (v : Value) (n : Int) (w : World) (hn : n < 0 ∨ 64 < n) :
    Calls Tryd.prog 14 #[v, .int .i64 n] w (Ret (.tuple #[.slice none 0 0, .int .i64 1]) w) := by
  rcases hn with h | h
  · go_enter Tryd.func14, Tryd.ntmps14
    go_wp2
    go_ret2
    exact ⟨rfl, rfl⟩
  · go_enter Tryd.func14, Tryd.ntmps14
    go_wp2
    go_ret2
    exact ⟨rfl, rfl⟩
end Go.Proofs.YtbcaigpdckencaaDoor
