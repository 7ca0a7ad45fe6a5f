/- Walks: the reference's Root. -/
import Derived.Test.YtbcaigpdckencaaDoorRf8
import Derived.Test.YtbcaigpdckencaaDoorLen
namespace Go.Proofs.YtbcaigpdckencaaDoor
open Go.RowKit Num

theorem two_len (i : Nat) : (nd (2 ^ i)).length ≤ i / 32 + 1 := by
  refine nd_length_le ?_
  rw [show (4294967296 : Nat) = 2 ^ 32 from rfl, ← Nat.pow_mul]
  exact Nat.pow_lt_pow_right (by omega) (by omega)
theorem root_start {a n : Nat} (hn : 1 ≤ n) : 0 ^ n ≤ a ∧ a < (0 + 2 ^ (blen a / n + 1)) ^ n := by
  refine ⟨by rw [Nat.zero_pow (by omega)]; exact Nat.zero_le _, ?_⟩
  rw [Nat.zero_add, ← Nat.pow_mul]
  refine Nat.lt_of_lt_of_le (blen_le_iff.1 (Nat.le_refl (blen a))) (Nat.pow_le_pow_right (by omega) ?_)
  have h1 := Nat.div_add_mod (blen a) n
  have h2 := Nat.mod_lt (blen a) (show n > 0 by omega)
  rw [Nat.mul_comm, Nat.mul_add, Nat.mul_one]
  omega
theorem pow_len {v j n : Nat} (hn : 1 ≤ n) (h : (nd v).length ≤ j) : (nd (v ^ n)).length ≤ j * n := by
  refine nd_length_le ?_
  rw [Nat.pow_mul]
  exact Nat.pow_lt_pow_left (val_nd v ▸ val_lt_of (wf_nd v) h) (by omega)
theorem cmp_gt {a b : Nat} (h : b < a) : 0 < cmpN a b := by unfold cmpN; split <;> (try split) <;> omega

/-- a root and no error -/
def RetRootR (n a : Nat) (w : World) (e : Ending) (w' : World) : Prop :=
  ∃ r ao c, isRoot n a r ∧ e = .returned (.tuple #[.slice ao (nd r).length c, .int .i64 0]) ∧ Own w.heap.size w' ao c (nd r) ∧ Below w.heap.size w w'

set_option maxRecDepth 100000 in
set_option maxHeartbeats 1600000 in
theorem rroot_any (ao : Option Addr) (c n : Nat) (xs : List Nat) (w : World) (h : Rd w ao c xs) (hl : xs.length ≤ 2048) (hn : 1 ≤ n) (hn2 : n ≤ 64) :
    Calls Tryd.prog 16 #[.slice ao xs.length c, .int .i64 (n : Int)] w (RetRootR n (val xs) w) := by
  have hax := h.le
  have hax2 := h.cm
  have hbl := rbitlen_any ao c xs w h (by omega)
  have hb65 : blen (val xs) ≤ 65536 := by
    refine blen_le_iff.2 ?_
    obtain ⟨E, hE⟩ : ∃ E : Nat, E = 65536 := ⟨_, rfl⟩
    rw [← hE]
    have h1 := val_lt h.dg
    rw [show (4294967296 : Nat) = 2 ^ 32 from rfl, ← Nat.pow_mul] at h1
    exact Nat.lt_of_lt_of_le h1 (Nat.pow_le_pow_right (by omega) (by omega))
  have hst := root_start (a := val xs) hn
  obtain ⟨b, hb⟩ : ∃ b, b = blen (val xs) := ⟨_, rfl⟩
  rw [← hb] at hbl hb65 hst
  obtain ⟨K, hK⟩ : ∃ K, K = b / n := ⟨_, rfl⟩
  rw [← hK] at hst
  have hK65 : K ≤ 65536 := by rw [hK]; exact Nat.le_trans (Nat.div_le_self _ _) hb65
  have hKi : (b : Int) / (n : Int) = (K : Int) := by rw [hK]; simp
  have HST := hid hst
  have hlx := nd_length_le_of h.dg
  clear hb hK hst
  go_enter Tryd.func16, Tryd.ntmps16
  go_wp2_with fail
  refine hbl.mono ?_
  rintro e w1 ⟨rfl, hb1⟩
  clear hbl
  go_wp2_with fail
  go_loopw [6, 7] (fun ov iv wr => ∃ (k r : Nat) (a3 : Option Addr) (c3 : Nat), k ≤ K + 1 ∧ ov = .slice a3 (nd r).length c3 ∧ iv = .int .i64 ((k : Int) - 1) ∧ Hid (r ^ n ≤ val xs ∧ val xs < (r + 2 ^ k) ^ n) ∧ Own w.heap.size wr a3 c3 (nd r) ∧ Below w.heap.size w wr) (fun _ iv _ => (intOf iv + 1).toNat)
  case atStart => exact ⟨K + 1, 0, none, 0, Nat.le_refl _, by rw [nd_zero]; rfl, int_eq (by omega), HST.out, by rw [nd_zero]; exact Own.nil _ _, hb1⟩
  case round =>
    obtain ⟨k, r, a3, c3, hk, rfl, rfl, HR, hown, hbel⟩ := hrel
    by_cases hk0 : k = 0
    · subst hk0
      go_wp2
      go_ret2
      have hr := HR.out
      rw [Nat.pow_zero] at hr
      exact ⟨r, a3, c3, hr, rfl, hown, hbel⟩
    · obtain ⟨i, rfl⟩ : ∃ i, k = i + 1 := ⟨k - 1, by omega⟩
      have hrl : r ≤ val xs := Nat.le_trans (by
        cases r with
        | zero => exact Nat.zero_le _
        | succ r => exact Nat.le_trans (by simp) (Nat.pow_le_pow_right (by omega) hn : (r + 1) ^ 1 ≤ (r + 1) ^ n)) HR.out.1
      have lr : (nd r).length ≤ 2048 := Nat.le_trans (nd_length_mono hrl) (by omega)
      have li := two_len i
      have lt := len_add lr li
      have hone : Own wr.heap.size (wr.alloc (.cells #[.int .u32 1] 61)) (some ⟨wr.heap.size, 0, none⟩) 1 [1] := Own.one wr wr.heap.size 1 (Nat.le_refl _) (by omega)
      have hba := below_alloc wr (.cells #[.int .u32 1] 61)
      have hsh := rshift_any (some ⟨wr.heap.size, 0, none⟩) 1 (i : Int) [1] _ hone.rd (by simp) (by omega) (by omega)
      rw [show shiftN (val [1]) (i : Int) = 2 ^ i by rw [shiftN, if_neg (by omega), if_pos (by omega)]; simp [val]] at hsh
      have hown1 := hown.below hba
      have hbel1 := hbel.trans (hba.mono hbel.size)
      clear hone hba hown hbel hrl
      go_wp2_with fail
      refine hsh.mono ?_
      rintro e w2 ⟨a4, c4, rfl, hs2, hb2⟩
      have hown2 := hown1.below hb2
      have hbel2 := hbel1.trans (hb2.mono hbel1.size)
      have hadd := radd_any a3 a4 c3 c4 (nd r) (nd (2 ^ i)) w2 hown2.rd hs2.rd (by omega) (by omega)
      rw [val_nd, val_nd] at hadd
      clear hsh hown1 hbel1 hb2
      go_wp2_with fail
      refine hadd.mono ?_
      rintro e w3 ⟨a5, c5, rfl, ht3, hb3⟩
      have hown3 := hown2.below hb3
      have hbel3 := hbel2.trans (hb3.mono hbel2.size)
      have ht3' := ht3.mono hbel2.size
      obtain ⟨s, hs⟩ : ∃ s, s = r + 2 ^ i := ⟨_, rfl⟩
      rw [← hs] at ht3' ht3 lt ⊢
      have hpow := rpow_any a5 c5 n (nd s) w3 ht3.rd (by omega) hn2
      rw [val_nd] at hpow
      have hpl := pow_len hn lt
      have hpl2 := Nat.mul_le_mul (show 2048 + (i / 32 + 1) + 1 ≤ 5000 by omega) hn2
      have HS := hid hs
      clear hadd hown2 hbel2 hb3 hs2 ht3 hs
      go_wp2_with fail
      refine hpow.mono ?_
      rintro e w4 ⟨a6, c6, rfl, hp4, hb4⟩
      have hown4 := hown3.below hb4
      have ht4 := ht3'.below hb4
      have hbel4 := hbel3.trans (hb4.mono hbel3.size)
      have hcmp := rcompare_any a6 ao c6 c (nd (s ^ n)) xs w4 hp4.rd (h.below hbel4) (by omega) (by omega)
      rw [val_nd] at hcmp
      obtain ⟨v, hv⟩ : ∃ v, v = cmpN (s ^ n) (val xs) := ⟨_, rfl⟩
      rw [← hv] at hcmp
      by_cases hle : s ^ n ≤ val xs
      · have hv0 : v ≤ 0 := by rw [hv]; exact cmp_le hle
        have HLE := hid hle
        clear hpow hown3 hbel3 hb4 ht3' hv hle
        go_wp2_with fail
        refine hcmp.mono ?_
        rintro e w5 ⟨rfl, hb5⟩
        have H5 := hid (And.intro (ht4.below hb5) (hbel4.trans (hb5.mono hbel4.size)))
        clear hown4 ht4 hbel4 hb5 hcmp
        go_wp2
        refine ⟨⟨i, s, a5, c5, by omega, rfl, int_eq (by omega), ⟨HLE.out, ?_⟩, H5.out⟩, by simp [intOf]⟩
        have := HR.out.2
        rw [Nat.pow_succ, Nat.mul_two, ← Nat.add_assoc, ← HS.out] at this
        exact this
      · have hv0 : ¬ v ≤ 0 := by have := cmp_gt (show val xs < s ^ n by omega); omega
        have HLE := hid (show val xs < s ^ n by omega)
        clear hpow hown3 hbel3 hb4 ht3' hv hle
        go_wp2_with fail
        refine hcmp.mono ?_
        rintro e w5 ⟨rfl, hb5⟩
        have H5 := hid (And.intro (hown4.below hb5) (hbel4.trans (hb5.mono hbel4.size)))
        clear hown4 ht4 hbel4 hb5 hcmp
        go_wp2
        refine ⟨⟨i, r, a3, c3, by omega, rfl, int_eq (by omega), ⟨HR.out.1, ?_⟩, H5.out⟩, by simp [intOf]⟩
        rw [← HS.out]; exact HLE.out
theorem rroot_err (v : Value) (n : Int) (w : World) (hn : n < 1 ∨ 64 < n) :
    Calls Tryd.prog 16 #[v, .int .i64 n] w (Ret (.tuple #[.slice none 0 0, .int .i64 1]) w) := by
  rcases hn with h | h
  · go_enter Tryd.func16, Tryd.ntmps16
    go_wp2
    go_ret2
    exact ⟨rfl, rfl⟩
  · have h' : ¬ n < 1 := by omega
    go_enter Tryd.func16, Tryd.ntmps16
    go_wp2
    go_ret2
    exact ⟨rfl, rfl⟩
end Go.Proofs.YtbcaigpdckencaaDoor
