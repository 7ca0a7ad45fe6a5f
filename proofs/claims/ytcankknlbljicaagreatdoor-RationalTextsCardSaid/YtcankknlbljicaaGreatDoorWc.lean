/-  -/
import Derived.Test.YtcankknlbljicaaGreatDoorWb
import Derived.Lib.BitFns
import Derived.Deep.CutRange
import Derived.Deep.DeepCutAuto

set_option linter.unusedVariables false
set_option linter.unusedSimpArgs false
set_option linter.unusedSectionVars false
set_option maxRecDepth 100000
set_option maxHeartbeats 3200000

namespace Go.Proofs.YtcankknlbljicaaGreatDoor.Num
def blen (v : Nat) : Nat := if v = 0 then 0 else Nat.log2 v + 1
theorem lt_blen (v : Nat) : v < 2 ^ blen v := by
 unfold blen; split
 ·simp [*]
 ·exact Nat.lt_log2_self
theorem blen_le {v : Nat} (h : v ≠ 0) : 2 ^ (blen v - 1) ≤ v := by
 unfold blen; rw [if_neg h]; simpa using Nat.log2_self_le h
theorem blen_zero : blen 0 = 0 := rfl
theorem blen_pos {v : Nat} (h : v ≠ 0) : 0 < blen v := by unfold blen; rw [if_neg h]; omega
theorem blen_eq_zero {v : Nat} : blen v = 0 ↔ v = 0 := by
 constructor
 ·intro h; apply Classical.byContradiction; intro h2; have := blen_pos h2; omega
 ·rintro rfl; rfl
theorem blen_unique {v n : Nat} (h1 : v < 2 ^ n) (h2 : n ≠ 0 → 2 ^ (n - 1) ≤ v) : blen v = n := by
 have h3 := lt_blen v
 by_cases hn : n = 0
 ·subst hn; simp at h1; subst h1; rfl
 ·have h4 := h2 hn
  have hv : v ≠ 0 := by have := Nat.pow_pos (n := n - 1) (show 0 < 2 by omega); omega
  have h5 := blen_le hv
  have h6 := blen_pos hv
  have h7 := (Nat.pow_lt_pow_iff_right (show 1 < 2 by omega)).1 (Nat.lt_of_le_of_lt h4 h3)
  have h8 := (Nat.pow_lt_pow_iff_right (show 1 < 2 by omega)).1 (Nat.lt_of_le_of_lt h5 h1)
  omega
theorem blen_le_iff {v k : Nat} : blen v ≤ k ↔ v < 2 ^ k := by
 constructor
 ·intro h; exact Nat.lt_of_lt_of_le (lt_blen v) (Nat.pow_le_pow_right (by omega) h)
 ·intro h
  by_cases hv : v = 0
  ·subst hv; simp [blen_zero]
  ·have h1 := Nat.lt_of_le_of_lt (blen_le hv) h
   have := (Nat.pow_lt_pow_iff_right (show 1 < 2 by omega)).1 h1
   have := blen_pos hv
   omega
theorem blen_mul_add {k d r : Nat} (hr : r < 2 ^ k) (hd : d ≠ 0) : blen (r + 2 ^ k * d) = k + blen d := by
 have h1 := lt_blen d
 have h2 := blen_le hd
 have h3 := blen_pos hd
 refine blen_unique ?_ (fun _ => ?_)
 ·rw [Nat.pow_add]
  have := Nat.mul_le_mul_left (2 ^ k) (show d + 1 ≤ 2 ^ blen d from h1)
  rw [Nat.mul_add] at this; omega
 ·rw [show k + blen d - 1 = k + (blen d - 1) by omega, Nat.pow_add]
  have := Nat.mul_le_mul_left (2 ^ k) h2
  omega
theorem blen_half {v : Nat} (h : v ≠ 0) : blen v = 1 + blen (v / 2) := by
 by_cases h2 : v / 2 = 0
 ·have : v = 1 := by omega
  subst this; rfl
 ·have := blen_mul_add (k := 1) (d := v / 2) (r := v % 2) (by simp; omega) h2
  rw [show v % 2 + 2 ^ 1 * (v / 2) = v by simp; omega] at this
  exact this
theorem bitLen_eq (v : Nat) (h : v < 18446744073709551616) : Lib.bitLen v = blen v := by
 induction v using Nat.strongRecOn with
 | _ v ih =>
  by_cases hv : v = 0
  ·subst hv; rfl
  ·rw [Lib.bitLen_half v hv h, blen_half hv, ih (v / 2) (by omega) (by omega)]
theorem blen_val {xs : List Nat} (hw : wf xs) (hn : nrm xs) (hx : xs ≠ []) : blen (val xs) = (xs.length - 1) * 32 + blen (xs.getD (xs.length - 1) 0) := by
 have hl : xs.length ≠ 0 := fun h => hx (List.eq_nil_of_length_eq_zero h)
 have h0 : xs.getD (xs.length - 1) 0 ≠ 0 := by
  rcases hn with h | h
  ·exact absurd h hx
  ·exact h
 have h1 := val_take_succ (xs := xs) (k := xs.length - 1) (by omega)
 rw [show xs.length - 1 + 1 = xs.length by omega, List.take_length] at h1
 have h2 := val_take_lt hw (xs.length - 1)
 have e : 4294967296 ^ (xs.length - 1) = 2 ^ ((xs.length - 1) * 32) := by
  rw [Nat.mul_comm, Nat.pow_mul]
 rw [e] at h1 h2
 rw [h1, blen_mul_add h2 h0]
theorem pow32 (k : Nat) : 4294967296 ^ k = 2 ^ (k * 32) := by rw [Nat.mul_comm, Nat.pow_mul]
theorem blen_u32 {x : Nat} (h : x < 4294967296) : blen x ≤ 32 := blen_le_iff.2 (by simpa using h)
theorem norm_shift {ys : List Nat} {n s : Nat} (hw : wf ys) (hl : ys.length = n + 2) (hn : ys.getD (n + 1) 0 ≠ 0) (hs : s + blen (ys.getD (n + 1) 0) = 32) :
  (nd (val ys * 2 ^ s)).length = n + 2 ∧ 2147483648 ≤ (nd (val ys * 2 ^ s)).getD (n + 1) 0 ∧ 4294967296 ^ (n + 1) * 2 ^ s ≤ val ys * 2 ^ s ∧ val ys * 2 ^ s < 4294967296 ^ (n + 2) := by
 have h1 := val_take_succ (xs := ys) (k := n + 1) (by omega)
 rw [show n + 1 + 1 = ys.length by omega, List.take_length] at h1
 have h2 := val_take_lt hw (n + 1)
 obtain ⟨d, hd⟩ : ∃ d, d = ys.getD (n + 1) 0 := ⟨_, rfl⟩
 rw [← hd] at h1 hn hs
 have h3 := lt_blen d
 have h4 := blen_le hn
 have h5 := blen_pos hn
 have hP := pow_pos (n + 1)
 have hS : 0 < 2 ^ s := Nat.pow_pos (by omega)
 have e1 : 2 ^ blen d * 2 ^ s = 4294967296 := by rw [← Nat.pow_add, Nat.add_comm, hs]
 have e2 : 2 ^ (blen d - 1) * 2 ^ s = 2147483648 := by rw [← Nat.pow_add, show blen d - 1 + s = 31 by omega]
 have hlt : val ys * 2 ^ s < 4294967296 ^ (n + 2) := by
  have h6 : val ys < 4294967296 ^ (n + 1) * 2 ^ blen d := by
   have := Nat.mul_le_mul_left (4294967296 ^ (n + 1)) (show d + 1 ≤ 2 ^ blen d from h3)
   rw [Nat.mul_add] at this; omega
  have h7 := Nat.mul_lt_mul_of_pos_right h6 hS
  rw [Nat.mul_assoc, e1] at h7
  rw [show n + 2 = n + 1 + 1 by omega, Nat.pow_succ 4294967296 (n + 1)]; exact h7
 have hge : 4294967296 ^ (n + 1) * 2147483648 ≤ val ys * 2 ^ s := by
  have h6 : 4294967296 ^ (n + 1) * 2 ^ (blen d - 1) ≤ val ys := by
   have := Nat.mul_le_mul_left (4294967296 ^ (n + 1)) h4
   omega
  have h7 := Nat.mul_le_mul_right (2 ^ s) h6
  rw [Nat.mul_assoc, e2] at h7; exact h7
 have hlen : (nd (val ys * 2 ^ s)).length = n + 2 := by
  have h6 := nd_length_le hlt
  have h7 := lt_pow_nd (val ys * 2 ^ s)
  have h8 : 4294967296 ^ (n + 1) < 4294967296 ^ (nd (val ys * 2 ^ s)).length := by
   have : 4294967296 ^ (n + 1) * 1 ≤ 4294967296 ^ (n + 1) * 2147483648 := Nat.mul_le_mul_left _ (by omega)
   omega
  have := (Nat.pow_lt_pow_iff_right (by omega : 1 < 4294967296)).1 h8
  omega
 refine ⟨hlen, ?_, ?_, hlt⟩
 ·have h6 := val_take_succ (xs := nd (val ys * 2 ^ s)) (k := n + 1) (by omega)
  rw [show n + 1 + 1 = (nd (val ys * 2 ^ s)).length by omega, List.take_length, val_nd] at h6
  have h7 := val_take_lt (wf_nd (val ys * 2 ^ s)) (n + 1)
  apply Classical.byContradiction
  intro hc
  have h8 := Nat.mul_le_mul_left (4294967296 ^ (n + 1)) (show (nd (val ys * 2 ^ s)).getD (n + 1) 0 + 1 ≤ 2147483648 by omega)
  rw [Nat.mul_add] at h8
  omega
 ·refine Nat.mul_le_mul_right _ ?_
  have := Nat.mul_le_mul_left (4294967296 ^ (n + 1)) (show 1 ≤ d by omega)
  omega
end Go.Proofs.YtcankknlbljicaaGreatDoor.Num

namespace Go.Proofs.YtcankknlbljicaaGreatDoor
open Go.RowKit Num

theorem foldTab : (⟨(([0, 1, 2, 2, 3, 3, 3, 3, 4, 4, 4, 4, 4, 4, 4, 4, 5, 5, 5, 5, 5, 5, 5, 5, 5, 5, 5, 5, 5, 5, 5, 5, 6, 6, 6, 6, 6, 6, 6, 6, 6, 6, 6, 6, 6, 6, 6, 6, 6, 6, 6, 6, 6, 6, 6, 6, 6, 6, 6, 6, 6, 6, 6, 6].append [7, 7, 7, 7, 7, 7, 7, 7, 7, 7, 7, 7, 7, 7, 7, 7, 7, 7, 7, 7, 7, 7, 7, 7, 7, 7, 7, 7, 7, 7, 7, 7, 7, 7, 7, 7, 7, 7, 7, 7, 7, 7, 7, 7, 7, 7, 7, 7, 7, 7, 7, 7, 7, 7, 7, 7, 7, 7, 7, 7, 7, 7, 7, 7]).append ([8, 8, 8, 8, 8, 8, 8, 8, 8, 8, 8, 8, 8, 8, 8, 8, 8, 8, 8, 8, 8, 8, 8, 8, 8, 8, 8, 8, 8, 8, 8, 8, 8, 8, 8, 8, 8, 8, 8, 8, 8, 8, 8, 8, 8, 8, 8, 8, 8, 8, 8, 8, 8, 8, 8, 8, 8, 8, 8, 8, 8, 8, 8, 8].append [8, 8, 8, 8, 8, 8, 8, 8, 8, 8, 8, 8, 8, 8, 8, 8, 8, 8, 8, 8, 8, 8, 8, 8, 8, 8, 8, 8, 8, 8, 8, 8, 8, 8, 8, 8, 8, 8, 8, 8, 8, 8, 8, 8, 8, 8, 8, 8, 8, 8, 8, 8, 8, 8, 8, 8, 8, 8, 8, 8, 8, 8, 8, 8])).toArray⟩ : ByteArray) = Lib.len8tab := by rfl


theorem idxTab (i : Int) (h0 : 0 ≤ i) (h1 : i ≤ 255) : ∃ l : Nat, l = blen i.toNat ∧ l ≤ 8 ∧ ∀ w, (Instr.index 9 (.string Lib.len8tab) (.int .u8 i)).run Tryz.prog w = .ok (.int .u8 (l : Int)) w := by
 refine ⟨blen i.toNat, rfl, blen_le_iff.2 (by simp; omega), fun w => ?_⟩
 rw [Lib.run_index_len8tab w _ _ _ Tryz.underlying9 h0 h1, Lib.len8_of i h0 h1, bitLen_eq _ (by omega)]
theorem len32_0 (x : Int) (w : World) (h0 : 0 ≤ x) (hx : x < 4294967296) (c0 : 65536 ≤ x) (c1 : 256 ≤ x / 65536) : Calls Tryz.prog 196 #[.int .u32 x] w (Ret (.int .i64 (blen x.toNat : Int)) w) := by
 obtain ⟨l, hl, hl8, hi⟩ := idxTab (x / 65536 / 256) (by omega) (by omega)
 have HB := hid (show 24 + l = blen x.toNat from by
  rw [hl]
  have := blen_mul_add (k := 24) (d := x.toNat / 16777216) (r := x.toNat % 16777216) (by simp; omega) (by omega)
  rw [show x.toNat % 16777216 + 2 ^ 24 * (x.toNat / 16777216) = x.toNat by simp; omega] at this
  rw [this]
  first | rfl | (congr 2; omega))
 clear hl
 go_enter Tryz.func196, Tryz.ntmps196
 rw [foldTab]
 go_wp2
 go_ret
 refine Ret.mk ?_
 rw [← HB.out]
 first | rfl | (simp; done) | (simp; omega)
theorem len32_1 (x : Int) (w : World) (h0 : 0 ≤ x) (hx : x < 4294967296) (c0 : 65536 ≤ x) (c1 : x / 65536 < 256) : Calls Tryz.prog 196 #[.int .u32 x] w (Ret (.int .i64 (blen x.toNat : Int)) w) := by
 obtain ⟨l, hl, hl8, hi⟩ := idxTab (x / 65536) (by omega) (by omega)
 have HB := hid (show 16 + l = blen x.toNat from by
  rw [hl]
  have := blen_mul_add (k := 16) (d := x.toNat / 65536) (r := x.toNat % 65536) (by simp; omega) (by omega)
  rw [show x.toNat % 65536 + 2 ^ 16 * (x.toNat / 65536) = x.toNat by simp; omega] at this
  rw [this]
  first | rfl | (congr 2; omega))
 clear hl
 go_enter Tryz.func196, Tryz.ntmps196
 rw [foldTab]
 go_wp2
 go_ret
 refine Ret.mk ?_
 rw [← HB.out]
 first | rfl | (simp; done) | (simp; omega)
theorem len32_2 (x : Int) (w : World) (h0 : 0 ≤ x) (hx : x < 4294967296) (c0 : x < 65536) (c1 : 256 ≤ x) : Calls Tryz.prog 196 #[.int .u32 x] w (Ret (.int .i64 (blen x.toNat : Int)) w) := by
 obtain ⟨l, hl, hl8, hi⟩ := idxTab (x / 256) (by omega) (by omega)
 have HB := hid (show 8 + l = blen x.toNat from by
  rw [hl]
  have := blen_mul_add (k := 8) (d := x.toNat / 256) (r := x.toNat % 256) (by simp; omega) (by omega)
  rw [show x.toNat % 256 + 2 ^ 8 * (x.toNat / 256) = x.toNat by simp; omega] at this
  rw [this]
  first | rfl | (congr 2; omega))
 clear hl
 go_enter Tryz.func196, Tryz.ntmps196
 rw [foldTab]
 go_wp2
 go_ret
 refine Ret.mk ?_
 rw [← HB.out]
 first | rfl | (simp; done) | (simp; omega)
theorem len32_3 (x : Int) (w : World) (h0 : 0 ≤ x) (hx : x < 4294967296) (c0 : x < 65536) (c1 : x < 256) : Calls Tryz.prog 196 #[.int .u32 x] w (Ret (.int .i64 (blen x.toNat : Int)) w) := by
 obtain ⟨l, hl, hl8, hi⟩ := idxTab (x) (by omega) (by omega)
 have HB := hid (show 0 + l = blen x.toNat from by
  rw [hl]
  simp)
 clear hl
 go_enter Tryz.func196, Tryz.ntmps196
 rw [foldTab]
 go_wp2
 go_ret
 refine Ret.mk ?_
 rw [← HB.out]
 first | rfl | (simp; done) | (simp; omega)

theorem len32_any (x : Nat) (w : World) (hx : x < 4294967296) : Calls Tryz.prog 196 #[.int .u32 (x : Int)] w (Ret (.int .i64 (blen x : Int)) w) := by
 have e : ((x : Int)).toNat = x := Int.toNat_natCast x
 rw [← e, e]
 by_cases h1 : 65536 ≤ (x : Int)
 ·by_cases h2 : 256 ≤ (x : Int) / 65536
  ·exact len32_0 _ w (by omega) (by omega) h1 h2
  ·exact len32_1 _ w (by omega) (by omega) h1 (by omega)
 ·by_cases h2 : 256 ≤ (x : Int)
  ·exact len32_2 _ w (by omega) (by omega) (by omega) h2
  ·exact len32_3 _ w (by omega) (by omega) (by omega) (by omega)


theorem lz32_any (x : Nat) (w : World) (hx : x < 4294967296) : Calls Tryz.prog 244 #[.int .u32 (x : Int)] w (Ret (.int .i64 (32 - (blen x : Int))) w) := by
 have hc := fun w => len32_any x w hx
 have hl := blen_u32 hx
 go_enter Tryz.func244, Tryz.ntmps244
 go_wp2_with (go_at_call 196; refine (hc _).mono ?_; rintro e w' ⟨rfl, rfl⟩)
 go_ret
 exact Ret.mk rfl

theorem bitlen_any (ao : Option Addr) (c : Nat) (xs : List Nat) (w : World) (h : Rd w ao c xs) (hl : xs.length ≤ 17592186044416) :
  Calls Tryz.prog 147 #[.slice ao xs.length c] w (Ret (.int .i64 (blen (val xs) : Int)) w) := by
 have hcut := cut_any ao c xs w h
 have hlen := nd_length_le_of h.dg
 have hr := h.cutND
 have hcm := h.cm
 have hle := h.le
 obtain ⟨us, hus⟩ : ∃ us, us = nd (val xs) := ⟨_, rfl⟩
 have hv : val us = val xs := by rw [hus, val_nd]
 have hn : nrm us := by rw [hus]; exact nrm_nd _
 rw [← hus] at hcut hlen hr
 rw [← hv]
 clear hv hus h
 by_cases h0 : us.length = 0
 ·have hu : us = [] := List.eq_nil_of_length_eq_zero h0
  subst hu
  have hb : ((([] : List Nat).length : Int) == 0) = true := by simp
  go_enter Tryz.func147, Tryz.ntmps147
  go_wp2_with (go_at_call 157; refine hcut.mono ?_; rintro e w' ⟨rfl, rfl⟩)
  go_ret
  exact Ret.mk rfl
 ·rcases hr.lies with h1 | ⟨b, off, rfl, hcell⟩
  ·simp [h1] at h0
  ·have hb : ((us.length : Int) == 0) = false := beq_eq_false_iff_ne.2 (by omega)
   obtain ⟨d, hd⟩ : ∃ d, d = us.getD (us.length - 1) 0 := ⟨_, rfl⟩
   have hc := hcell (us.length - 1) (by omega)
   have hbl := blen_val hr.dg hn (by intro h; simp [h] at h0)
   rw [← hd] at hc hbl
   have hdl : d < 4294967296 := by rw [hd]; exact wf_getD hr.dg _
   have hc32 := fun w => len32_any d w hdl
   have hd32 := blen_u32 hdl
   have HBL := hid hbl
   clear hd hcell hr hn hbl
   go_enter Tryz.func147, Tryz.ntmps147
   go_wp2_with (first | (go_at_call 157; refine hcut.mono ?_; rintro e w' ⟨rfl, rfl⟩) | (go_at_call 196; refine (hc32 _).mono ?_; rintro e w' ⟨rfl, rfl⟩))
   go_ret
   refine Ret.mk ?_
   rw [HBL.out]
   exact int_eq (by omega)
end Go.Proofs.YtcankknlbljicaaGreatDoor
