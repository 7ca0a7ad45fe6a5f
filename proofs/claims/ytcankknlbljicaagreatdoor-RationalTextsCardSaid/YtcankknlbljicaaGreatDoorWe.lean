/-  -/
import Derived.Test.YtcankknlbljicaaGreatDoorWd
import Derived.Test.YtcankknlbljicaaGreatDoorWc

set_option linter.unusedVariables false
set_option linter.unusedSimpArgs false
set_option linter.unusedSectionVars false
set_option maxRecDepth 100000
set_option maxHeartbeats 3200000

namespace Go.Proofs.YtcankknlbljicaaGreatDoor
open Go.RowKit Num

theorem mul_u32 {x y : Nat} (hx : x < 4294967296) (hy : y < 4294967296) : x * y ≤ 18446744065119617025 := by
 have := Nat.mul_le_mul (show x ≤ 4294967295 by omega) (show y ≤ 4294967295 by omega)
 omega

def RetSplit (ao : Option Addr) (c n : Nat) (xs : List Nat) (w : World) (e : Ending) (w' : World) : Prop :=
 ∃ ah ch lo, e = .returned (.tuple #[.slice ao lo.length c, .slice ah (xs.drop n).length ch]) ∧ Rd w' ao c lo ∧ val lo = val (xs.take n) ∧ lo.length ≤ n ∧ lo.length ≤ xs.length ∧ Rd w' ah ch (xs.drop n) ∧ Below w.heap.size w w'
def PutOwn (B g c : Nat) (zs : List Nat) (w : World) (e : Ending) (w' : World) : Prop := e = .returned (.tuple #[]) ∧ Own B w' (some ⟨g, 0, none⟩) c zs ∧ ∃ o ys, Hid (w' = wput w g o ys)
theorem Own.inplace {B : Nat} {w : World} {ao : Option Addr} {c : Nat} {zs : List Nat} (h : Own B w ao c zs) (hB : B ≤ w.heap.size) :
  ∃ g, (zs ≠ [] → ao = some ⟨g, 0, none⟩) ∧ B ≤ g ∧ Wr w g 0 zs ∧ ∀ ys, ys.length = zs.length → wf ys → Own B (wput w g 0 ys) ao c ys := by
 rcases h.cases with ⟨h1, h2, h3⟩ | ⟨g, cur, h1, h2, h3⟩
 ·subst h1 h2 h3
  exact ⟨w.heap.size, fun h => absurd rfl h, hB, fun i hi => by simp at hi, fun ys hl _ => by
   obtain rfl : ys = [] := List.eq_nil_of_length_eq_zero (by simpa using hl)
   exact Own.nil _ _⟩
 ·subst h1
  exact ⟨g, fun _ => rfl, h2, h.wr, fun ys hl hw => h.put hl hw⟩
def PutOwn' (B : Nat) (ao : Option Addr) (c : Nat) (zs : List Nat) (w : World) (e : Ending) (w' : World) : Prop := e = .returned (.tuple #[]) ∧ Own B w' ao c zs ∧ ∃ g ys, B ≤ g ∧ Hid (w' = wput w g 0 ys)
end Go.Proofs.YtcankknlbljicaaGreatDoor

namespace Go.Proofs.YtcankknlbljicaaGreatDoor
open Go.RowKit Num

theorem wrap_u64_nat (x : Nat) (h : x < 18446744073709551616) : IntKind.u64.wrap (x : Int) = (x : Int) := by
 simp [IntKind.wrap, IntKind.bits, IntKind.signed]; omega
theorem or_low (i a b : Nat) (ha : a < 2 ^ i) (hb : b % 2 ^ i = 0) (h1 : a < 18446744073709551616) (h2 : b < 18446744073709551616) : bits .or .u64 (a : Int) (b : Int) = ((a + b : Nat) : Int) := by
 rw [u64_or_nat a b h1 h2, Nat.or_comm, nat_join i b a hb ha, Nat.add_comm]
theorem or_high (i a b : Nat) (hb : b < 2 ^ i) (ha : a % 2 ^ i = 0) (h1 : a < 18446744073709551616) (h2 : b < 18446744073709551616) : bits .or .u64 (a : Int) (b : Int) = ((a + b : Nat) : Int) := by
 rw [u64_or_nat a b h1 h2, nat_join i a b ha hb]
theorem pow_le31 {n : Nat} (h : n ≤ 31) : 2 ^ n ≤ 2147483648 := Nat.pow_le_pow_right (n := 2) (by omega) h
theorem or_shift (cy y n r : Nat) (hn : n ≤ 31) (hc : cy < 2 ^ n) (hy : y < 4294967296) (hr : r = cy + y * 2 ^ n) : bits BinOp.or IntKind.u64 (cy : Int) (IntKind.u64.wrap ((y : Int) * 2 ^ n)) = (r : Int) ∧ r < 9223372036854775808 := by
 have hp := pow_le31 hn
 have h1 : y * 2 ^ n ≤ 4294967295 * 2147483648 := Nat.mul_le_mul (by omega) hp
 have e : ((y : Int) * 2 ^ n) = ((y * 2 ^ n : Nat) : Int) := by simp
 rw [e, wrap_u64_nat _ (by omega), or_low n cy (y * 2 ^ n) hc (Nat.mul_mod_left _ _) (by omega) (by omega), hr]
 exact ⟨rfl, by omega⟩

theorem or_dig (hh a r : Nat) (ha : a < 4294967296) (hr : r = a + 4294967296 * hh % 18446744073709551616) :
  bits BinOp.or IntKind.u64 (IntKind.u64.wrap ((hh : Int) * 4294967296)) (a : Int) = (r : Int) ∧ r < 18446744073709551616 ∧ r % 4294967296 = a := by
 have e : IntKind.u64.wrap ((hh : Int) * 4294967296) = ((4294967296 * hh % 18446744073709551616 : Nat) : Int) := by
  simp [IntKind.wrap, IntKind.bits, IntKind.signed]; omega
 rw [e, or_high 32 _ a (by omega) (by omega) (by omega) (by omega), hr]
 exact ⟨by omega, by omega, by omega⟩

theorem shiftDigits_any (ao : Option Addr) (g o cz c n : Nat) (zs xs : List Nat) (w : World) (hwr : Wr w g o zs) (hzw : wf zs) (hr : Rd w ao c xs) (ho : Off g ao xs)
  (hl : zs.length = xs.length + 1) (hm : xs.length ≤ 9223372036854775806) (hn : n ≤ 31) :
  Calls Tryz.prog 241 #[.slice (some ⟨g, o, none⟩) zs.length cz, .slice ao xs.length c, .int .i64 (n : Int)] w (Ret (.tuple #[]) (wput w g o (dig zs.length (val xs * 2 ^ n)))) := by
 have hzl1 : zs.length ≤ xs.length + 1 := by omega
 have hzl2 : xs.length + 1 ≤ zs.length := by omega
 have HL := hid hl
 clear hl
 go_enter Tryz.func241, Tryz.ntmps241
 go_wp2
 go_loopw [6, 11] (fun cv iv wr => ∃ k cy : Nat, k ≤ xs.length ∧ iv = .int .i64 k ∧ cv = .int .u64 cy ∧ cy < 4294967296 ∧ Hid (cy = (val (xs.take k) * 2 ^ n) / 4294967296 ^ k) ∧ Hid (wr = wput w g o (dig k (val (xs.take k) * 2 ^ n) ++ zs.drop k)))
  (fun _ iv _ => xs.length - (intOf iv).toNat)
 case atStart => exact ⟨0, 0, Nat.zero_le _, rfl, rfl, by omega, by simp [Hid, val], by simp [Hid, dig]; exact (wput_self hwr).symm⟩
 case round =>
  obtain ⟨k, cy, hk, rfl, rfl, hcl, HC, HW⟩ := hrel
  by_cases hlt : k < xs.length
  ·obtain ⟨s, hs⟩ : ∃ s, s = val (xs.take k) * 2 ^ n := ⟨_, rfl⟩
   have hLl := length_dig k s
   have hc := HC.out
   have hW := HW.out
   rw [← hs] at hc hW
   obtain ⟨hzc, hzf⟩ := snoc_cell hwr hLl (by omega) hW
   obtain ⟨b2, o2, rfl, hxc⟩ := rd_cell hr ho hlt hW
   obtain ⟨x, hx⟩ : ∃ x, x = zs.getD k 0 := ⟨_, rfl⟩
   obtain ⟨y, hy⟩ : ∃ y, y = xs.getD k 0 := ⟨_, rfl⟩
   have hyl : y < 4294967296 := by rw [hy]; exact wf_getD hr.dg k
   rw [← hx] at hzc
   rw [← hy] at hxc
   have hcn : cy < 2 ^ n := by
    rw [hc]
    refine Nat.div_lt_of_lt_mul ?_
    rw [hs]
    exact Nat.mul_lt_mul_of_pos_right (val_take_lt hr.dg k) (Nat.pow_pos (by omega))
   have hs' : val (xs.take (k + 1)) * 2 ^ n = s + 4294967296 ^ k * (y * 2 ^ n) := by
    rw [val_take_succ (xs := xs) hlt, ← hy, hs]; grind
   obtain ⟨r, hrr⟩ : ∃ r, r = cy + y * 2 ^ n := ⟨_, rfl⟩
   obtain ⟨horr, hrl⟩ := or_shift cy y n r hn hcn hyl hrr
   have hrb : r / 4294967296 < 4294967296 := by omega
   have HW' := hid hW
   have HC' := hid hc
   have HS' := hid hs'
   have HR := hid hrr
   have HH := hid (And.intro ho hr)
   clear hs hx hy hc hW HC HW ho hr hLl hs' hrr hcn
   go_wp2
   refine ⟨⟨k + 1, r / 4294967296, by omega, by simp, int_eq (by omega), hrb, ?_, ?_⟩, by simp [intOf]; omega⟩
   ·show _ = _
    rw [HS'.out, step_div_succ, ← HC'.out, HR.out]
   ·show World.setCell _ _ _ = _
    rw [HS'.out, step_dig_succ, ← HC'.out, ← HR.out]
    exact snoc_put (length_dig k s) (by omega) HW'.out (by omega)
  ·obtain rfl : k = xs.length := by omega
   have hc := HC.out
   have hW := HW.out
   rw [List.take_length] at hc hW
   have hLl := length_dig xs.length (val xs * 2 ^ n)
   obtain ⟨hzc, hzf⟩ := snoc_cell hwr hLl (by omega) hW
   obtain ⟨x, hx⟩ : ∃ x, x = zs.getD xs.length 0 := ⟨_, rfl⟩
   rw [← hx] at hzc
   have HF := hid (snoc_put (d := cy) (v := (cy : Int)) hLl (by omega) hW rfl)
   have HC' := hid hc
   clear hc hW HC HW hLl hx
   go_wp2
   go_end0
   refine ⟨rfl, ?_⟩
   have h1 := HF.out
   rw [List.drop_eq_nil_of_le (by omega), List.append_nil] at h1
   rw [HL.out, dig_succ, ← HC'.out, Nat.mod_eq_of_lt hcl]
   exact h1.symm

theorem shiftUp_any (ao : Option Addr) (c n : Nat) (xs : List Nat) (w : World) (h : Rd w ao c xs) (hl : xs.length ≤ 8796093022208) (hn : n ≤ 281474976710656) :
  Calls Tryz.prog 216 #[.slice ao xs.length c, .int .i64 (n : Int)] w (RetOwn w.heap.size (nd (val xs * 2 ^ n)) w) := by
 have hle := h.le
 have hcm := h.cm
 by_cases h0 : xs.length = 0
 ·have hx : xs = [] := List.eq_nil_of_length_eq_zero h0
  subst hx
  have hb : ((([] : List Nat).length : Int) == 0) = true := by simp
  clear h
  go_enter Tryz.func216, Tryz.ntmps216
  go_wp2
  go_ret
  exact ⟨none, 0, by simp [val, nd_zero], by simpa [val, nd_zero] using Own.nil _ _, Below.refl _ _⟩
 ·have hb : ((xs.length : Int) == 0) = false := beq_eq_false_iff_ne.2 (by omega)
  obtain ⟨k, hk⟩ : ∃ k, k = n / 32 := ⟨_, rfl⟩
  obtain ⟨r, hr⟩ : ∃ r, r = n % 32 := ⟨_, rfl⟩
  have hki : (n : Int) / 32 = (k : Int) := by omega
  have hri : (n : Int) % 32 = (r : Int) := by omega
  have hrl : r ≤ 31 := by omega
  have hkl : k ≤ 8796093022208 := by omega
  have HN := hid (show n = k * 32 + r by omega)
  have hoff : Off w.heap.size ao xs := h.lt_size (Nat.le_refl _)
  have hxw := h.dg
  have hmake : ∀ w1, Own w.heap.size w1 (some ⟨w.heap.size, 0, none⟩) (xs.length + k + 1) (List.replicate (xs.length + k + 1) 0) → Below w.heap.size w w1 →
    Calls Tryz.prog 241 #[.slice (some ⟨w.heap.size, k, none⟩) (xs.length + 1) (xs.length + 1), .slice ao xs.length c, .int .i64 (r : Int)] w1
     (Ret (.tuple #[]) (wput w1 w.heap.size k (dig (xs.length + 1) (val xs * 2 ^ r)))) := by
   intro w1 hown hbel
   have hwr := hown.wr.drop k
   have e : (List.replicate (xs.length + k + 1) 0).drop k = List.replicate (xs.length + 1) 0 := by
    rw [List.drop_replicate]; congr 1; omega
   rw [e, Nat.zero_add] at hwr
   have := shiftDigits_any ao w.heap.size k (xs.length + 1) c r (List.replicate (xs.length + 1) 0) xs w1 hwr (wf_replicate _) (h.below hbel) hoff (by simp) (by omega) hrl
   rwa [List.length_replicate] at this
  have HMAKE := hid hmake
  have hnk : ¬ (xs.length + k + 1 = k) := by omega
  have hsub : xs.length + k + 1 - k = xs.length + 1 := by omega
  clear hk hr hmake h
  go_enter Tryz.func216, Tryz.ntmps216
  go_wp2_with (at_make; refine wp_make _ rfl _ rfl w.heap.size (xs.length + k + 1) _ rfl (by omega) (by omega) (Nat.le_refl _) ?_; intro w1 hown1 hbel1 hsz1)
  have hc := HMAKE.out w1 hown1 hbel1
  have hown2 := hown1.put_at k (dig (xs.length + 1) (val xs * 2 ^ r)) (by rw [length_dig, List.length_replicate]; omega) (wf_dig _ _)
  have hlt : val xs * 2 ^ r < 4294967296 ^ (xs.length + 1) := by
   have h1 := val_lt hxw
   have h2 := pow_le31 hrl
   have h3 := Nat.mul_le_mul (Nat.le_of_lt h1) h2
   rw [Nat.pow_succ]
   have := pow_pos xs.length
   omega
  have hv2 : val ((List.replicate (xs.length + k + 1) 0).take k ++ dig (xs.length + 1) (val xs * 2 ^ r) ++ (List.replicate (xs.length + k + 1) 0).drop (k + (dig (xs.length + 1) (val xs * 2 ^ r)).length)) = val xs * 2 ^ n := by
   rw [val_append, val_append, List.take_replicate, List.drop_replicate, val_replicate, val_replicate, val_dig, Nat.mod_eq_of_lt hlt, List.length_replicate, Nat.min_eq_left (by omega), HN.out, Nat.pow_add, ← pow32]
   grind
  have hl2 : ((List.replicate (xs.length + k + 1) 0).take k ++ dig (xs.length + 1) (val xs * 2 ^ r) ++ (List.replicate (xs.length + k + 1) 0).drop (k + (dig (xs.length + 1) (val xs * 2 ^ r)).length)).length = xs.length + k + 1 := by
   simp [length_dig]; omega
  have hbel2 := below_put hbel1 (Nat.le_refl w.heap.size) k (dig (xs.length + 1) (val xs * 2 ^ r))
  refine hc.mono ?_
  rintro e w' ⟨rfl, rfl⟩
  have hcut := cut_any _ _ _ _ hown2.rd
  rw [hl2, hv2] at hcut
  have hown3 := hown2.cutND
  rw [hv2] at hown3
  generalize wput w1 w.heap.size k (dig (xs.length + 1) (val xs * 2 ^ r)) = w2 at hcut hown3 hbel2 ⊢
  clear hown2 hv2 hl2 hc hown1
  go_wp2_with (go_at_call 157; refine hcut.mono ?_; rintro e w' ⟨rfl, rfl⟩)
  go_ret
  exact ⟨_, _, rfl, hown3, hbel2⟩

theorem shiftDown_any (ao : Option Addr) (c m : Nat) (xs : List Nat) (w : World) (h : Rd w ao c xs) (hl : xs.length ≤ 8796093022208) (hm : m ≤ 9223372036854775808) :
  Calls Tryz.prog 217 #[.slice ao xs.length c, .int .i64 (-(m : Int))] w (RetOwn w.heap.size (nd (val xs / 2 ^ m)) w) := by
 have hle := h.le
 have hcm := h.cm
 have hxw := h.dg
 obtain ⟨k, hk⟩ : ∃ k, k = m / 32 := ⟨_, rfl⟩
 obtain ⟨r, hr⟩ : ∃ r, r = m % 32 := ⟨_, rfl⟩
 have hki : (m : Int) / 32 = (k : Int) := by omega
 have hri : (m : Int) % 32 = (r : Int) := by omega
 have hrl : r ≤ 31 := by omega
 have HM := hid (show m = 32 * k + r by omega)
 have hkl : k ≤ 288230376151711744 := by omega
 clear hk hr
 by_cases hkx : xs.length ≤ k
 ·have HZ := hid (show val xs / 2 ^ m = 0 by
   refine Nat.div_eq_of_lt (Nat.lt_of_lt_of_le (val_lt hxw) ?_)
   rw [pow32]
   exact Nat.pow_le_pow_right (by omega) (by have := HM.out; omega))
  clear h
  go_enter Tryz.func217, Tryz.ntmps217
  go_wp2
  go_ret
  exact ⟨none, 0, by rw [HZ.out, nd_zero]; rfl, by rw [HZ.out, nd_zero]; exact Own.nil _ _, Below.refl _ _⟩
 ·obtain ⟨N, hN⟩ : ∃ N, xs.length = N + k := ⟨xs.length - k, by omega⟩
  have hNi : (xs.length : Int) - (k : Int) = (N : Int) := by omega
  have hN1 : xs.length ≤ N + k := by omega
  have hN2 : N + k ≤ xs.length := by omega
  clear hN
  obtain ⟨Q, hQ⟩ : ∃ Q, Q = val xs / 2 ^ m := ⟨_, rfl⟩
  rw [← hQ]
  have HQ := hid hQ
  have hQl : Q < 4294967296 ^ N := by
   rw [hQ]
   refine Nat.div_lt_of_lt_mul (Nat.lt_of_lt_of_le (val_lt hxw) ?_)
   rw [pow32, pow32, ← Nat.pow_add]
   exact Nat.pow_le_pow_right (by omega) (by have := HM.out; omega)
  have HQL := hid hQl
  clear hQ hQl
  go_enter Tryz.func217, Tryz.ntmps217
  go_wp2_with (at_make; refine wp_make _ rfl _ rfl w.heap.size N _ rfl (by omega) (by omega) (Nat.le_refl _) ?_; intro w1 hown1 hbel1 hsz1)
  go_loopw [8, 9] (fun cv iv wr => ∃ j hh : Nat, j ≤ N ∧ iv = .int .i64 ((j : Int) + (k : Int) - 1) ∧ cv = .int .u64 (hh : Int) ∧ hh < 18446744073709551616 ∧ Hid (hh % 4294967296 = xs.getD (j + k) 0) ∧
    Own w.heap.size wr (some ⟨w.heap.size, 0, none⟩) N (List.replicate j 0 ++ (dig N Q).drop j) ∧ Below w.heap.size w wr)
   (fun _ iv _ => (intOf iv + 1).toNat)
  case atStart =>
   refine ⟨N, 0, Nat.le_refl _, ?_, rfl, by omega, ?_, ?_, hbel1⟩
   ·exact int_eq (by omega)
   ·show 0 % 4294967296 = _
    simp [List.getD_eq_getElem?_getD, List.getElem?_eq_none (show xs.length ≤ N + k by omega)]
   ·rw [List.drop_eq_nil_of_le (by rw [length_dig]; exact Nat.le_refl _), List.append_nil]; exact hown1
  case round =>
   obtain ⟨j, hh, hj, rfl, rfl, hhl, HH, hown, hbel⟩ := hrel
   by_cases hj0 : j = 0
   ·subst hj0
    simp only [List.replicate_zero, List.nil_append, List.drop_zero] at hown
    have hcut := cut_any _ _ _ _ hown.rd
    have hv : val (dig N Q) = Q := by rw [val_dig, Nat.mod_eq_of_lt HQL.out]
    have hown2 := hown.cutND
    rw [length_dig, hv] at hcut
    rw [hv] at hown2
    clear hown hv
    go_wp2_with (go_at_call 157; refine hcut.mono ?_; rintro e w' ⟨rfl, rfl⟩)
    go_ret
    exact ⟨_, _, rfl, hown2, hbel⟩
   ·obtain ⟨i, rfl⟩ : ∃ i, j = i + 1 := ⟨j - 1, by omega⟩
    have hra := h.below hbel
    rcases hra.lies with h1 | ⟨b2, o2, rfl, hc⟩
    ·rw [h1] at hN2; simp at hN2; omega
    have hxc := hc (i + k) (by omega)
    obtain ⟨a, ha⟩ : ∃ a, a = xs.getD (i + k) 0 := ⟨_, rfl⟩
    have hal : a < 4294967296 := by rw [ha]; exact wf_getD hxw _
    rw [← ha] at hxc
    have hzl : (List.replicate (i + 1) 0 ++ (dig N Q).drop (i + 1)).length = N := by simp [length_dig]; omega
    have hzc := hown.cell i (by omega)
    have hzf := hown.frozen i
    obtain ⟨d0, hd0⟩ : ∃ d0, d0 = (List.replicate (i + 1) 0 ++ (dig N Q).drop (i + 1)).getD i 0 := ⟨_, rfl⟩
    rw [← hd0] at hzc
    obtain ⟨q, hq⟩ : ∃ q, q = a + 4294967296 * hh % 18446744073709551616 := ⟨_, rfl⟩
    obtain ⟨horr, hql, hqm⟩ := or_dig hh a q hal hq
    have HA := hid ha
    have HQ2 := hid hq
    have HZL := hid hzl
    have HOWN := hid hown
    have HB := hid hbel
    clear hd0 hra hc ha hq hzl hown hbel
    go_wp2
    refine ⟨⟨i, q, by omega, int_eq (by omega), rfl, hql, by rw [Hid, hqm, HA.out], ?_, HB.out.setCell (Nat.le_refl _) _⟩, by simp [intOf]; omega⟩
    have hdl : q / 2 ^ r % 4294967296 < 4294967296 := by omega
    have hs := fun v hv => HOWN.out.set i (q / 2 ^ r % 4294967296) v hv hdl (by rw [HZL.out]; omega)
    have hd := div_digit (j := i) (w := k) (r := r) (h := hh) hxw hrl (by omega) (by rw [show i + k + 1 = i + 1 + k by omega]; exact HH.out)
    rw [← HM.out, ← HQ.out, ← HA.out, ← HQ2.out] at hd
    rw [← hd] at hs
    have e : (List.replicate (i + 1) 0 ++ (dig N Q).drop (i + 1)).set i (Q / 4294967296 ^ i % 4294967296) = List.replicate i 0 ++ (dig N Q).drop i := by
     rw [List.replicate_succ', List.append_assoc, List.set_append_right _ _ (by simp), List.length_replicate, Nat.sub_self]
     rw [drop_dig (by omega), drop_dig (by omega)]
     congr 1
     obtain ⟨u, hu⟩ : ∃ u, N - i = u + 1 := ⟨N - i - 1, by omega⟩
     rw [hu, show N - (i + 1) = u by omega, dig, Nat.div_div_eq_div_mul, Nat.pow_succ]
     rfl
    rw [e] at hs
    refine hs _ ?_
    rw [hd]; simp

end Go.Proofs.YtcankknlbljicaaGreatDoor

namespace Go.Proofs.YtcankknlbljicaaGreatDoor
open Go.RowKit Num

theorem or_dig_wrap {r : Nat} (h : r < 4294967296) : IntKind.u64.wrap ((r : Int) * 4294967296) = (r : Int) * 4294967296 := by
 have e : ((r : Int) * 4294967296) = ((r * 4294967296 : Nat) : Int) := by simp
 rw [e, wrap_u64_nat _ (by omega)]

def shiftN (v : Nat) (n : Int) : Nat := if 65536 < n then 0 else if 0 ≤ n then v * 2 ^ n.toNat else v / 2 ^ (-n).toNat

theorem shift_any (ao : Option Addr) (c : Nat) (n : Int) (xs : List Nat) (w : World) (h : Rd w ao c xs) (hl : xs.length ≤ 8796093022208) (hn : -9223372036854775808 ≤ n) (hn2 : n ≤ 9223372036854775807) :
  Calls Tryz.prog 190 #[.slice ao xs.length c, .int .i64 n] w (RetOwn w.heap.size (nd (shiftN (val xs) n)) w) := by
 have hcut := cut_any ao c xs w h
 have hlen := nd_length_le_of h.dg
 have hr := h.cutND
 by_cases h1 : 65536 < n
 ·have HZ := hid (show shiftN (val xs) n = 0 by simp [shiftN, h1])
  clear hcut hr h
  go_enter Tryz.func190, Tryz.ntmps190
  go_wp2
  go_ret
  exact ⟨none, 0, by rw [HZ.out, nd_zero]; rfl, by rw [HZ.out, nd_zero]; exact Own.nil _ _, Below.refl _ _⟩
 ·by_cases h2 : 0 ≤ n
  ·obtain ⟨m, rfl⟩ := Int.eq_ofNat_of_zero_le h2
   have HZ := hid (show shiftN (val xs) (m : Int) = val xs * 2 ^ m by simp [shiftN, h1])
   have hup := shiftUp_any ao c m (nd (val xs)) w hr (by omega) (by omega)
   rw [val_nd, ← HZ.out] at hup
   clear hr h
   go_enter Tryz.func190, Tryz.ntmps190
   go_wp2_with (first | (go_at_call 157; refine hcut.mono ?_; rintro e w' ⟨rfl, rfl⟩) | (go_at_call 216; refine hup.mono ?_; rintro e w' ⟨ao', c', rfl, hown, hbel⟩))
   go_ret
   exact ⟨_, _, rfl, hown, hbel⟩
  ·obtain ⟨m, hm⟩ := Int.eq_ofNat_of_zero_le (show 0 ≤ -n by omega)
   obtain rfl : n = -(m : Int) := by omega
   have HZ := hid (show shiftN (val xs) (-(m : Int)) = val xs / 2 ^ m by
    rw [shiftN, if_neg h1, if_neg h2]; simp)
   have hdn := shiftDown_any ao c m (nd (val xs)) w hr (by omega) (by omega)
   rw [val_nd, ← HZ.out] at hdn
   clear hr h hm
   go_enter Tryz.func190, Tryz.ntmps190
   go_wp2_with (first | (go_at_call 157; refine hcut.mono ?_; rintro e w' ⟨rfl, rfl⟩) | (go_at_call 217; refine hdn.mono ?_; rintro e w' ⟨ao', c', rfl, hown, hbel⟩))
   go_ret
   exact ⟨_, _, rfl, hown, hbel⟩

theorem divideBy_any (zo : Option Addr) (g o cz D : Nat) (zs : List Nat) (w : World) (hz : zs ≠ [] → zo = some ⟨g, o, none⟩) (hwr : Wr w g o zs) (hzw : wf zs) (hm : zs.length ≤ 9223372036854775807) (hD : D < 4294967296) (hD0 : 0 < D) :
  Calls Tryz.prog 156 #[.slice zo zs.length cz, .int .u32 (D : Int)] w (Ret (.int .u32 ((val zs % D : Nat) : Int)) (wput w g o (dig zs.length (val zs / D)))) := by
 go_enter Tryz.func156, Tryz.ntmps156
 go_wp2
 go_loopw [5, 6] (fun cv iv wr => ∃ j r : Nat, j ≤ zs.length ∧ iv = .int .i64 ((j : Int) - 1) ∧ cv = .int .u64 (r : Int) ∧ r < D ∧ Hid (r = val (zs.drop j) % D) ∧ Hid (wr = wput w g o (zs.take j ++ dig (zs.length - j) (val (zs.drop j) / D))))
  (fun _ iv _ => (intOf iv + 1).toNat)
 case atStart =>
  refine ⟨zs.length, 0, Nat.le_refl _, rfl, rfl, hD0, ?_, ?_⟩
  ·show 0 = _
   rw [List.drop_length]; simp [val]
  ·show _ = _
   rw [List.take_length, Nat.sub_self, dig, List.append_nil, wput_self hwr]
 case round =>
  obtain ⟨j, r, hj, rfl, rfl, hrl, HR, HW⟩ := hrel
  by_cases hj0 : j = 0
  ·subst hj0
   go_wp2
   go_ret
   have h1 := HR.out
   have h2 := HW.out
   simp only [List.drop_zero, List.take_zero, List.nil_append, Nat.sub_zero] at h1 h2
   refine ⟨?_, h2.symm⟩
   rw [← h1]
   exact congrArg Ending.returned (int_eq (by omega))
  ·obtain ⟨i, rfl⟩ : ∃ i, j = i + 1 := ⟨j - 1, by omega⟩
   obtain rfl := hz (by intro h; rw [h] at hj; simp at hj)
   have hW := HW.out
   obtain ⟨x, hx⟩ : ∃ x, x = zs.getD i 0 := ⟨_, rfl⟩
   have hxl : x < 4294967296 := by rw [hx]; exact wf_getD hzw i
   have hLl : (zs.take (i + 1) ++ dig (zs.length - (i + 1)) (val (zs.drop (i + 1)) / D)).length = zs.length := by simp [length_dig]; omega
   have hzc : wr.cell? ⟨g, o + i, none⟩ = some (.int .u32 (x : Int)) := by
    rw [hW, (hwr.put hLl i (by omega)).1, hx]
    rw [getD_take_app (by omega) hj]
   have hzf : wr.frozen? ⟨g, o + i, none⟩ = false := by
    rw [hW, wput_frozen]; exact (hwr i (by omega)).2
   obtain ⟨q, hq⟩ : ∃ q, q = x + 4294967296 * r % 18446744073709551616 := ⟨_, rfl⟩
   obtain ⟨horr, hql, hqm⟩ := or_dig r x q hxl hq
   rw [or_dig_wrap (by omega)] at horr
   have hq2 : q = 4294967296 * r + x := by omega
   have hst := div_step x (val (zs.drop (i + 1))) D hD0
   have hlt := div_step_lt (u := x) (v := val (zs.drop (i + 1))) hxl hD0
   rw [← HR.out, ← hq2] at hst hlt
   have hvd : val (zs.drop i) = x + 4294967296 * val (zs.drop (i + 1)) := by rw [val_drop (by omega), hx]
   have hqd : q / D < 4294967296 := hlt
   have hqi : ((q : Int) / (D : Int)) = ((q / D : Nat) : Int) := by simp
   have hqmi : ((q : Int) % (D : Int)) = ((q % D : Nat) : Int) := by simp
   obtain ⟨qd, hqd1⟩ : ∃ qd, qd = q / D := ⟨_, rfl⟩
   obtain ⟨qr, hqr1⟩ : ∃ qr, qr = q % D := ⟨_, rfl⟩
   rw [← hqd1] at hqi hqd
   rw [← hqr1] at hqmi
   have hqrl : qr < D := by rw [hqr1]; exact Nat.mod_lt _ hD0
   have HP := hid (And.intro hst (And.intro hvd (And.intro hqd1 hqr1)))
   have HLl := hid hLl
   have HW2 := hid hW
   clear hx hW hLl hq hq2 hst hlt hvd hqd1 hqr1 hqm
   go_wp2
   have hp := HP.out
   refine ⟨⟨i, qr, by omega, int_eq (by omega), int_eq hqmi, hqrl, ?_, ?_⟩, by simp [intOf]⟩
   ·show _ = _
    rw [hp.2.1, hp.1.2, hp.2.2.2]
   ·show World.setCell _ _ _ = _
    rw [HW2.out, wput_seti _ _ _ _ i qd _ (by first | omega | exact hqi | (rw [hqi]; omega)) (by rw [HLl.out]; omega), set_down (by omega) hqd, hp.2.1, hp.1.1, hp.2.2.1]

def RetDec (w : World) (g o n W DV : Nat) (e : Ending) (w' : World) : Prop := ∃ (b : Bool) (t : Nat), e = .returned (.bool b) ∧ t < 4294967296 ^ n ∧ t + DV = W + (if b then 4294967296 ^ n else 0) ∧ Hid (w' = wput w g o (dig n t))

theorem decreaseBy_any (ao : Option Addr) (g o cz c D : Nat) (zs bs : List Nat) (w : World) (hwr : Wr w g o zs) (hzw : wf zs) (hr : Rd w ao c bs) (ho : Off g ao bs)
  (hl : zs.length = bs.length + 1) (hm : bs.length ≤ 9223372036854775806) (hD : D < 4294967296) :
  Calls Tryz.prog 248 #[.slice (some ⟨g, o, none⟩) zs.length cz, .slice ao bs.length c, .int .u32 (D : Int)] w (RetDec w g o zs.length (val zs) (D * val bs)) := by
 have hzl1 : zs.length ≤ bs.length + 1 := by omega
 have hzl2 : bs.length + 1 ≤ zs.length := by omega
 have HL := hid hl
 clear hl
 go_enter Tryz.func248, Tryz.ntmps248
 go_wp2
 go_loopw [7, 8, 14] (fun cv bv iv wr => ∃ k cr bw t : Nat, k ≤ bs.length ∧ iv = .int .i64 k ∧ cv = .int .u64 (cr : Int) ∧ bv = .int .u32 (bw : Int) ∧ cr < 4294967296 ∧ bw ≤ 1 ∧ Hid (t < 4294967296 ^ k ∧ t + D * val (bs.take k) = val (zs.take k) + (cr + bw) * 4294967296 ^ k) ∧ Hid (wr = wput w g o (dig k t ++ zs.drop k)))
  (fun _ _ iv _ => bs.length - (intOf iv).toNat)
 case atStart => exact ⟨0, 0, 0, 0, Nat.zero_le _, rfl, rfl, rfl, by omega, by omega, by simp [Hid, val], by simp [Hid, dig]; exact (wput_self hwr).symm⟩
 case round =>
  obtain ⟨k, cr, bw, t, hk, rfl, rfl, rfl, hcl, hbl, HC, HW⟩ := hrel
  by_cases hlt : k < bs.length
  ·have hLl := length_dig k t
   have hW := HW.out
   obtain ⟨hzc, hzf⟩ := snoc_cell hwr hLl (by omega) hW
   obtain ⟨b2, o2, rfl, hxc⟩ := rd_cell hr ho hlt hW
   obtain ⟨x, hx⟩ : ∃ x, x = zs.getD k 0 := ⟨_, rfl⟩
   obtain ⟨y, hy⟩ : ∃ y, y = bs.getD k 0 := ⟨_, rfl⟩
   have hxl : x < 4294967296 := by rw [hx]; exact wf_getD hzw k
   have hyl : y < 4294967296 := by rw [hy]; exact wf_getD hr.dg k
   rw [← hx] at hzc
   rw [← hy] at hxc
   obtain ⟨p, hp⟩ : ∃ p, p = D * y := ⟨_, rfl⟩
   have hpl : p ≤ 18446744065119617025 := by rw [hp]; exact mul_u32 hD hyl
   have hpi : (D : Int) * (y : Int) = (p : Int) := by rw [hp]; simp
   obtain ⟨l, hll⟩ : ∃ l, l = (cr + p) % 4294967296 := ⟨_, rfl⟩
   have hli : ((cr : Int) + (p : Int)) % 4294967296 = (l : Int) := by omega
   have hlL : l < 4294967296 := by omega
   have hdig := sub_digit x l bw hxl hlL hbl
   obtain ⟨d, hd⟩ : ∃ d, d = (x + 8589934592 - l - bw) % 4294967296 := ⟨_, rfl⟩
   obtain ⟨q, hq⟩ : ∃ q, q = if x < l + bw then 1 else 0 := ⟨_, rfl⟩
   have hcon := fun w => sub32_any x l bw d q w hxl hlL hbl hd hq
   rw [← hd, ← hq] at hdig
   have hcr' : cr + D * y = 4294967296 * ((cr + p) / 4294967296) + l := by rw [← hp, hll]; omega
   have hcb : (cr + p) / 4294967296 < 4294967296 := by omega
   have HX := hid (And.intro hx (And.intro hy hcr'))
   have HW' := hid hW
   have HD := hid hdig
   have HH := hid (And.intro ho hr)
   clear hx hy hW hd hq hdig hp hll hcr' HW ho hr hLl
   go_wp2_with (go_at_call 246; refine (hcon _).mono ?_; rintro e w' ⟨rfl, rfl⟩)
   have hdig := HD.out
   refine ⟨⟨k + 1, (cr + p) / 4294967296, q, t + 4294967296 ^ k * d, by omega, by simp, int_eq (by omega), rfl, hcb, hdig.2.2, ⟨?_, ?_⟩, ?_⟩, by simp [intOf]; omega⟩
   ·rw [Nat.pow_succ]; exact step_lt HC.out.1 hdig.2.1
   ·rw [val_take_succ (xs := zs) (by omega), val_take_succ (xs := bs) hlt, ← HX.out.1, ← HX.out.2.1, Nat.pow_succ]
    exact subBy_step HC.out.2 HX.out.2.2 hdig.1
   ·show World.setCell _ _ _ = _
    rw [step_dig_succ, Nat.div_eq_of_lt HC.out.1, Nat.zero_add, Nat.mod_eq_of_lt hdig.2.1]
    exact snoc_put (length_dig k t) (by omega) HW'.out rfl
  ·obtain rfl : k = bs.length := by omega
   have hLl := length_dig bs.length t
   have hW := HW.out
   obtain ⟨hzc, hzf⟩ := snoc_cell hwr hLl (by omega) hW
   obtain ⟨x, hx⟩ : ∃ x, x = zs.getD bs.length 0 := ⟨_, rfl⟩
   have hxl : x < 4294967296 := by rw [hx]; exact wf_getD hzw _
   rw [← hx] at hzc
   have hdig := sub_digit x cr bw hxl hcl hbl
   obtain ⟨d, hd⟩ : ∃ d, d = (x + 8589934592 - cr - bw) % 4294967296 := ⟨_, rfl⟩
   obtain ⟨q, hq⟩ : ∃ q, q = if x < cr + bw then 1 else 0 := ⟨_, rfl⟩
   have hcon := fun w => sub32_any x cr bw d q w hxl hcl hbl hd hq
   rw [← hd, ← hq] at hdig
   have hfin : (t + 4294967296 ^ bs.length * d) < 4294967296 ^ zs.length ∧ (t + 4294967296 ^ bs.length * d) + D * val bs = val zs + q * 4294967296 ^ zs.length := by
    have h1 := HC.out
    rw [HL.out, Nat.pow_succ]
    refine ⟨step_lt h1.1 hdig.2.1, ?_⟩
    have h2 := val_take_succ (xs := zs) (k := bs.length) (by omega)
    rw [← HL.out, List.take_length, ← hx] at h2
    rw [List.take_length] at h1
    have h3 := subBy_step (y := 0) (l := cr) (c' := 0) h1.2 (by omega) hdig.1
    rw [h2]
    simpa using h3
   have HF := hid (snoc_put (d := d) (v := (d : Int)) hLl (by omega) hW rfl)
   have HT := hid (show dig bs.length t ++ [d] ++ zs.drop (bs.length + 1) = dig zs.length (t + 4294967296 ^ bs.length * d) by
    rw [List.drop_eq_nil_of_le (by omega), List.append_nil, HL.out, step_dig_succ, Nat.div_eq_of_lt HC.out.1, Nat.zero_add, Nat.mod_eq_of_lt hdig.2.1])
   have HFIN := hid hfin
   have hq1 := hdig.2.2
   clear hx hW hd hq hdig HW hLl hfin hlt hk
   by_cases hq0 : q = 0
   ·have hb : ((q : Int) != 0) = false := by simp [hq0]
    have HQ := hid hq0
    clear hq0
    go_wp2_with (go_at_call 246; refine (hcon _).mono ?_; rintro e w' ⟨rfl, rfl⟩)
    go_ret
    refine ⟨false, _, rfl, HFIN.out.1, ?_, ?_⟩
    ·rw [HFIN.out.2, HQ.out]; simp
    ·show _ = _
     rw [← HT.out]; exact HF.out
   ·have hb : ((q : Int) != 0) = true := by simp [hq0]
    have HQ := hid (show q = 1 by omega)
    clear hq0
    go_wp2_with (go_at_call 246; refine (hcon _).mono ?_; rintro e w' ⟨rfl, rfl⟩)
    go_ret
    refine ⟨true, _, rfl, HFIN.out.1, ?_, ?_⟩
    ·rw [HFIN.out.2, HQ.out]; simp
    ·show _ = _
     rw [← HT.out]; exact HF.out
end Go.Proofs.YtcankknlbljicaaGreatDoor
