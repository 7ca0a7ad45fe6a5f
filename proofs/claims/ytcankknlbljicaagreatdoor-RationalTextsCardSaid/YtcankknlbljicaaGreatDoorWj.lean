/-  -/
import Derived.Test.YtcankknlbljicaaGreatDoorWi

set_option linter.unusedVariables false
set_option linter.unusedSimpArgs false
set_option linter.unusedSectionVars false
set_option maxRecDepth 100000
set_option maxHeartbeats 3200000

namespace Go.Proofs.YtcankknlbljicaaGreatDoor
open Go.RowKit Num

theorem mul_inner {V T c z m t : Nat} (h : T / 4294967296 ^ m = V / 4294967296 ^ m + c) (ht : t = c + (z + V / 4294967296 ^ m % 4294967296)) :
  dig (m + 1) (T + 4294967296 ^ m * z) = dig m T ++ [t % 4294967296] ∧ (T + 4294967296 ^ m * z) / 4294967296 ^ (m + 1) = V / 4294967296 ^ (m + 1) + t / 4294967296 := by
 have e1 : (T + 4294967296 ^ m * z) / 4294967296 ^ m = V / 4294967296 ^ m + c + z := by rw [Nat.add_mul_div_left _ _ (pow_pos m), h]
 obtain ⟨q, hq⟩ : ∃ q, q = V / 4294967296 ^ m := ⟨_, rfl⟩
 rw [← hq] at e1 ht
 constructor
 ·rw [dig_succ, e1, ← dig_mod m (T + _), Nat.add_mul_mod_self_left, dig_mod]
  congr 2; omega
 ·rw [Nat.pow_succ, ← Nat.div_div_eq_div_mul, ← Nat.div_div_eq_div_mul, e1, ← hq]
  omega
theorem mul_last {N V V' m c : Nat} (hV : V < 4294967296 ^ m) (hm : m < N) (hc : V' / 4294967296 ^ m = c) (hcl : c < 4294967296) :
  dig m V' ++ [c] ++ (dig N V).drop (m + 1) = dig N V' := by
 obtain ⟨j, rfl⟩ : ∃ j, N = m + 1 + j := ⟨N - (m + 1), by omega⟩
 have e1 : V / 4294967296 ^ (m + 1) = 0 := Nat.div_eq_of_lt (Nat.lt_of_lt_of_le hV (Nat.pow_le_pow_right (by omega) (by omega)))
 have e2 : V' / 4294967296 ^ (m + 1) = 0 := by rw [Nat.pow_succ, ← Nat.div_div_eq_div_mul, hc, Nat.div_eq_of_lt hcl]
 rw [dig_append (m + 1) j V, dig_append (m + 1) j V', e1, e2, List.drop_left' (length_dig _ _), dig_succ, hc, Nat.mod_eq_of_lt hcl]
theorem getD_dig {N V m : Nat} (h : m < N) : (dig N V).getD m 0 = V / 4294967296 ^ m % 4294967296 := by
 obtain ⟨s, hs⟩ : ∃ s, N - m = s + 1 := ⟨N - m - 1, by omega⟩
 rw [← val_drop' (wf_dig N V), drop_dig (by omega), val_dig, hs, Nat.pow_succ', Nat.mod_mul_right_mod]

theorem rmul_any (aa ab : Option Addr) (ca cb : Nat) (xs ys : List Nat) (w : World) (ha : Rd w aa ca xs) (hb : Rd w ab cb ys) (hl1 : xs.length ≤ 4398046511104) (hl2 : ys.length ≤ 4398046511104) :
  Calls Tryz.prog 152 #[.slice aa xs.length ca, .slice ab ys.length cb] w (RetOwn w.heap.size (nd (val xs * val ys)) w) := by
 have hax := ha.le
 have hax2 := ha.cm
 have hay := hb.le
 have hay2 := hb.cm
 have hxw := ha.dg
 have hyw := hb.dg
 go_enter Tryz.func152, Tryz.ntmps152
 go_wp2_with (at_make; refine wp_make _ rfl _ rfl w.heap.size (xs.length + ys.length + 1) _ rfl (by omega) (by omega) (Nat.le_refl _) ?_; intro w1 hown1 hbel1 hsz1)
 go_loopw [6] (fun iv wr => ∃ k : Nat, k ≤ xs.length ∧ iv = .int .i64 (k : Int) ∧ Own w.heap.size wr (some ⟨w.heap.size, 0, none⟩) (xs.length + ys.length + 1) (dig (xs.length + ys.length + 1) (val (xs.take k) * val ys)) ∧ Below w.heap.size w wr)
  (fun iv _ => xs.length - (intOf iv).toNat)
 case atStart => exact ⟨0, Nat.zero_le _, rfl, by simpa [val, dig_zero] using hown1, hbel1⟩
 case round =>
  obtain ⟨k, hk, rfl, hown, hbel⟩ := hrel
  by_cases hlt : k < xs.length
  ·obtain ⟨V, hV⟩ : ∃ V, V = val (xs.take k) * val ys := ⟨_, rfl⟩
   obtain ⟨N, hN⟩ : ∃ N, N = xs.length + ys.length + 1 := ⟨_, rfl⟩
   obtain ⟨x, hx⟩ : ∃ x, x = xs.getD k 0 := ⟨_, rfl⟩
   have hxl : x < 4294967296 := by rw [hx]; exact wf_getD hxw k
   have hVl : V < 4294967296 ^ (k + ys.length) := by
    have h3 := Nat.mul_lt_mul_of_lt_of_le (val_take_lt hxw k) (Nat.le_of_lt (val_lt hyw)) (pow_pos _)
    rw [hV, Nat.pow_add]; exact h3
   have hV' : val (xs.take (k + 1)) * val ys = V + 4294967296 ^ k * (x * val ys) := by
    rw [val_take_succ hlt, ← hx, hV]; grind
   have hVB : V + 4294967296 ^ k * (x * val ys) < 4294967296 ^ (k + ys.length + 1) := by
    have h3 := Nat.mul_lt_mul_of_lt_of_le (val_take_lt hxw (k + 1)) (Nat.le_of_lt (val_lt hyw)) (pow_pos _)
    rw [← hV', show k + ys.length + 1 = k + 1 + ys.length by omega, Nat.pow_add]; exact h3
   rw [← hV] at hown
   have hownN : Own w.heap.size wr (some ⟨w.heap.size, 0, none⟩) (xs.length + ys.length + 1) (dig N V) := by rw [hN]; exact hown
   clear hown
   have HV := hid (And.intro hVl (And.intro hV' hVB))
   have hli : (k : Int) < (xs.length : Int) := by omega
   have HX := hid hx
   have HN := hid hN
   clear hV hVl hV' hVB hx hN
   go_wp2
   go_loopw [7, 8] (fun cv jv wr => ∃ j c T : Nat, j ≤ ys.length ∧ cv = .int .u64 (c : Int) ∧ jv = .int .i64 (j : Int) ∧ c < 4294967296 ∧ Hid (T = V + 4294967296 ^ k * (x * val (ys.take j)) ∧ T / 4294967296 ^ (k + j) = V / 4294967296 ^ (k + j) + c) ∧
     Own w.heap.size wr (some ⟨w.heap.size, 0, none⟩) (xs.length + ys.length + 1) (dig (k + j) T ++ (dig N V).drop (k + j)) ∧ Below w.heap.size w wr) (fun _ jv _ => ys.length - (intOf jv).toNat)
   case atStart =>
    refine ⟨0, 0, V, Nat.zero_le _, rfl, rfl, by omega, ⟨by simp [val], by simp⟩, ?_, hbel⟩
    have e : dig (k + 0) V ++ (dig N V).drop (k + 0) = dig N V := by
     obtain ⟨j, hj⟩ : ∃ j, N = k + j := ⟨N - k, by have := HN.out; omega⟩
     rw [hj, dig_append k j V, Nat.add_zero, List.drop_left' (length_dig _ _)]
    rw [e]; exact hownN
   case round =>
    obtain ⟨j, c, T, hj, rfl, rfl, hcl, HT, hownj, hbelj⟩ := hrel
    have hmN : k + j < N := by have := HN.out; omega
    have hmN2 : k + j < (dig N V).length := by rw [length_dig]; exact hmN
    have hll : (dig (k + j) T ++ (dig N V).drop (k + j)).length = xs.length + ys.length + 1 := by rw [length_snoc (length_dig _ _) (by omega), length_dig, HN.out]
    have hcell := hownj.cell (k + j) (by rw [hll]; omega)
    rw [getD_snoc (length_dig _ _), getD_dig hmN] at hcell
    obtain ⟨v, hv⟩ : ∃ v, v = V / 4294967296 ^ (k + j) % 4294967296 := ⟨_, rfl⟩
    have hvl : v < 4294967296 := by rw [hv]; exact Nat.mod_lt _ (by omega)
    rw [← hv] at hcell
    have hfr := hownj.frozen (k + j)
    have hra := ha.below hbelj
    have hrb := hb.below hbelj
    by_cases hlj : j < ys.length
    ·obtain ⟨y, hy⟩ : ∃ y, y = ys.getD j 0 := ⟨_, rfl⟩
     have hyl : y < 4294967296 := by rw [hy]; exact wf_getD hyw j
     obtain ⟨p, hp⟩ : ∃ p, p = x * y := ⟨_, rfl⟩
     have hpl : p ≤ 18446744065119617025 := by
      have := Nat.mul_le_mul (show x ≤ 4294967295 by omega) (show y ≤ 4294967295 by omega)
      omega
     obtain ⟨t, ht⟩ : ∃ t, t = c + (p + v) := ⟨_, rfl⟩
     obtain ⟨d, hd⟩ : ∃ d, d = t % 4294967296 := ⟨_, rfl⟩
     have hdl : d < 4294967296 := by omega
     have hst := mul_inner (z := p) (t := t) HT.out.2 (by rw [ht, hv])
     rw [← hd] at hst
     have hT' : T + 4294967296 ^ (k + j) * p = V + 4294967296 ^ k * (x * val (ys.take (j + 1))) := by
      rw [val_take_succ hlj, ← hy, HT.out.1, hp, Nat.pow_add]; grind
     have hnew : ∀ (q : Nat) (u : Int), u = (d : Int) → Own w.heap.size ((wr.drewN q).setCell ⟨w.heap.size, k + j, none⟩ (.int .u32 u)) (some ⟨w.heap.size, 0, none⟩) (xs.length + ys.length + 1) (dig (k + (j + 1)) (T + 4294967296 ^ (k + j) * p) ++ (dig N V).drop (k + (j + 1))) := by
      intro q u hu
      have h := (hownj.drewN q).set (k + j) d u hu hdl (by rw [hll]; omega)
      rw [set_snoc (length_dig _ _) hmN2] at h
      rw [← Nat.add_assoc k j 1, hst.1]; exact h
     have hpi : (x : Int) * (y : Int) = (p : Int) := by rw [hp, Int.natCast_mul]
     have hti : (c : Int) + ((p : Int) + (v : Int)) = (t : Int) := by omega
     have hdi : (t : Int) % 4294967296 = (d : Int) := by omega
     have htl : t ≤ 18446744073709551615 := by omega
     rcases hra.lies with h9 | ⟨b1, o1, rfl, hc1⟩
     ·simp [h9] at hlt
     rcases hrb.lies with h9 | ⟨b2, o2, rfl, hc2⟩
     ·simp [h9] at hlj
     have g1 := hc1 k hlt
     rw [← HX.out] at g1
     have g2 := hc2 j hlj
     rw [← hy] at g2
     have hlj2 : (j : Int) < (ys.length : Int) := by omega
     have hin : (k : Int) + (j : Int) < (xs.length : Int) + (ys.length : Int) + 1 := by omega
     have HNEW := hid hnew
     have HST := hid (And.intro hT' hst.2)
     clear hc1 hc2 hra hrb hnew hst hT' hv hd ht hp hy hownj hll hmN hmN2 hownN hbel
     go_wp2_with fail
     go_quiet (fail)
     go_wp2
     refine ⟨⟨j + 1, t / 4294967296, _, by omega, int_eq (by omega), by simp, by omega, ⟨HST.out.1, by rw [← Nat.add_assoc]; exact HST.out.2⟩, HNEW.out _ _ rfl, Below.setCell (hbelj.trans ((below_drewN wr _).mono hbelj.size)) (Nat.le_refl _) _⟩, by simp [intOf]; omega⟩
    ·obtain rfl : j = ys.length := by omega
     have hjT : T = V + 4294967296 ^ k * (x * val ys) := by have := HT.out.1; rwa [List.take_length] at this
     have hc0 : T / 4294967296 ^ (k + ys.length) = c := by rw [HT.out.2, Nat.div_eq_of_lt HV.out.1, Nat.zero_add]
     have hnew : ∀ u : Int, u = (c : Int) → Own w.heap.size (wr.setCell ⟨w.heap.size, k + ys.length, none⟩ (.int .u32 u)) (some ⟨w.heap.size, 0, none⟩) (xs.length + ys.length + 1) (dig N T) := by
      intro u hu
      have h := hownj.set (k + ys.length) c u hu hcl (by rw [hll]; omega)
      rw [set_snoc (length_dig _ _) hmN2, mul_last HV.out.1 hmN hc0 hcl] at h
      exact h
     have hci : (c : Int) % 4294967296 = (c : Int) := by omega
     have hin : (k : Int) + (ys.length : Int) < (xs.length : Int) + (ys.length : Int) + 1 := by omega
     have HNEW := hid hnew
     have HJ := hid hjT
     clear hra hrb hnew hjT hc0 hv hownj hll hmN hmN2 hownN hbel hlj
     go_wp2
     refine ⟨⟨k + 1, by omega, by simp, ?_, Below.setCell hbelj (Nat.le_refl _) _⟩, by simp [intOf]; omega⟩
     have e : dig (xs.length + ys.length + 1) (val (xs.take (k + 1)) * val ys) = dig N T := by rw [HN.out, HJ.out, HV.out.2.1]
     rw [e]
     exact HNEW.out _ rfl
  ·obtain rfl : k = xs.length := by omega
   rw [List.take_length] at hown
   have hv : val (dig (xs.length + ys.length + 1) (val xs * val ys)) = val xs * val ys := by
    rw [val_dig, Nat.mod_eq_of_lt]
    have h3 := Nat.mul_lt_mul_of_lt_of_le (val_lt hxw) (Nat.le_of_lt (val_lt hyw)) (pow_pos _)
    rw [← Nat.pow_add] at h3
    exact Nat.lt_of_lt_of_le h3 (Nat.pow_le_pow_right (by omega) (by omega))
   have ht := rtrim_any _ _ _ wr hown.rd (by rw [length_dig]; omega)
   rw [length_dig, hv] at ht
   clear hown hv hlt hk
   go_wp2_with fail
   refine ht.mono ?_
   rintro e w5 ⟨a5, c5, rfl, ho5, hb5⟩
   go_wp2
   go_ret
   exact ⟨a5, c5, rfl, ho5.mono hbel.size, hbel.trans (hb5.mono hbel.size)⟩
end Go.Proofs.YtcankknlbljicaaGreatDoor

namespace Go.Proofs.YtcankknlbljicaaGreatDoor
open Go.RowKit Num

theorem rbitlen_any (ao : Option Addr) (c : Nat) (xs : List Nat) (w : World) (h : Rd w ao c xs) (hl : xs.length ≤ 17592186044416) :
  Calls Tryz.prog 232 #[.slice ao xs.length c] w (RetB (.int .i64 (blen (val xs) : Int)) w) := by
 have ht := rtrim_any ao c xs w h hl
 have hlen := nd_length_le_of h.dg
 obtain ⟨us, hus⟩ : ∃ us, us = nd (val xs) := ⟨_, rfl⟩
 have hv : val us = val xs := by rw [hus, val_nd]
 have hn : nrm us := by rw [hus]; exact nrm_nd _
 have huw : wf us := by rw [hus]; exact wf_nd _
 rw [← hus] at ht hlen
 rw [← hv]
 clear hv hus h
 by_cases h0 : us.length = 0
 ·have hu : us = [] := List.eq_nil_of_length_eq_zero h0
  subst hu
  have hb : ((([] : List Nat).length : Int) == 0) = true := by simp
  go_enter Tryz.func232, Tryz.ntmps232
  go_wp2_with fail
  refine ht.mono ?_
  rintro e w1 ⟨a1, c1, rfl, ho1, hb1⟩
  go_wp2
  go_ret
  exact ⟨rfl, hb1⟩
 ·have hb : ((us.length : Int) == 0) = false := beq_eq_false_iff_ne.2 (by omega)
  obtain ⟨d, hd⟩ : ∃ d, d = us.getD (us.length - 1) 0 := ⟨_, rfl⟩
  have hbl := blen_val huw hn (by intro h; simp [h] at h0)
  rw [← hd] at hbl
  have hdl : d < 4294967296 := by rw [hd]; exact wf_getD huw _
  obtain ⟨B, hB⟩ : ∃ B, B = blen (val us) := ⟨_, rfl⟩
  have hBl : B ≤ 562949953421344 := by have := blen_u32 hdl; omega
  rw [← hB] at hbl ⊢
  have HBL := hid hbl
  have HD := hid hd
  clear hd hn hbl hB
  go_enter Tryz.func232, Tryz.ntmps232
  go_wp2_with fail
  refine ht.mono ?_
  rintro e w1 ⟨a1, c1, rfl, ho1, hb1⟩
  rcases ho1.rd.lies with h1 | ⟨b, off, rfl, hcell⟩
  ·simp [h1] at h0
  have hc := hcell (us.length - 1) (by omega)
  rw [← HD.out] at hc
  clear hcell ht ho1
  go_wp2
  go_loop [3, 4] (fun nv tv => ∃ n t : Nat, nv = .int .i64 (n : Int) ∧ tv = .int .u32 (t : Int) ∧ t < 4294967296 ∧ Hid (n + blen t = B) ∧ n ≤ B) (fun _ tv => (intOf tv).toNat)
  case atStart => exact ⟨32 * (us.length - 1), d, int_eq (by omega), rfl, hdl, by have := HBL.out; show _ = _; omega, by have := HBL.out; omega⟩
  case round =>
   obtain ⟨n, t, rfl, rfl, htl, HN, hnB⟩ := hrel
   by_cases ht0 : t = 0
   ·subst ht0
    obtain rfl : n = B := by have := HN.out; rw [blen_zero] at this; omega
    go_wp2
    go_ret
    exact ⟨rfl, hb1⟩
   ·have hh := blen_half ht0
    have hp : (t : Int) > 0 := by omega
    have hn1 : n + 1 ≤ B := by have := HN.out; omega
    have HH := hid hh
    clear hh
    go_wp2
    refine ⟨⟨n + 1, t / 2, by simp, int_eq (by omega), by omega, ?_, hn1⟩, by simp [intOf]; omega⟩
    have := HN.out
    have := HH.out
    show _ = _
    omega

def RetSmall (v r : Nat) (w : World) (e : Ending) (w' : World) : Prop :=
 ∃ ao c, e = .returned (.tuple #[.slice ao (nd v).length c, .int .u32 (r : Int)]) ∧ Own w.heap.size w' ao c (nd v) ∧ Below w.heap.size w w'

theorem rsmall_any (ao : Option Addr) (c D : Nat) (xs : List Nat) (w : World) (h : Rd w ao c xs) (hl : xs.length ≤ 17592186044416) (hD : D < 4294967296) (hD0 : 0 < D) :
  Calls Tryz.prog 161 #[.slice ao xs.length c, .int .u32 (D : Int)] w (RetSmall (val xs / D) (val xs % D) w) := by
 have hax := h.le
 have hax2 := h.cm
 have hxw := h.dg
 go_enter Tryz.func161, Tryz.ntmps161
 go_wp2_with (at_make; refine wp_make _ rfl _ rfl w.heap.size xs.length _ rfl rfl (by omega) (Nat.le_refl _) ?_; intro w1 hown1 hbel1 hsz1)
 go_loopw [7, 8] (fun cv iv wr => ∃ j r : Nat, j ≤ xs.length ∧ cv = .int .u64 (r : Int) ∧ iv = .int .i64 ((j : Int) - 1) ∧ r < D ∧ Hid (r = val (xs.drop j) % D) ∧
   Own w.heap.size wr (some ⟨w.heap.size, 0, none⟩) xs.length ((List.replicate xs.length 0).take j ++ dig (xs.length - j) (val (xs.drop j) / D)) ∧ Below w.heap.size w wr) (fun _ iv _ => (intOf iv + 1).toNat)
 case atStart =>
  refine ⟨xs.length, 0, Nat.le_refl _, rfl, rfl, hD0, ?_, ?_, hbel1⟩
  ·show 0 = _
   rw [List.drop_length]; simp [val]
  ·rw [Nat.sub_self, dig, List.append_nil, List.take_of_length_le (by simp)]; exact hown1
 case round =>
  obtain ⟨j, r, hj, rfl, rfl, hrl, HR, hown, hbel⟩ := hrel
  by_cases hj0 : j = 0
  ·subst hj0
   have hr := HR.out
   simp only [List.drop_zero, List.take_zero, List.nil_append, Nat.sub_zero] at hr hown
   have hv : val (dig xs.length (val xs / D)) = val xs / D := by
    rw [val_dig, Nat.mod_eq_of_lt (Nat.lt_of_le_of_lt (Nat.div_le_self _ _) (val_lt hxw))]
   have ht := rtrim_any _ _ _ wr hown.rd (by rw [length_dig]; omega)
   rw [length_dig, hv] at ht
   have HR2 := hid hr
   have hri : (r : Int) % 4294967296 = (r : Int) := by omega
   clear hown hv hr
   go_wp2_with fail
   refine ht.mono ?_
   rintro e w5 ⟨a5, c5, rfl, ho5, hb5⟩
   go_wp2
   go_ret2
   exact ⟨a5, c5, by rw [HR2.out]; rfl, ho5.mono hbel.size, hbel.trans (hb5.mono hbel.size)⟩
  ·obtain ⟨i, rfl⟩ : ∃ i, j = i + 1 := ⟨j - 1, by omega⟩
   have hra := h.below hbel
   rcases hra.lies with h9 | ⟨b1, o1, rfl, hc1⟩
   ·simp [h9] at hj
   obtain ⟨x, hx⟩ : ∃ x, x = xs.getD i 0 := ⟨_, rfl⟩
   have hxl : x < 4294967296 := by rw [hx]; exact wf_getD hxw i
   have g1 := hc1 i (by omega)
   rw [← hx] at g1
   have hLl : ((List.replicate xs.length 0).take (i + 1) ++ dig (xs.length - (i + 1)) (val (xs.drop (i + 1)) / D)).length = xs.length := by simp [length_dig]; omega
   have hcell := hown.cell i (by rw [hLl]; omega)
   obtain ⟨z, hz⟩ : ∃ z, z = ((List.replicate xs.length 0).take (i + 1) ++ dig (xs.length - (i + 1)) (val (xs.drop (i + 1)) / D)).getD i 0 := ⟨_, rfl⟩
   rw [← hz] at hcell
   have hfr := hown.frozen i
   obtain ⟨q, hq⟩ : ∃ q, q = x + 4294967296 * r % 18446744073709551616 := ⟨_, rfl⟩
   obtain ⟨horr, hql, hqm⟩ := or_dig r x q hxl hq
   rw [or_dig_wrap (by omega)] at horr
   have hq2 : q = 4294967296 * r + x := by omega
   have hst := div_step x (val (xs.drop (i + 1))) D hD0
   have hlt := div_step_lt (u := x) (v := val (xs.drop (i + 1))) hxl hD0
   rw [← HR.out, ← hq2] at hst hlt
   have hvd : val (xs.drop i) = x + 4294967296 * val (xs.drop (i + 1)) := by rw [val_drop (by omega), hx]
   have hqi : ((q : Int) / (D : Int)) = ((q / D : Nat) : Int) := by simp
   have hqmi : ((q : Int) % (D : Int)) = ((q % D : Nat) : Int) := by simp
   obtain ⟨qd, hqd1⟩ : ∃ qd, qd = q / D := ⟨_, rfl⟩
   obtain ⟨qr, hqr1⟩ : ∃ qr, qr = q % D := ⟨_, rfl⟩
   have hqd : qd < 4294967296 := by rw [hqd1]; exact hlt
   rw [← hqd1] at hqi
   rw [← hqr1] at hqmi
   have hqrl : qr < D := by rw [hqr1]; exact Nat.mod_lt _ hD0
   have hset : (((List.replicate xs.length 0).take (i + 1) ++ dig (xs.length - (i + 1)) (val (xs.drop (i + 1)) / D)).set i qd) = (List.replicate xs.length 0).take i ++ dig (xs.length - i) (val (xs.drop i) / D) := by
    have := set_down (zs := List.replicate xs.length 0) (i := i) (v := val (xs.drop (i + 1)) / D) (by simp; omega) hqd
    simp only [List.length_replicate] at this
    rw [this, hvd, hst.1, ← hqd1]
   have hnew : ∀ u : Int, u = (qd : Int) → Own w.heap.size (wr.setCell ⟨w.heap.size, i, none⟩ (.int .u32 u)) (some ⟨w.heap.size, 0, none⟩) xs.length ((List.replicate xs.length 0).take i ++ dig (xs.length - i) (val (xs.drop i) / D)) := by
    intro u hu
    have h := hown.set i qd u hu hqd (by rw [hLl]; omega)
    rwa [hset] at h
   have HP := hid (And.intro hst (And.intro hvd (And.intro hqd1 hqr1)))
   have HNEW := hid hnew
   have hii : (i : Int) < (xs.length : Int) := by omega
   clear hx hLl hq hq2 hst hlt hvd hqd1 hqr1 hqm hset hnew hown hc1 hra hz
   go_wp2
   have hp := HP.out
   refine ⟨⟨i, qr, by omega, int_eq hqmi, int_eq (by omega), hqrl, ?_, HNEW.out _ (by first | omega | exact hqi | (rw [hqi]; omega)), Below.setCell hbel (Nat.le_refl _) _⟩, by simp [intOf]⟩
   show _ = _
   rw [hp.2.1, hp.1.2, hp.2.2.2]
end Go.Proofs.YtcankknlbljicaaGreatDoor

namespace Go.Proofs.YtcankknlbljicaaGreatDoor
open Go.RowKit Num

theorem rshiftUp (ao : Option Addr) (c m : Nat) (xs : List Nat) (w : World) (h : Rd w ao c xs) (hl : xs.length ≤ 8796093022208) (hm : m ≤ 65536) :
  Calls Tryz.prog 233 #[.slice ao xs.length c, .int .i64 (m : Int)] w (RetOwn w.heap.size (nd (val xs * 2 ^ m)) w) := by
 have ht := rtrim_any ao c xs w h (by omega)
 have hlen := nd_length_le_of h.dg
 obtain ⟨us, hus⟩ : ∃ us, us = nd (val xs) := ⟨_, rfl⟩
 have hv : val us = val xs := by rw [hus, val_nd]
 have huw : wf us := by rw [hus]; exact wf_nd _
 rw [← hus] at ht hlen
 rw [← hv]
 clear hv hus h
 by_cases h0 : us.length = 0
 ·have hu : us = [] := List.eq_nil_of_length_eq_zero h0
  subst hu
  have hb : ((([] : List Nat).length : Int) == 0) = true := by simp
  have e0 : nd (val [] * 2 ^ m) = [] := by rw [val, Nat.zero_mul, nd_zero]
  rw [e0]
  go_enter Tryz.func233, Tryz.ntmps233
  go_wp2_with fail
  refine ht.mono ?_
  rintro e w1 ⟨a1, c1, rfl, ho1, hb1⟩
  go_wp2
  go_ret
  exact ⟨none, 0, rfl, Own.nil _ _, hb1⟩
 ·have hb : ((us.length : Int) == 0) = false := beq_eq_false_iff_ne.2 (by omega)
  obtain ⟨z, hz⟩ : ∃ z, z = m / 32 := ⟨_, rfl⟩
  obtain ⟨r, hr⟩ : ∃ r, r = m % 32 := ⟨_, rfl⟩
  have hzi : (m : Int) / 32 = (z : Int) := by omega
  have hri : (m : Int) % 32 = (r : Int) := by omega
  have hrl : r ≤ 31 := by omega
  have hzl : z ≤ 2048 := by omega
  have hmz : m = r + 32 * z := by omega
  have HM := hid hmz
  clear hz hr hmz
  go_enter Tryz.func233, Tryz.ntmps233
  go_wp2_with fail
  refine ht.mono ?_
  rintro e w1 ⟨a1, c1, rfl, ho1, hb1⟩
  clear ht
  go_wp2_with (at_make; refine wp_make _ rfl _ rfl w1.heap.size z _ rfl rfl (by omega) (Nat.le_refl _) ?_; intro w2 hown2 hbel2 hsz2)
  go_loopw [8, 9, 10] (fun ov cv iv wr => ∃ (k cy : Nat) (a3 : Option Addr) (c3 : Nat), k ≤ us.length ∧ ov = .slice a3 (z + k) c3 ∧ cv = .int .u64 (cy : Int) ∧ iv = .int .i64 (k : Int) ∧ Hid (cy < 2 ^ r) ∧ Hid ((val (us.take k) * 2 ^ r) / 4294967296 ^ k = cy) ∧
    Own w1.heap.size wr a3 c3 (List.replicate z 0 ++ dig k (val (us.take k) * 2 ^ r)) ∧ Below w1.heap.size w1 wr) (fun _ _ iv _ => us.length - (intOf iv).toNat)
  case atStart => exact ⟨0, 0, _, _, Nat.zero_le _, rfl, rfl, rfl, Nat.pow_pos (by omega), by simp [Hid, val], by simpa [dig] using hown2, hbel2⟩
  case round =>
   obtain ⟨k, cy, a3, c3, hk, rfl, rfl, rfl, HL, HC, hown, hbel⟩ := hrel
   have hcl : cy < 4294967296 := Nat.lt_of_lt_of_le HL.out (Nat.le_trans (pow_le31 hrl) (by omega))
   have hll : (List.replicate z 0 ++ dig k (val (us.take k) * 2 ^ r)).length = z + k := by rw [List.length_append, List.length_replicate, length_dig]
   have hk35 : z + k + 1 ≤ 35184372088832 := by omega
   by_cases hlt : k < us.length
   ·have hra := (ho1.below hbel).rd
    rcases hra.lies with h9 | ⟨b1, o1, rfl, hc1⟩
    ·simp [h9] at hlt
    obtain ⟨x, hx⟩ : ∃ x, x = us.getD k 0 := ⟨_, rfl⟩
    have hxl : x < 4294967296 := by rw [hx]; exact wf_getD huw k
    have g1 := hc1 k hlt
    rw [← hx] at g1
    obtain ⟨t, htt⟩ : ∃ t, t = cy + x * 2 ^ r := ⟨_, rfl⟩
    obtain ⟨horr, htl⟩ := or_shift cy x r t hrl HL.out hxl htt
    obtain ⟨d, hd⟩ : ∃ d, d = t % 4294967296 := ⟨_, rfl⟩
    have hdl : d < 4294967296 := by omega
    have hdi : (t : Int) % 4294967296 = (d : Int) := by omega
    have hst := add_step (x := x * 2 ^ r) HC.out htt
    have e1 : val (us.take (k + 1)) * 2 ^ r = val (us.take k) * 2 ^ r + 4294967296 ^ k * (x * 2 ^ r) := by
     rw [val_take_succ hlt, ← hx]; grind
    rw [← e1, ← hd] at hst
    have hcn : t / 4294967296 < 2 ^ r := by
     rw [← hst.2]
     refine Nat.div_lt_of_lt_mul ?_
     exact Nat.mul_lt_mul_of_pos_right (val_take_lt huw (k + 1)) (Nat.pow_pos (by omega))
    have HST := hid (And.intro hst hcn)
    have HON := hid (Own.one wr wr.heap.size d (Nat.le_refl _) hdl)
    have HOWN := hid hown
    have HBEL := hid hbel
    have HLL := hid hll.symm
    have hki : (k : Int) < (us.length : Int) := by omega
    clear hx hd hst e1 hcn hc1 hra hown hbel hll htt
    go_wp2_with (at_builtin; refine wp_append _ rfl _ _ rfl w1.heap.size a3 (some ⟨wr.heap.size, 0, none⟩) (z + k) 1 c3 1 (List.replicate z 0 ++ dig k (val (us.take k) * 2 ^ r)) [d] rfl ?c0 HLL.out rfl (HOWN.out.below (below_alloc _ _)) ?c1 hk35 ?c2 ?c3)
    case c0 => go_simp
    case c1 => exact HON.out.rd
    case c2 => exact Nat.le_trans HBEL.out.size (below_alloc _ _).size
    intro a4 c4 w9 ho3 hb3
    have hb9 := (HBEL.out.trans ((below_alloc wr (.cells #[.int .u32 (d : Int)] 88)).mono HBEL.out.size)).trans hb3
    rw [← HST.out.1.1] at ho3
    have H3 := hid (And.intro HST.out.2 (And.intro HST.out.1.2 (And.intro ho3 hb9)))
    clear ho3 hb3 hb9
    go_wp2
    refine ⟨⟨k + 1, t / 4294967296, a4, c4, by omega, by rw [Nat.add_assoc], int_eq (by omega), by simp, H3.out⟩, by simp [intOf]; omega⟩
   ·obtain rfl : k = us.length := by omega
    have hke : ¬ ((us.length : Int) < (us.length : Int)) := by omega
    obtain ⟨T, hT⟩ : ∃ T, T = val us * 2 ^ r := ⟨_, rfl⟩
    have hc := HC.out
    rw [List.take_length, ← hT] at hc hown
    have hval : val (List.replicate z 0 ++ dig us.length T ++ [cy]) = val us * 2 ^ m := by
     rw [List.append_assoc, val_append, val_replicate, List.length_replicate, val_snoc, val_dig, length_dig, ← hc, Nat.mod_add_div, hT, HM.out, Nat.pow_add, Nat.pow_mul]
     simp only [Nat.zero_add]
     grind
    have hci : (cy : Int) % 4294967296 = (cy : Int) := by omega
    have hll2 : (List.replicate z 0 ++ dig us.length T).length = z + us.length := by rw [List.length_append, List.length_replicate, length_dig]
    have hll3 : (List.replicate z 0 ++ dig us.length T ++ [cy]).length = z + us.length + 1 := by rw [List.length_append, hll2]; rfl
    have HON := hid (Own.one wr wr.heap.size cy (Nat.le_refl _) hcl)
    have HOWN := hid hown
    have HBEL := hid hbel
    have HV := hid hval
    have HL2 := hid hll2.symm
    have HL3 := hid hll3
    have HTT := hid hT
    clear hown hbel hval hll hll2 hll3 hT hc hlt hk
    go_wp2_with (at_builtin; refine wp_append _ rfl _ _ rfl w1.heap.size a3 (some ⟨wr.heap.size, 0, none⟩) (z + us.length) 1 c3 1 (List.replicate z 0 ++ dig us.length T) [cy] rfl ?d0 HL2.out rfl (HOWN.out.below (below_alloc _ _)) ?d1 hk35 ?d2 ?d3)
    case d1 => exact HON.out.rd
    case d2 => exact Nat.le_succ_of_le HBEL.out.size
    intro a4 c4 w9 ho3 hb3
    have hb9 := (HBEL.out.trans ((below_alloc wr (.cells #[.int .u32 (cy : Int)] 88)).mono HBEL.out.size)).trans hb3
    have ht := rtrim_any a4 c4 (List.replicate z 0 ++ dig us.length T ++ [cy]) w9 (by simpa using ho3.rd) (by rw [HL3.out]; omega)
    rw [HV.out, HL3.out] at ht
    have hb19 := hb1.trans (hb9.mono hb1.size)
    clear ho3 hb3 hb9
    go_wp2_with fail
    refine ht.mono ?_
    rintro e w10 ⟨a5, c5, rfl, ho5, hb5⟩
    go_wp2
    go_ret
    exact ⟨a5, c5, rfl, ho5.mono hb19.size, hb19.trans (hb5.mono hb19.size)⟩

theorem or_word (x y q : Nat) (hx : x < 4294967296) (hy : y < 4294967296) (hq : q = x + 4294967296 * y) : bits .or .u64 (x : Int) ((y : Int) * 4294967296) = (q : Int) := by
 have h := or_low 32 x (y * 4294967296) (by omega) (by simp) (by omega) (by omega)
 rw [show ((y * 4294967296 : Nat) : Int) = (y : Int) * 4294967296 by simp] at h
 rw [h, hq]; congr 1; omega

theorem rshiftDown (ao : Option Addr) (c m : Nat) (xs : List Nat) (w : World) (h : Rd w ao c xs) (hl : xs.length ≤ 8796093022208) (hm0 : 0 < m) (hm : m ≤ 9223372036854775808) :
  Calls Tryz.prog 233 #[.slice ao xs.length c, .int .i64 (-(m : Int))] w (RetOwn w.heap.size (nd (val xs / 2 ^ m)) w) := by
 have ht := rtrim_any ao c xs w h (by omega)
 have hlen := nd_length_le_of h.dg
 obtain ⟨us, hus⟩ : ∃ us, us = nd (val xs) := ⟨_, rfl⟩
 have hv : val us = val xs := by rw [hus, val_nd]
 have huw : wf us := by rw [hus]; exact wf_nd _
 rw [← hus] at ht hlen
 rw [← hv]
 clear hv hus h
 by_cases h0 : us.length = 0
 ·have hu : us = [] := List.eq_nil_of_length_eq_zero h0
  subst hu
  have hb : ((([] : List Nat).length : Int) == 0) = true := by simp
  have e0 : nd (val [] / 2 ^ m) = [] := by rw [val, Nat.zero_div, nd_zero]
  rw [e0]
  go_enter Tryz.func233, Tryz.ntmps233
  go_wp2_with fail
  refine ht.mono ?_
  rintro e w1 ⟨a1, c1, rfl, ho1, hb1⟩
  go_wp2
  go_ret
  exact ⟨none, 0, rfl, Own.nil _ _, hb1⟩
 ·have hb : ((us.length : Int) == 0) = false := beq_eq_false_iff_ne.2 (by omega)
  by_cases hfar : 32 * us.length < m
  ·have e0 : val us / 2 ^ m = 0 := by
    refine Nat.div_eq_of_lt (Nat.lt_of_lt_of_le (val_lt huw) ?_)
    rw [show (4294967296 : Nat) = 2 ^ 32 from rfl, ← Nat.pow_mul]
    exact Nat.pow_le_pow_right (by omega) (by omega)
   rw [e0, nd_zero]
   have hfi : -(m : Int) < -32 * (us.length : Int) := by omega
   have hneg : -(m : Int) < 0 := by omega
   clear e0 huw
   go_enter Tryz.func233, Tryz.ntmps233
   go_wp2_with fail
   refine ht.mono ?_
   rintro e w1 ⟨a1, c1, rfl, ho1, hb1⟩
   go_wp2
   go_ret
   exact ⟨none, 0, rfl, Own.nil _ _, hb1⟩
  ·obtain ⟨z, hz⟩ : ∃ z, z = m / 32 := ⟨_, rfl⟩
   obtain ⟨r, hr⟩ : ∃ r, r = m % 32 := ⟨_, rfl⟩
   have hzi : (m : Int) / 32 = (z : Int) := by omega
   have hri : (m : Int) % 32 = (r : Int) := by omega
   have hrl : r ≤ 31 := by omega
   have hzl : z ≤ us.length := by omega
   have hmz : m = 32 * z + r := by omega
   have HM := hid hmz
   have hfi : ¬ -(m : Int) < -32 * (us.length : Int) := by omega
   have hneg : -(m : Int) < 0 := by omega
   have hml : m ≤ 281474976710656 := by omega
   clear hz hr hmz
   go_enter Tryz.func233, Tryz.ntmps233
   go_wp2_with fail
   refine ht.mono ?_
   rintro e w1 ⟨a1, c1, rfl, ho1, hb1⟩
   clear ht
   go_wp2_with fail
   go_loopw [5, 6] (fun ov iv wr => ∃ (j : Nat) (a3 : Option Addr) (c3 : Nat), j + z ≤ us.length ∧ ov = .slice a3 j c3 ∧ iv = .int .i64 ((j : Int) + (z : Int)) ∧
     Own w1.heap.size wr a3 c3 (dig j (val us / 2 ^ m)) ∧ Below w1.heap.size w1 wr) (fun _ iv _ => us.length - (intOf iv).toNat)
   case atStart => exact ⟨0, none, 0, by omega, rfl, int_eq (by omega), Own.nil _ _, Below.refl _ _⟩
   case round =>
    obtain ⟨j, a3, c3, hj, rfl, rfl, hown, hbel⟩ := hrel
    have hk35 : j + 1 ≤ 35184372088832 := by omega
    by_cases hlt : j + z < us.length
    ·have hra := (ho1.below hbel).rd
     rcases hra.lies with h9 | ⟨b1, o1, rfl, hc1⟩
     ·simp [h9] at hlt
     obtain ⟨x, hx⟩ : ∃ x, x = us.getD (j + z) 0 := ⟨_, rfl⟩
     have hxl : x < 4294967296 := by rw [hx]; exact wf_getD huw _
     have g1 := hc1 (j + z) hlt
     rw [← hx] at g1
     have HX := hid hx
     have hji : (j : Int) + (z : Int) < (us.length : Int) := by omega
     by_cases hlt2 : j + z + 1 < us.length
     ·obtain ⟨h, hh⟩ : ∃ h, h = us.getD (j + z + 1) 0 := ⟨_, rfl⟩
      have hhl : h < 4294967296 := by rw [hh]; exact wf_getD huw _
      have g2 := hc1 (j + z + 1) hlt2
      rw [← hh] at g2
      have hji2 : (j : Int) + (z : Int) + 1 < (us.length : Int) := by omega
      obtain ⟨q, hq0⟩ : ∃ q, q = x + 4294967296 * h := ⟨_, rfl⟩
      have horr := or_word x h q hxl hhl hq0
      have hql : q < 18446744073709551616 := by omega
      have hq : q = x + 4294967296 * h % 18446744073709551616 := by omega
      have hdg := div_digit (xs := us) (j := j) (w := z) (r := r) (h := h) huw hrl (by omega) (by rw [← hh]; omega)
      rw [← HX.out, ← hq, ← HM.out] at hdg
      obtain ⟨d, hd⟩ : ∃ d, d = q / 2 ^ r % 4294967296 := ⟨_, rfl⟩
      have hdl : d < 4294967296 := by omega
      have hdi : (q : Int) / 2 ^ r % 4294967296 = (d : Int) := by rw [hd]; simp
      have hds : dig (j + 1) (val us / 2 ^ m) = dig j (val us / 2 ^ m) ++ [d] := by rw [dig_succ, hdg, hd]
      have HDS := hid hds.symm
      have HON := hid (Own.one wr wr.heap.size d (Nat.le_refl _) hdl)
      have HOWN := hid hown
      have HBEL := hid hbel
      clear hd hdg hds hown hbel hq hx hh hq0 hc1 hra
      go_wp2_with (at_builtin; refine wp_append _ rfl _ _ rfl w1.heap.size a3 (some ⟨wr.heap.size, 0, none⟩) j 1 c3 1 (dig j (val us / 2 ^ m)) [d] rfl ?c0 (length_dig _ _).symm rfl (HOWN.out.below (below_alloc _ _)) ?c1 hk35 ?c2 ?c3)
      case c0 => go_simp
      case c1 => exact HON.out.rd
      case c2 => exact Nat.le_trans HBEL.out.size (below_alloc _ _).size
      intro a4 c4 w9 ho3 hb3
      have hb9 := (HBEL.out.trans ((below_alloc wr (.cells #[.int .u32 (d : Int)] 88)).mono HBEL.out.size)).trans hb3
      rw [HDS.out] at ho3
      have H3 := hid (And.intro ho3 hb9)
      clear ho3 hb3 hb9
      go_wp2
      refine ⟨⟨j + 1, a4, c4, by omega, rfl, int_eq (by omega), H3.out⟩, by simp [intOf]; omega⟩
     ·have hji2 : ¬ (j : Int) + (z : Int) + 1 < (us.length : Int) := by omega
      obtain ⟨h, hh⟩ : ∃ h : Nat, h = 0 := ⟨_, rfl⟩
      obtain ⟨q, hq0⟩ : ∃ q, q = x := ⟨_, rfl⟩
      have hql : q < 18446744073709551616 := by omega
      have hq : q = x + 4294967296 * h % 18446744073709551616 := by omega
      have hdg := div_digit (xs := us) (j := j) (w := z) (r := r) (h := h) huw hrl (by omega) (by rw [List.getD_eq_getElem?_getD, List.getElem?_eq_none (by omega), hh]; rfl)
      rw [← HX.out, ← hq, ← HM.out] at hdg
      obtain ⟨d, hd⟩ : ∃ d, d = q / 2 ^ r % 4294967296 := ⟨_, rfl⟩
      have hdl : d < 4294967296 := by omega
      have hdi : (q : Int) / 2 ^ r % 4294967296 = (d : Int) := by rw [hd]; simp
      have hds : dig (j + 1) (val us / 2 ^ m) = dig j (val us / 2 ^ m) ++ [d] := by rw [dig_succ, hdg, hd]
      have HDS := hid hds.symm
      have HON := hid (Own.one wr wr.heap.size d (Nat.le_refl _) hdl)
      have HOWN := hid hown
      have HBEL := hid hbel
      clear hd hdg hds hown hbel hq hx hh hc1 hra
      subst hq0
      go_wp2_with (at_builtin; refine wp_append _ rfl _ _ rfl w1.heap.size a3 (some ⟨wr.heap.size, 0, none⟩) j 1 c3 1 (dig j (val us / 2 ^ m)) [d] rfl ?d0 (length_dig _ _).symm rfl (HOWN.out.below (below_alloc _ _)) ?d1 hk35 ?d2 ?d3)
      case d1 => exact HON.out.rd
      case d2 => exact Nat.le_succ_of_le HBEL.out.size
      intro a4 c4 w9 ho3 hb3
      have hb9 := (HBEL.out.trans ((below_alloc wr (.cells #[.int .u32 (d : Int)] 88)).mono HBEL.out.size)).trans hb3
      rw [HDS.out] at ho3
      have H3 := hid (And.intro ho3 hb9)
      clear ho3 hb3 hb9
      go_wp2
      refine ⟨⟨j + 1, a4, c4, by omega, rfl, int_eq (by omega), H3.out⟩, by simp [intOf]; omega⟩
    ·have hke : ¬ ((j : Int) + (z : Int) < (us.length : Int)) := by omega
     have hend : us.length = j + z := by omega
     have hT : val (dig j (val us / 2 ^ m)) = val us / 2 ^ m := by
      rw [val_dig, Nat.mod_eq_of_lt]
      refine Nat.div_lt_of_lt_mul ?_
      have e2 : 2 ^ m = 4294967296 ^ z * 2 ^ r := by rw [HM.out, Nat.pow_add, Nat.pow_mul]
      have h1 := val_lt huw
      rw [hend, Nat.pow_add] at h1
      rw [e2, show 4294967296 ^ z * 2 ^ r * 4294967296 ^ j = 4294967296 ^ j * 4294967296 ^ z * 2 ^ r by grind]
      exact Nat.lt_of_lt_of_le h1 (Nat.le_mul_of_pos_right _ (Nat.pow_pos (by omega)))
     have ht := rtrim_any a3 c3 (dig j (val us / 2 ^ m)) wr hown.rd (by rw [length_dig]; omega)
     rw [length_dig, hT] at ht
     have hb19 := hb1.trans (hbel.mono hb1.size)
     clear hend hT hown hbel hlt
     go_wp2_with fail
     refine ht.mono ?_
     rintro e w10 ⟨a5, c5, rfl, ho5, hb5⟩
     go_wp2
     go_ret
     exact ⟨a5, c5, rfl, ho5.mono hb19.size, hb19.trans (hb5.mono hb19.size)⟩

theorem rshift_any (ao : Option Addr) (c : Nat) (n : Int) (xs : List Nat) (w : World) (h : Rd w ao c xs) (hl : xs.length ≤ 8796093022208) (hn : -9223372036854775808 ≤ n) (hn2 : n ≤ 65536) :
  Calls Tryz.prog 233 #[.slice ao xs.length c, .int .i64 n] w (RetOwn w.heap.size (nd (shiftN (val xs) n)) w) := by
 by_cases h2 : 0 ≤ n
 ·obtain ⟨m, rfl⟩ := Int.eq_ofNat_of_zero_le h2
  have HZ : shiftN (val xs) (m : Int) = val xs * 2 ^ m := by rw [shiftN, if_neg (by omega), if_pos h2]; simp
  rw [HZ]
  exact rshiftUp ao c m xs w h hl (by omega)
 ·obtain ⟨m, hm⟩ := Int.eq_ofNat_of_zero_le (show 0 ≤ -n by omega)
  obtain rfl : n = -(m : Int) := by omega
  have HZ : shiftN (val xs) (-(m : Int)) = val xs / 2 ^ m := by rw [shiftN, if_neg (by omega), if_neg h2]; simp
  rw [HZ]
  exact rshiftDown ao c m xs w h hl (by omega) (by omega)
end Go.Proofs.YtcankknlbljicaaGreatDoor
