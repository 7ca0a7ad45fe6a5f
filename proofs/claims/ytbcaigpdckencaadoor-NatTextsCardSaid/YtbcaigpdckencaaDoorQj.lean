/- Walks: the reference's Mul. · Walks: the reference's BitLen, small. -/
import Derived.Test.YtbcaigpdckencaaDoorQi

namespace Go.Proofs.YtbcaigpdckencaaDoor
open Go.RowKit Num

theorem mul_inner {V T c z m t : Nat} (h : T / 4294967296 ^ m = V / 4294967296 ^ m + c) (ht : t = c + (z + V / 4294967296 ^ m % 4294967296)) :
    dig (m + 1) (T + 4294967296 ^ m * z) = dig m T ++ [t % 4294967296] ∧ (T + 4294967296 ^ m * z) / 4294967296 ^ (m + 1) = V / 4294967296 ^ (m + 1) + t / 4294967296 := by
  have e1 : (T + 4294967296 ^ m * z) / 4294967296 ^ m = V / 4294967296 ^ m + c + z := by rw [Nat.add_mul_div_left _ _ (pow_pos m), h]
  obtain ⟨q, hq⟩ : ∃ q, q = V / 4294967296 ^ m := ⟨_, rfl⟩
  rw [← hq] at e1 ht
  constructor
  · rw [dig_succ, e1, ← dig_mod m (T + _), Nat.add_mul_mod_self_left, dig_mod]
    congr 2; omega
  · rw [Nat.pow_succ, ← Nat.div_div_eq_div_mul, ← Nat.div_div_eq_div_mul, e1, ← hq]
    omega
theorem mul_last {N V V' m c : Nat} (hV : V < 4294967296 ^ m) (hm : m < N) (hc : V' / 4294967296 ^ m = c) (hcl : c < 4294967296) :
    dig m V' ++ [c] ++ (dig N V).drop (m + 1) = dig N V' := by
  obtain ⟨j, rfl⟩ : ∃ j, N = m + 1 + j := ⟨N - (m + 1), by omega⟩
  have e1 : V / 4294967296 ^ (m + 1) = 0 := Nat.div_eq_of_lt (Nat.lt_of_lt_of_le hV (Nat.pow_le_pow_right (by omega) (by omega)))
  have e2 : V' / 4294967296 ^ (m + 1) = 0 := by rw [Nat.pow_succ, ← Nat.div_div_eq_div_mul, hc, Nat.div_eq_of_lt hcl]
  rw [dig_append (m + 1) j V, dig_append (m + 1) j V', e1, e2, List.drop_left' (length_dig _ _), dig_succ, hc, Nat.mod_eq_of_lt hcl]
theorem getD_dig {N V m : Nat} (h : m < N) : (dig N V).getD m 0 = V / 4294967296 ^ m % 4294967296 := by
  obtain ⟨s, hs⟩ : ∃ s, N - m = s + 1 := ⟨N - m - 1, by omega⟩
  rw [← val_drop' (wf_dig N V), drop_dig (by omega), val_dig, hs, Nat.pow_succ', Nat.mod_mul_right_mod]

set_option maxRecDepth 100000 in
set_option maxHeartbeats 3200000 in
theorem rmul_any (aa ab : Option Addr) (ca cb : Nat) (xs ys : List Nat) (w : World) (ha : Rd w aa ca xs) (hb : Rd w ab cb ys) (hl1 : xs.length ≤ 4398046511104) (hl2 : ys.length ≤ 4398046511104) :
    Calls Tryd.prog 54 #[.slice aa xs.length ca, .slice ab ys.length cb] w (RetOwn w.heap.size (nd (val xs * val ys)) w) := by
  have hax := ha.le
  have hax2 := ha.cm
  have hay := hb.le
  have hay2 := hb.cm
  have hxw := ha.dg
  have hyw := hb.dg
  go_enter Tryd.func54, Tryd.ntmps54
  go_wp2_with (at_make; refine wp_make _ rfl _ rfl w.heap.size (xs.length + ys.length + 1) _ rfl (by omega) (by omega) (Nat.le_refl _) ?_; intro w1 hown1 hbel1 hsz1)
  go_loopw [6] (fun iv wr => ∃ k : Nat, k ≤ xs.length ∧ iv = .int .i64 (k : Int) ∧ Own w.heap.size wr (some ⟨w.heap.size, 0, none⟩) (xs.length + ys.length + 1) (dig (xs.length + ys.length + 1) (val (xs.take k) * val ys)) ∧ Below w.heap.size w wr)
    (fun iv _ => xs.length - (intOf iv).toNat)
  case atStart => exact ⟨0, Nat.zero_le _, rfl, by simpa [val, dig_zero] using hown1, hbel1⟩
  case round =>
    obtain ⟨k, hk, rfl, hown, hbel⟩ := hrel
    by_cases hlt : k < xs.length
    · obtain ⟨V, hV⟩ : ∃ V, V = val (xs.take k) * val ys := ⟨_, rfl⟩
      obtain ⟨N, hN⟩ : ∃ N, N = xs.length + ys.length + 1 := ⟨_, rfl⟩
      obtain ⟨x, hx⟩ : ∃ x, x = xs.getD k 0 := ⟨_, rfl⟩
      have hxl : x < 4294967296 := by rw [hx]; exact wf_getD hxw k
      have hVl : V < 4294967296 ^ (k + ys.length) := by
        have h3 := Nat.mul_lt_mul_of_lt_of_le (val_take_lt hxw k) (Nat.le_of_lt (val_lt hyw)) (pow_pos _)
        rw [hV, Nat.pow_add]; exact h3
      have hV' : val (xs.take (k + 1)) * val ys = V + 4294967296 ^ k * (x * val ys) := by
        rw [val_take_succ hlt, ← hx, hV]; grind
      have hVB : V + 4294967296 ^ k * (x * val ys) < 4294967296 ^ (k + ys.length + 1) := by
        have h3 := Nat.mul_lt_mul_of_lt_of_le (val_take_lt hxw (k + 1)) (Nat.le_of_lt (val_lt hyw)) (pow_pos _)
        rw [← hV', show k + ys.length + 1 = k + 1 + ys.length by omega, Nat.pow_add]; exact h3
      rw [← hV] at hown
      have hownN : Own w.heap.size wr (some ⟨w.heap.size, 0, none⟩) (xs.length + ys.length + 1) (dig N V) := by rw [hN]; exact hown
      clear hown
      have HV := hid (And.intro hVl (And.intro hV' hVB))
      have hli : (k : Int) < (xs.length : Int) := by omega
      have HX := hid hx
      have HN := hid hN
      clear hV hVl hV' hVB hx hN
      go_wp2
      go_loopw [7, 8] (fun cv jv wr => ∃ j c T : Nat, j ≤ ys.length ∧ cv = .int .u64 (c : Int) ∧ jv = .int .i64 (j : Int) ∧ c < 4294967296 ∧ Hid (T = V + 4294967296 ^ k * (x * val (ys.take j)) ∧ T / 4294967296 ^ (k + j) = V / 4294967296 ^ (k + j) + c) ∧
          Own w.heap.size wr (some ⟨w.heap.size, 0, none⟩) (xs.length + ys.length + 1) (dig (k + j) T ++ (dig N V).drop (k + j)) ∧ Below w.heap.size w wr) (fun _ jv _ => ys.length - (intOf jv).toNat)
      case atStart =>
        refine ⟨0, 0, V, Nat.zero_le _, rfl, rfl, by omega, ⟨by simp [val], by simp⟩, ?_, hbel⟩
        have e : dig (k + 0) V ++ (dig N V).drop (k + 0) = dig N V := by
          obtain ⟨j, hj⟩ : ∃ j, N = k + j := ⟨N - k, by have := HN.out; omega⟩
          rw [hj, dig_append k j V, Nat.add_zero, List.drop_left' (length_dig _ _)]
        rw [e]; exact hownN
      case round =>
        obtain ⟨j, c, T, hj, rfl, rfl, hcl, HT, hownj, hbelj⟩ := hrel
        have hmN : k + j < N := by have := HN.out; omega
        have hmN2 : k + j < (dig N V).length := by rw [length_dig]; exact hmN
        have hll : (dig (k + j) T ++ (dig N V).drop (k + j)).length = xs.length + ys.length + 1 := by rw [length_snoc (length_dig _ _) (by omega), length_dig, HN.out]
        have hcell := hownj.cell (k + j) (by rw [hll]; omega)
        rw [getD_snoc (length_dig _ _), getD_dig hmN] at hcell
        obtain ⟨v, hv⟩ : ∃ v, v = V / 4294967296 ^ (k + j) % 4294967296 := ⟨_, rfl⟩
        have hvl : v < 4294967296 := by rw [hv]; exact Nat.mod_lt _ (by omega)
        rw [← hv] at hcell
        have hfr := hownj.frozen (k + j)
        have hra := ha.below hbelj
        have hrb := hb.below hbelj
        by_cases hlj : j < ys.length
        · obtain ⟨y, hy⟩ : ∃ y, y = ys.getD j 0 := ⟨_, rfl⟩
          have hyl : y < 4294967296 := by rw [hy]; exact wf_getD hyw j
          obtain ⟨p, hp⟩ : ∃ p, p = x * y := ⟨_, rfl⟩
          have hpl : p ≤ 18446744065119617025 := by
            have := Nat.mul_le_mul (show x ≤ 4294967295 by omega) (show y ≤ 4294967295 by omega)
            omega
          obtain ⟨t, ht⟩ : ∃ t, t = c + (p + v) := ⟨_, rfl⟩
          obtain ⟨d, hd⟩ : ∃ d, d = t % 4294967296 := ⟨_, rfl⟩
          have hdl : d < 4294967296 := by omega
          have hst := mul_inner (z := p) (t := t) HT.out.2 (by rw [ht, hv])
          rw [← hd] at hst
          have hT' : T + 4294967296 ^ (k + j) * p = V + 4294967296 ^ k * (x * val (ys.take (j + 1))) := by
            rw [val_take_succ hlj, ← hy, HT.out.1, hp, Nat.pow_add]; grind
          have hnew : ∀ (q : Nat) (u : Int), u = (d : Int) → Own w.heap.size ((wr.drewN q).setCell ⟨w.heap.size, k + j, none⟩ (.int .u32 u)) (some ⟨w.heap.size, 0, none⟩) (xs.length + ys.length + 1) (dig (k + (j + 1)) (T + 4294967296 ^ (k + j) * p) ++ (dig N V).drop (k + (j + 1))) := by
            intro q u hu
            have h := (hownj.drewN q).set (k + j) d u hu hdl (by rw [hll]; omega)
            rw [set_snoc (length_dig _ _) hmN2] at h
            rw [← Nat.add_assoc k j 1, hst.1]; exact h
          have hpi : (x : Int) * (y : Int) = (p : Int) := by rw [hp, Int.natCast_mul]
          have hti : (c : Int) + ((p : Int) + (v : Int)) = (t : Int) := by omega
          have hdi : (t : Int) % 4294967296 = (d : Int) := by omega
          have htl : t ≤ 18446744073709551615 := by omega
          rcases hra.lies with h9 | ⟨b1, o1, rfl, hc1⟩
          · simp [h9] at hlt
          rcases hrb.lies with h9 | ⟨b2, o2, rfl, hc2⟩
          · simp [h9] at hlj
          have g1 := hc1 k hlt
          rw [← HX.out] at g1
          have g2 := hc2 j hlj
          rw [← hy] at g2
          have hlj2 : (j : Int) < (ys.length : Int) := by omega
          have hin : (k : Int) + (j : Int) < (xs.length : Int) + (ys.length : Int) + 1 := by omega
          have HNEW := hid hnew
          have HST := hid (And.intro hT' hst.2)
          clear hc1 hc2 hra hrb hnew hst hT' hv hd ht hp hy hownj hll hmN hmN2 hownN hbel
          go_wp2_with fail
          go_quiet (fail)
          go_wp2
          refine ⟨⟨j + 1, t / 4294967296, _, by omega, int_eq (by omega), by simp, by omega, ⟨HST.out.1, by rw [← Nat.add_assoc]; exact HST.out.2⟩, HNEW.out _ _ rfl, Below.setCell (hbelj.trans ((below_drewN wr _).mono hbelj.size)) (Nat.le_refl _) _⟩, by simp [intOf]; omega⟩
        · obtain rfl : j = ys.length := by omega
          have hjT : T = V + 4294967296 ^ k * (x * val ys) := by have := HT.out.1; rwa [List.take_length] at this
          have hc0 : T / 4294967296 ^ (k + ys.length) = c := by rw [HT.out.2, Nat.div_eq_of_lt HV.out.1, Nat.zero_add]
          have hnew : ∀ u : Int, u = (c : Int) → Own w.heap.size (wr.setCell ⟨w.heap.size, k + ys.length, none⟩ (.int .u32 u)) (some ⟨w.heap.size, 0, none⟩) (xs.length + ys.length + 1) (dig N T) := by
            intro u hu
            have h := hownj.set (k + ys.length) c u hu hcl (by rw [hll]; omega)
            rw [set_snoc (length_dig _ _) hmN2, mul_last HV.out.1 hmN hc0 hcl] at h
            exact h
          have hci : (c : Int) % 4294967296 = (c : Int) := by omega
          have hin : (k : Int) + (ys.length : Int) < (xs.length : Int) + (ys.length : Int) + 1 := by omega
          have HNEW := hid hnew
          have HJ := hid hjT
          clear hra hrb hnew hjT hc0 hv hownj hll hmN hmN2 hownN hbel hlj
          go_wp2
          refine ⟨⟨k + 1, by omega, by simp, ?_, Below.setCell hbelj (Nat.le_refl _) _⟩, by simp [intOf]; omega⟩
          have e : dig (xs.length + ys.length + 1) (val (xs.take (k + 1)) * val ys) = dig N T := by rw [HN.out, HJ.out, HV.out.2.1]
          rw [e]
          exact HNEW.out _ rfl
    · obtain rfl : k = xs.length := by omega
      rw [List.take_length] at hown
      have hv : val (dig (xs.length + ys.length + 1) (val xs * val ys)) = val xs * val ys := by
        rw [val_dig, Nat.mod_eq_of_lt]
        have h3 := Nat.mul_lt_mul_of_lt_of_le (val_lt hxw) (Nat.le_of_lt (val_lt hyw)) (pow_pos _)
        rw [← Nat.pow_add] at h3
        exact Nat.lt_of_lt_of_le h3 (Nat.pow_le_pow_right (by omega) (by omega))
      have ht := rtrim_any _ _ _ wr hown.rd (by rw [length_dig]; omega)
      rw [length_dig, hv] at ht
      clear hown hv hlt hk
      go_wp2_with fail
      refine ht.mono ?_
      rintro e w5 ⟨a5, c5, rfl, ho5, hb5⟩
      go_wp2
      go_ret
      exact ⟨a5, c5, rfl, ho5.mono hbel.size, hbel.trans (hb5.mono hbel.size)⟩
end Go.Proofs.YtbcaigpdckencaaDoor

namespace Go.Proofs.YtbcaigpdckencaaDoor
open Go.RowKit Num

set_option maxRecDepth 100000 in
set_option maxHeartbeats 400000 in
theorem rbitlen_any (ao : Option Addr) (c : Nat) (xs : List Nat) (w : World) (h : Rd w ao c xs) (hl : xs.length ≤ 17592186044416) :
    Calls Tryd.prog 21 #[.slice ao xs.length c] w (RetB (.int .i64 (blen (val xs) : Int)) w) := by
  have ht := rtrim_any ao c xs w h hl
  have hlen := nd_length_le_of h.dg
  obtain ⟨us, hus⟩ : ∃ us, us = nd (val xs) := ⟨_, rfl⟩
  have hv : val us = val xs := by rw [hus, val_nd]
  have hn : nrm us := by rw [hus]; exact nrm_nd _
  have huw : wf us := by rw [hus]; exact wf_nd _
  rw [← hus] at ht hlen
  rw [← hv]
  clear hv hus h
  by_cases h0 : us.length = 0
  · have hu : us = [] := List.eq_nil_of_length_eq_zero h0
    subst hu
    have hb : ((([] : List Nat).length : Int) == 0) = true := by simp
    go_enter Tryd.func21, Tryd.ntmps21
    go_wp2_with fail
    refine ht.mono ?_
    rintro e w1 ⟨a1, c1, rfl, ho1, hb1⟩
    go_wp2
    go_ret
    exact ⟨rfl, hb1⟩
  · have hb : ((us.length : Int) == 0) = false := beq_eq_false_iff_ne.2 (by omega)
    obtain ⟨d, hd⟩ : ∃ d, d = us.getD (us.length - 1) 0 := ⟨_, rfl⟩
    have hbl := blen_val huw hn (by intro h; simp [h] at h0)
    rw [← hd] at hbl
    have hdl : d < 4294967296 := by rw [hd]; exact wf_getD huw _
    obtain ⟨B, hB⟩ : ∃ B, B = blen (val us) := ⟨_, rfl⟩
    have hBl : B ≤ 562949953421344 := by have := blen_u32 hdl; omega
    rw [← hB] at hbl ⊢
    have HBL := hid hbl
    have HD := hid hd
    clear hd hn hbl hB
    go_enter Tryd.func21, Tryd.ntmps21
    go_wp2_with fail
    refine ht.mono ?_
    rintro e w1 ⟨a1, c1, rfl, ho1, hb1⟩
    rcases ho1.rd.lies with h1 | ⟨b, off, rfl, hcell⟩
    · simp [h1] at h0
    have hc := hcell (us.length - 1) (by omega)
    rw [← HD.out] at hc
    clear hcell ht ho1
    go_wp2
    go_loop [3, 4] (fun nv tv => ∃ n t : Nat, nv = .int .i64 (n : Int) ∧ tv = .int .u32 (t : Int) ∧ t < 4294967296 ∧ Hid (n + blen t = B) ∧ n ≤ B) (fun _ tv => (intOf tv).toNat)
    case atStart => exact ⟨32 * (us.length - 1), d, int_eq (by omega), rfl, hdl, by have := HBL.out; show _ = _; omega, by have := HBL.out; omega⟩
    case round =>
      obtain ⟨n, t, rfl, rfl, htl, HN, hnB⟩ := hrel
      by_cases ht0 : t = 0
      · subst ht0
        obtain rfl : n = B := by have := HN.out; rw [blen_zero] at this; omega
        go_wp2
        go_ret
        exact ⟨rfl, hb1⟩
      · have hh := blen_half ht0
        have hp : (t : Int) > 0 := by omega
        have hn1 : n + 1 ≤ B := by have := HN.out; omega
        have HH := hid hh
        clear hh
        go_wp2
        refine ⟨⟨n + 1, t / 2, by simp, int_eq (by omega), by omega, ?_, hn1⟩, by simp [intOf]; omega⟩
        have := HN.out
        have := HH.out
        show _ = _
        omega

/-- a quotient and a digit -/
def RetSmall (v r : Nat) (w : World) (e : Ending) (w' : World) : Prop :=
  ∃ ao c, e = .returned (.tuple #[.slice ao (nd v).length c, .int .u32 (r : Int)]) ∧ Own w.heap.size w' ao c (nd v) ∧ Below w.heap.size w w'

set_option maxRecDepth 100000 in
set_option maxHeartbeats 800000 in
theorem rsmall_any (ao : Option Addr) (c D : Nat) (xs : List Nat) (w : World) (h : Rd w ao c xs) (hl : xs.length ≤ 17592186044416) (hD : D < 4294967296) (hD0 : 0 < D) :
    Calls Tryd.prog 73 #[.slice ao xs.length c, .int .u32 (D : Int)] w (RetSmall (val xs / D) (val xs % D) w) := by
  have hax := h.le
  have hax2 := h.cm
  have hxw := h.dg
  go_enter Tryd.func73, Tryd.ntmps73
  go_wp2_with (at_make; refine wp_make _ rfl _ rfl w.heap.size xs.length _ rfl rfl (by omega) (Nat.le_refl _) ?_; intro w1 hown1 hbel1 hsz1)
  go_loopw [7, 8] (fun cv iv wr => ∃ j r : Nat, j ≤ xs.length ∧ cv = .int .u64 (r : Int) ∧ iv = .int .i64 ((j : Int) - 1) ∧ r < D ∧ Hid (r = val (xs.drop j) % D) ∧
      Own w.heap.size wr (some ⟨w.heap.size, 0, none⟩) xs.length ((List.replicate xs.length 0).take j ++ dig (xs.length - j) (val (xs.drop j) / D)) ∧ Below w.heap.size w wr) (fun _ iv _ => (intOf iv + 1).toNat)
  case atStart =>
    refine ⟨xs.length, 0, Nat.le_refl _, rfl, rfl, hD0, ?_, ?_, hbel1⟩
    · show 0 = _
      rw [List.drop_length]; simp [val]
    · rw [Nat.sub_self, dig, List.append_nil, List.take_of_length_le (by simp)]; exact hown1
  case round =>
    obtain ⟨j, r, hj, rfl, rfl, hrl, HR, hown, hbel⟩ := hrel
    by_cases hj0 : j = 0
    · subst hj0
      have hr := HR.out
      simp only [List.drop_zero, List.take_zero, List.nil_append, Nat.sub_zero] at hr hown
      have hv : val (dig xs.length (val xs / D)) = val xs / D := by
        rw [val_dig, Nat.mod_eq_of_lt (Nat.lt_of_le_of_lt (Nat.div_le_self _ _) (val_lt hxw))]
      have ht := rtrim_any _ _ _ wr hown.rd (by rw [length_dig]; omega)
      rw [length_dig, hv] at ht
      have HR2 := hid hr
      have hri : (r : Int) % 4294967296 = (r : Int) := by omega
      clear hown hv hr
      go_wp2_with fail
      refine ht.mono ?_
      rintro e w5 ⟨a5, c5, rfl, ho5, hb5⟩
      go_wp2
      go_ret2
      exact ⟨a5, c5, by rw [HR2.out]; rfl, ho5.mono hbel.size, hbel.trans (hb5.mono hbel.size)⟩
    · obtain ⟨i, rfl⟩ : ∃ i, j = i + 1 := ⟨j - 1, by omega⟩
      have hra := h.below hbel
      rcases hra.lies with h9 | ⟨b1, o1, rfl, hc1⟩
      · simp [h9] at hj
      obtain ⟨x, hx⟩ : ∃ x, x = xs.getD i 0 := ⟨_, rfl⟩
      have hxl : x < 4294967296 := by rw [hx]; exact wf_getD hxw i
      have g1 := hc1 i (by omega)
      rw [← hx] at g1
      have hLl : ((List.replicate xs.length 0).take (i + 1) ++ dig (xs.length - (i + 1)) (val (xs.drop (i + 1)) / D)).length = xs.length := by simp [length_dig]; omega
      have hcell := hown.cell i (by rw [hLl]; omega)
      obtain ⟨z, hz⟩ : ∃ z, z = ((List.replicate xs.length 0).take (i + 1) ++ dig (xs.length - (i + 1)) (val (xs.drop (i + 1)) / D)).getD i 0 := ⟨_, rfl⟩
      rw [← hz] at hcell
      have hfr := hown.frozen i
      obtain ⟨q, hq⟩ : ∃ q, q = x + 4294967296 * r % 18446744073709551616 := ⟨_, rfl⟩
      obtain ⟨horr, hql, hqm⟩ := or_dig r x q hxl hq
      rw [or_dig_wrap (by omega)] at horr
      have hq2 : q = 4294967296 * r + x := by omega
      have hst := div_step x (val (xs.drop (i + 1))) D hD0
      have hlt := div_step_lt (u := x) (v := val (xs.drop (i + 1))) hxl hD0
      rw [← HR.out, ← hq2] at hst hlt
      have hvd : val (xs.drop i) = x + 4294967296 * val (xs.drop (i + 1)) := by rw [val_drop (by omega), hx]
      have hqi : ((q : Int) / (D : Int)) = ((q / D : Nat) : Int) := by simp
      have hqmi : ((q : Int) % (D : Int)) = ((q % D : Nat) : Int) := by simp
      obtain ⟨qd, hqd1⟩ : ∃ qd, qd = q / D := ⟨_, rfl⟩
      obtain ⟨qr, hqr1⟩ : ∃ qr, qr = q % D := ⟨_, rfl⟩
      have hqd : qd < 4294967296 := by rw [hqd1]; exact hlt
      rw [← hqd1] at hqi
      rw [← hqr1] at hqmi
      have hqrl : qr < D := by rw [hqr1]; exact Nat.mod_lt _ hD0
      have hset : (((List.replicate xs.length 0).take (i + 1) ++ dig (xs.length - (i + 1)) (val (xs.drop (i + 1)) / D)).set i qd) = (List.replicate xs.length 0).take i ++ dig (xs.length - i) (val (xs.drop i) / D) := by
        have := set_down (zs := List.replicate xs.length 0) (i := i) (v := val (xs.drop (i + 1)) / D) (by simp; omega) hqd
        simp only [List.length_replicate] at this
        rw [this, hvd, hst.1, ← hqd1]
      have hnew : ∀ u : Int, u = (qd : Int) → Own w.heap.size (wr.setCell ⟨w.heap.size, i, none⟩ (.int .u32 u)) (some ⟨w.heap.size, 0, none⟩) xs.length ((List.replicate xs.length 0).take i ++ dig (xs.length - i) (val (xs.drop i) / D)) := by
        intro u hu
        have h := hown.set i qd u hu hqd (by rw [hLl]; omega)
        rwa [hset] at h
      have HP := hid (And.intro hst (And.intro hvd (And.intro hqd1 hqr1)))
      have HNEW := hid hnew
      have hii : (i : Int) < (xs.length : Int) := by omega
      clear hx hLl hq hq2 hst hlt hvd hqd1 hqr1 hqm hset hnew hown hc1 hra hz
      go_wp2
      have hp := HP.out
      refine ⟨⟨i, qr, by omega, int_eq hqmi, int_eq (by omega), hqrl, ?_, HNEW.out _ (by first | omega | exact hqi | (rw [hqi]; omega)), Below.setCell hbel (Nat.le_refl _) _⟩, by simp [intOf]⟩
      show _ = _
      rw [hp.2.1, hp.1.2, hp.2.2.2]
end Go.Proofs.YtbcaigpdckencaaDoor
