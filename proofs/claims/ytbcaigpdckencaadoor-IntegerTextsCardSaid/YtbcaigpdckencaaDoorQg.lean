/- Walks: power, Pow. · Roots by Newton's method: plain mathematics. · Walks: newtonStep, root, Root. -/
import Derived.Test.YtbcaigpdckencaaDoorQPrS
import Derived.Test.YtbcaigpdckencaaDoorQf
import Derived.Test.YtbcaigpdckencaaDoorQc

namespace Go.Proofs.YtbcaigpdckencaaDoor
open Go.RowKit Num

theorem and1_i64 (x : Nat) (h : x < 4611686018427387904) : bits .and .i64 (x : Int) 1 = ((x % 2 : Nat) : Int) := by
  have := bits_mask .i64 62 (by decide) (fun n h0 h1 => by rw [IntKind.wrap_i64]; omega) 1 (by omega) (x : Int) (by omega) (by omega)
  simpa using this

set_option maxRecDepth 100000 in
set_option maxHeartbeats 800000 in
theorem power_any (aa : Option Addr) (ca n : Nat) (xs : List Nat) (w : World) (ha : Rd w aa ca xs) (hl : xs.length ≤ 34359738368) (hn : n ≤ 64) :
    Calls Tryd.prog 52 #[.slice aa xs.length ca, .int .i64 (n : Int)] w (RetOwn w.heap.size (nd (val xs ^ n)) w) := by
  have hle := ha.le
  have hcm := ha.cm
  have hlen := fun W => len_any n W (by omega)
  have hb := blen_u64 (x := n) (by omega)
  go_enter Tryd.func52, Tryd.ntmps52
  go_wp2_with (go_at_call 85; refine (hlen _).mono ?_; rintro e w' ⟨rfl, rfl⟩)
  clear hlen
  go_loopw [5, 6] (fun zv iv wr => ∃ (j : Nat) (ao : Option Addr) (c : Nat) (zs : List Nat), j ≤ blen n ∧ iv = .int .i64 ((j : Int) - 1) ∧ zv = .slice ao zs.length c ∧ Hid (zs = nd (val xs ^ (n / 2 ^ j))) ∧ Own w.heap.size wr ao c zs ∧ Below w.heap.size w wr)
    (fun _ iv _ => (intOf iv + 1).toNat)
  case atStart =>
    have h0 : n / 2 ^ blen n = 0 := Nat.div_eq_of_lt (lt_blen n)
    have h1 : nd 1 = [1] := by rw [nd_pos (by omega)]; simp [nd_zero]
    refine ⟨blen n, some ⟨w.heap.size, 0, none⟩, 1, [1], Nat.le_refl _, rfl, rfl, ?_, Own.one w w.heap.size 1 (Nat.le_refl _) (by omega), below_alloc _ _⟩
    show _ = _
    rw [h0, Nat.pow_zero, h1]
  case round =>
    obtain ⟨j, ao, c, zs, hj, rfl, rfl, HZ, hown, hbel⟩ := hrel
    by_cases hj0 : j = 0
    · subst hj0
      have hz := HZ.out
      rw [Nat.pow_zero, Nat.div_one] at hz
      have HZ2 := hid hz
      clear hz HZ
      go_wp2
      go_ret
      rw [← HZ2.out]
      exact ⟨ao, c, rfl, hown, hbel⟩
    · obtain ⟨i, rfl⟩ : ∃ i, j = i + 1 := ⟨j - 1, by omega⟩
      clear hj0
      obtain ⟨k, hk⟩ : ∃ k, k = n / 2 ^ (i + 1) := ⟨_, rfl⟩
      have hz := HZ.out
      rw [← hk] at hz
      have hbit : n / 2 ^ i = 2 * k + n / 2 ^ i % 2 := by
        rw [hk, Nat.pow_succ, ← Nat.div_div_eq_div_mul]; omega
      obtain ⟨b, hbb⟩ : ∃ b, b = n / 2 ^ i % 2 := ⟨_, rfl⟩
      rw [← hbb] at hbit
      have hle2 : n / 2 ^ i ≤ n := Nat.div_le_self _ _
      have hlenp : ∀ e, e ≤ 64 → (nd (val xs ^ e)).length ≤ 2199023255553 := by
        intro e he
        obtain ⟨E, hE⟩ : ∃ E : Nat, E = 2199023255553 := ⟨_, rfl⟩
        rw [← hE]
        refine nd_length_le ?_
        have h1 := Nat.pow_le_pow_left (Nat.le_of_lt (val_lt ha.dg)) e
        rw [← Nat.pow_mul] at h1
        refine Nat.lt_of_le_of_lt h1 (Nat.pow_lt_pow_right (by omega) ?_)
        have := Nat.mul_le_mul hl he
        omega
      have hk64 : k ≤ 64 := by omega
      have hzl := hlenp k hk64
      have hz2l := hlenp (2 * k) (by omega)
      rw [← hz] at hzl
      have hsq := product_any ao ao c c zs zs wr hown.rd hown.rd (by omega) (by omega)
      rw [show val zs * val zs = val xs ^ (2 * k) by rw [hz, val_nd, ← Nat.pow_add, show k + k = 2 * k by omega]] at hsq
      obtain ⟨us, hus⟩ : ∃ us, us = nd (val xs ^ (2 * k)) := ⟨_, rfl⟩
      rw [← hus] at hsq hz2l
      have hpr := fun W ao2 c2 (h1 : Own wr.heap.size W ao2 c2 us) (h2 : Below w.heap.size w W) => product_any ao2 aa c2 ca us xs W h1.rd (ha.below h2) (by omega) (by omega)
      have hvu : val us * val xs = val xs ^ (2 * k + 1) := by rw [hus, val_nd, Nat.pow_succ]
      rw [hvu] at hpr
      have HK := hid (And.intro hbit hus)
      have HPR := hid hpr
      have hb1 : b ≤ 1 := by omega
      have hbits : bits BinOp.and IntKind.i64 ((n : Int) / 2 ^ i) 1 = (b : Int) := by
        have e : ((n : Int) / 2 ^ i) = ((n / 2 ^ i : Nat) : Int) := by simp
        rw [e, and1_i64 _ (by omega), hbb]
      clear hk hz hbit hbb hus hle2 hlenp hpr hvu HZ
      by_cases hb0 : b = 0
      · have hbt : ((b : Int) == 1) = false := beq_eq_false_iff_ne.2 (by omega)
        have HB0 := hid hb0
        clear hb0
        go_wp2_with fail
        refine hsq.mono ?_
        rintro e w2 ⟨ao2, c2, rfl, hown2, hbel2⟩
        have hbel3 : Below w.heap.size w w2 := hbel.trans (hbel2.mono hbel.size)
        go_wp2
        refine ⟨⟨i, ao2, c2, us, by omega, int_eq (by omega), rfl, ?_, hown2.mono hbel.size, hbel3⟩, by simp [intOf]⟩
        show _ = _
        rw [HK.out.2, HK.out.1, HB0.out, Nat.add_zero]
      · have hbt : ((b : Int) == 1) = true := beq_iff_eq.2 (by omega)
        have HB0 := hid (show b = 1 by omega)
        clear hb0
        go_wp2_with fail
        refine hsq.mono ?_
        rintro e w2 ⟨ao2, c2, rfl, hown2, hbel2⟩
        have hbel3 : Below w.heap.size w w2 := hbel.trans (hbel2.mono hbel.size)
        go_wp2_with fail
        refine (HPR.out w2 ao2 c2 hown2 hbel3).mono ?_
        rintro e w3 ⟨ao3, c3, rfl, hown3, hbel4⟩
        have hbel5 : Below w.heap.size w w3 := hbel3.trans (hbel4.mono hbel3.size)
        go_wp2
        refine ⟨⟨i, ao3, c3, _, by omega, int_eq (by omega), rfl, ?_, hown3.mono hbel3.size, hbel5⟩, by simp [intOf]⟩
        show _ = _
        rw [HK.out.1, HB0.out]

theorem pow_any (aa : Option Addr) (ca n : Nat) (xs : List Nat) (w : World) (ha : Rd w aa ca xs) (hl : xs.length ≤ 34359738368) (hn : n ≤ 64) :
    Calls Tryd.prog 13 #[.slice aa xs.length ca, .int .i64 (n : Int)] w
      (fun e w' => ∃ ao c, e = .returned (.tuple #[.slice ao (nd (val xs ^ n)).length c, .int .i64 0]) ∧ Own w.heap.size w' ao c (nd (val xs ^ n)) ∧ Below w.heap.size w w') := by
  have hcx := cut_any aa ca xs w ha
  have hlx := nd_length_le_of ha.dg
  have hp := power_any aa ca n (nd (val xs)) w ha.cutND (by omega) hn
  rw [val_nd] at hp
  obtain ⟨us, hus⟩ : ∃ us, us = nd (val xs ^ n) := ⟨_, rfl⟩
  rw [← hus] at hp ⊢
  clear hus ha
  go_enter Tryd.func13, Tryd.ntmps13
  go_wp2_with fail
  refine hcx.mono ?_
  rintro e w' ⟨rfl, rfl⟩
  go_wp2_with fail
  refine hp.mono ?_
  rintro e w2 ⟨ao, c, rfl, hown, hbel⟩
  go_wp2
  go_ret2
  exact ⟨ao, c, rfl, hown, hbel⟩
theorem pow_err (v : Value) (n : Int) (w : World) (hn : n < 0 ∨ 64 < n) :
    Calls Tryd.prog 13 #[v, .int .i64 n] w (Ret (.tuple #[.slice none 0 0, .int .i64 1]) w) := by
  rcases hn with h | h
  · go_enter Tryd.func13, Tryd.ntmps13
    go_wp2
    go_ret2
    exact Ret.mk rfl
  · have h' : ¬ n < 0 := by omega
    go_enter Tryd.func13, Tryd.ntmps13
    go_wp2
    go_ret2
    exact Ret.mk rfl
end Go.Proofs.YtbcaigpdckencaaDoor

namespace Go.Proofs.YtbcaigpdckencaaDoor.Num
/-- r is the n-th root of a, rounded down -/
def isRoot (n a r : Nat) : Prop := r ^ n ≤ a ∧ a < (r + 1) ^ n
theorem isRoot_unique {n a r s : Nat} (h : isRoot n a r) (k : isRoot n a s) : r = s := by
  have h1 : ∀ {r s : Nat}, isRoot n a r → isRoot n a s → r ≤ s := by
    intro r s h k
    apply Classical.byContradiction
    intro hc
    have := Nat.pow_le_pow_left (show s + 1 ≤ r by omega) n
    have := h.1
    have := k.2
    omega
  exact Nat.le_antisymm (h1 h k) (h1 k h)
theorem amgm (r x : Nat) : ∀ n : Nat, (n + 1) * r * x ^ n ≤ r ^ (n + 1) + n * x ^ (n + 1) := by
  intro n
  induction n with
  | zero => simp
  | succ n ih =>
    have h1 := Nat.mul_le_mul_right x ih
    have h2 : r ^ (n + 1) * x + r * x ^ (n + 1) ≤ r ^ (n + 1) * r + x ^ (n + 1) * x := by
      rcases Nat.le_total r x with h | h
      · have h3 := Nat.pow_le_pow_left h (n + 1)
        obtain ⟨d, rfl⟩ : ∃ d, x = r + d := ⟨x - r, by omega⟩
        obtain ⟨e, he⟩ : ∃ e, (r + d) ^ (n + 1) = r ^ (n + 1) + e := ⟨(r + d) ^ (n + 1) - r ^ (n + 1), by omega⟩
        rw [he]
        generalize r ^ (n + 1) = p
        have : p * (r + d) + r * (p + e) + d * e = p * r + (p + e) * (r + d) := by grind
        omega
      · have h3 := Nat.pow_le_pow_left h (n + 1)
        obtain ⟨d, rfl⟩ : ∃ d, r = x + d := ⟨r - x, by omega⟩
        obtain ⟨e, he⟩ : ∃ e, (x + d) ^ (n + 1) = x ^ (n + 1) + e := ⟨(x + d) ^ (n + 1) - x ^ (n + 1), by omega⟩
        rw [he]
        generalize x ^ (n + 1) = p
        have : (p + e) * x + (x + d) * p + d * e = (p + e) * (x + d) + p * x := by grind
        omega
    have e1 : (n + 1) * r * x ^ n * x = (n + 1) * (r * x ^ (n + 1)) := by rw [Nat.pow_succ]; grind
    have e2 : (r ^ (n + 1) + n * x ^ (n + 1)) * x = r ^ (n + 1) * x + n * (x ^ (n + 1) * x) := by grind
    rw [e1, e2] at h1
    have e3 : (n + 1 + 1) * r * x ^ (n + 1) = (n + 1) * (r * x ^ (n + 1)) + r * x ^ (n + 1) := by grind
    have e4 : r ^ (n + 1 + 1) + (n + 1) * x ^ (n + 1 + 1) = r ^ (n + 1) * r + (n * (x ^ (n + 1) * x) + x ^ (n + 1) * x) := by rw [Nat.pow_succ r (n + 1), Nat.pow_succ x (n + 1)]; grind
    rw [e3, e4]
    omega
/-- a step stays at least the root -/
theorem newton_ge {m a r x : Nat} (hx : 0 < x) (hr : r ^ (m + 1) ≤ a) : r ≤ (a / x ^ m + m * x) / (m + 1) := by
  rw [Nat.le_div_iff_mul_le (by omega)]
  have h1 := amgm r x m
  have hp : 0 < x ^ m := Nat.pow_pos hx
  by_cases h : r * (m + 1) ≤ m * x
  · exact Nat.le_trans h (Nat.le_add_left _ _)
  · have h2 : r * (m + 1) - m * x ≤ a / x ^ m := by
      rw [Nat.le_div_iff_mul_le hp, Nat.sub_mul]
      have e1 : r * (m + 1) * x ^ m = (m + 1) * r * x ^ m := by grind
      have e2 : m * x * x ^ m = m * x ^ (m + 1) := by rw [Nat.pow_succ]; grind
      rw [e1, e2]
      omega
    omega
/-- above the root a step falls -/
theorem newton_lt {m a x : Nat} (hx : 0 < x) (ha : a < x ^ (m + 1)) : (a / x ^ m + m * x) / (m + 1) < x := by
  rw [Nat.div_lt_iff_lt_mul (by omega)]
  have hp : 0 < x ^ m := Nat.pow_pos hx
  have h1 : a / x ^ m < x := by
    rw [Nat.div_lt_iff_lt_mul hp, Nat.mul_comm, ← Nat.pow_succ]; exact ha
  have : x * (m + 1) = m * x + x := by grind
  omega
/-- the start lies above the root -/
theorem root_start {n a r0 h : Nat} (h0 : isRoot n (a / 2 ^ (n * h)) r0) : a < ((r0 + 1) * 2 ^ h) ^ n := by
  have h1 := h0.2
  rw [Nat.mul_pow, ← Nat.pow_mul, Nat.mul_comm h n]
  exact Nat.lt_mul_of_div_lt h1 (Nat.pow_pos (by omega)) |> fun h => by rw [Nat.mul_comm]; rw [Nat.mul_comm] at h; first | exact h | (rw [Nat.mul_comm]; exact h)
theorem root_start_le {n a r0 h : Nat} (hn : 0 < n) (h0 : isRoot n (a / 2 ^ (n * h)) r0) (hh : 2 ^ h ≤ a) : (r0 + 1) * 2 ^ h ≤ 2 * a := by
  have h1 := h0.1
  have h2 : (r0 * 2 ^ h) ^ n ≤ a := by
    rw [Nat.mul_pow, ← Nat.pow_mul, Nat.mul_comm h n]
    exact Nat.le_trans (Nat.mul_le_mul_right _ h1) (Nat.div_mul_le_self _ _)
  have h3 : r0 * 2 ^ h ≤ a := by
    by_cases hz : r0 * 2 ^ h = 0
    · omega
    · have := Nat.pow_le_pow_right (show 0 < r0 * 2 ^ h by omega) (show 1 ≤ n by omega)
      rw [Nat.pow_one] at this; omega
  rw [Nat.add_mul]; omega
theorem root_zero {n : Nat} (hn : 0 < n) : isRoot n 0 0 := ⟨by rw [Nat.zero_pow hn]; exact Nat.le_refl _, by simp⟩
theorem root_one {n a : Nat} (ha : a ≠ 0) (hl : blen a ≤ n) : isRoot n a 1 := by
  refine ⟨by simp; omega, ?_⟩
  have := lt_blen a
  exact Nat.lt_of_lt_of_le this (Nat.pow_le_pow_right (by omega) hl)
theorem root_self {a : Nat} : isRoot 1 a a := ⟨by simp, by simp⟩
theorem root_exists {n : Nat} (hn : 0 < n) (a : Nat) : ∃ r, isRoot n a r := by
  induction a with
  | zero => exact ⟨0, root_zero hn⟩
  | succ a ih =>
    obtain ⟨r, h1, h2⟩ := ih
    by_cases h : (r + 1) ^ n ≤ a + 1
    · refine ⟨r + 1, h, ?_⟩
      have := Nat.pow_lt_pow_left (show r + 1 < r + 1 + 1 by omega) (Nat.pos_iff_ne_zero.1 hn)
      omega
    · exact ⟨r, by omega, by omega⟩
theorem root_le {n a r x : Nat} (h : isRoot n a r) (hx : a < x ^ n) : r ≤ x := by
  apply Classical.byContradiction
  intro hc
  have := Nat.pow_le_pow_left (show x ≤ r by omega) n
  have := h.1
  omega
theorem root_lt {n a r x : Nat} (h : isRoot n a r) (hx : r < x) : a < x ^ n :=
  Nat.lt_of_lt_of_le h.2 (Nat.pow_le_pow_left hx n)
end Go.Proofs.YtbcaigpdckencaaDoor.Num

namespace Go.Proofs.YtbcaigpdckencaaDoor
open Go.RowKit Num

set_option maxRecDepth 100000 in
set_option maxHeartbeats 800000 in
theorem newtonStep_any (aa ax : Option Addr) (ca cx m : Nat) (xs ys : List Nat) (w : World) (ha : Rd w aa ca xs) (hx : Rd w ax cx ys) (hl : xs.length ≤ 8589934592) (hl2 : ys.length ≤ 8589934592) (hm0 : 1 ≤ m) (hm : m ≤ 63) (h0 : val ys ≠ 0) :
    Calls Tryd.prog 86 #[.slice aa xs.length ca, .slice ax ys.length cx, .int .i64 ((m : Int) + 1)] w (RetOwn w.heap.size (nd ((val xs / val ys ^ m + m * val ys) / (m + 1))) w) := by
  have hpw := power_any ax cx m ys w hx (by omega) (by omega)
  have hp0 : val ys ^ m ≠ 0 := Nat.pos_iff_ne_zero.1 (Nat.pow_pos (Nat.pos_of_ne_zero h0))
  obtain ⟨ps, hps⟩ : ∃ ps, ps = nd (val ys ^ m) := ⟨_, rfl⟩
  have hpv : val ps = val ys ^ m := by rw [hps, val_nd]
  rw [← hps] at hpw
  have hdm := fun W ap cp (h1 : Own w.heap.size W ap cp ps) (h2 : Below w.heap.size w W) => divmod_any aa ap ca cp xs ps W (ha.below h2) h1.rd (by rw [hpv]; exact hp0) (by omega)
  simp only [hpv] at hdm
  obtain ⟨qs, hqs⟩ : ∃ qs, qs = nd (val xs / val ys ^ m) := ⟨_, rfl⟩
  have hqv : val qs = val xs / val ys ^ m := by rw [hqs, val_nd]
  have hql : qs.length ≤ xs.length := by
    rw [hqs]; exact nd_length_le (Nat.lt_of_le_of_lt (Nat.div_le_self _ _) (val_lt ha.dg))
  obtain ⟨rs, hrs⟩ : ∃ rs, rs = nd (val xs % val ys ^ m) := ⟨_, rfl⟩
  simp only [← hqs, ← hrs] at hdm
  have hmu := fun W (h2 : Below w.heap.size w W) => mul_any ax (some ⟨W.heap.size, 0, none⟩) cx 1 ys [m] (W.alloc (.cells #[.int .u32 (m : Int)] 61)) ((hx.below h2).below (below_alloc _ _)) (Own.one W W.heap.size m (Nat.le_refl _) (by omega)).rd (by omega) (by simp)
  simp only [show val [m] = m by simp [val], List.length_singleton] at hmu
  obtain ⟨ms, hms⟩ : ∃ ms, ms = nd (val ys * m) := ⟨_, rfl⟩
  have hmv : val ms = val ys * m := by rw [hms, val_nd]
  have hml : ms.length ≤ ys.length + 1 := by
    rw [hms]
    refine nd_length_le ?_
    rw [Nat.pow_succ]
    exact Nat.mul_lt_mul_of_lt_of_le (val_lt hx.dg) (by omega) (by omega)
  simp only [← hms] at hmu
  obtain ⟨ss, hss⟩ : ∃ ss, ss = nd (val qs + val ms) := ⟨_, rfl⟩
  have hsv : val ss = val xs / val ys ^ m + m * val ys := by rw [hss, val_nd, hqv, hmv, Nat.mul_comm (val ys)]
  have hsl : ss.length ≤ xs.length + ys.length + 2 := by
    rw [hss]
    exact nd_length_add (k := xs.length + ys.length + 1) (val_lt_of (hqs ▸ wf_nd _ : wf qs) (by omega)) (val_lt_of (hms ▸ wf_nd _ : wf ms) (by omega))
  have hsw : wf ss := by rw [hss]; exact wf_nd _
  obtain ⟨D, hD⟩ : ∃ D, D = m + 1 := ⟨_, rfl⟩
  have hDi : (m : Int) + 1 = (D : Int) := by omega
  have HDV := hid (show val (dig ss.length (val ss / D)) = (val xs / val ys ^ m + m * val ys) / (m + 1) by
    rw [val_dig, Nat.mod_eq_of_lt (Nat.lt_of_le_of_lt (Nat.div_le_self _ _) (val_lt hsw)), hsv, hD])
  have HSS := hid hss
  have hD1 : D ≤ 64 := by omega
  have hD2 : 2 ≤ D := by omega
  have hmD : (D : Int) - 1 = (m : Int) := by omega
  have HMU := hid hmu
  have HDM := hid hdm
  clear hmu hdm
  clear hps hqs hrs hms hss hqv hmv hsv hp0 h0 hpv hD
  rw [hDi]
  clear hDi
  go_enter Tryd.func86, Tryd.ntmps86
  go_wp2_with fail
  refine hpw.mono ?_
  rintro e w1 ⟨ap, cp, rfl, hp1, hb1⟩
  go_wp2_with fail
  refine (HDM.out w1 ap cp hp1 hb1).mono ?_
  rintro e w2 ⟨aq, cq, ar, cr, rfl, hq2, hr2, hb2⟩
  have hb02 := hb1.trans (hb2.mono hb1.size)
  go_wp2_with fail
  refine (HMU.out w2 hb02).mono ?_
  rintro e w3 ⟨am, cm, rfl, hm3, hb3⟩
  have hb23 : Below w2.heap.size w2 w3 := (below_alloc w2 (.cells #[.int .u32 (m : Int)] 61)).trans (hb3.mono (by simp))
  have hq3 := hq2.below hb23
  have hb03 := hb02.trans (hb23.mono hb02.size)
  have had := add_any aq am cq cm qs ms w3 hq3.rd hm3.rd (by omega) (by omega)
  rw [← HSS.out] at had
  clear hpw hb3 hq2 hr2 hb23
  go_wp2_with fail
  refine had.mono ?_
  rintro e w4 ⟨a4, c4, rfl, hs4, hb4⟩
  have hb04 := hb03.trans (hb4.mono hb03.size)
  obtain ⟨g, g1, g2, g3, g4⟩ := (hs4.mono hb03.size).inplace hb04.size
  have hdb := divideBy_any a4 g 0 c4 D ss w4 g1 g3 hs4.2 (by omega) (by omega) (by omega)
  have hown2 := g4 (dig ss.length (val ss / D)) (length_dig _ _) (wf_dig _ _)
  have hb5 := below_put hb04 g2 0 (dig ss.length (val ss / D))
  have hcq := cut_any _ _ _ _ hown2.rd
  rw [length_dig, HDV.out] at hcq
  have hown3 := hown2.cutND
  rw [HDV.out] at hown3
  obtain ⟨rr, hrr⟩ : ∃ rr, rr = val ss % D := ⟨_, rfl⟩
  rw [← hrr] at hdb
  clear hrr had hown2 g1 g3 g4
  go_wp2_with fail
  refine hdb.mono ?_
  rintro e w' ⟨rfl, rfl⟩
  clear hdb
  generalize wput w4 g 0 (dig ss.length (val ss / D)) = w5 at hcq hb5 hown3 ⊢
  go_wp2_with fail
  refine hcq.mono ?_
  rintro e w' ⟨rfl, rfl⟩
  go_wp2
  go_ret
  exact ⟨_, _, rfl, hown3, hb5⟩

/-- the list of the root -/
def RetRoot (n a : Nat) (w : World) (e : Ending) (w' : World) : Prop := ∃ r, isRoot n a r ∧ RetOwn w.heap.size (nd r) w e w'
def RootTo (k : Nat) : Prop := ∀ (aa : Option Addr) (ca n : Nat) (xs : List Nat) (w : World), blen (val xs) < k → Rd w aa ca xs → xs.length ≤ 2147483648 → 2 ≤ n → n ≤ 64 →
    Calls Tryd.prog 56 #[.slice aa xs.length ca, .int .i64 (n : Int)] w (RetRoot n (val xs) w)

set_option maxRecDepth 100000 in
set_option maxHeartbeats 1600000 in
theorem root_step (aa : Option Addr) (ca n : Nat) (xs : List Nat) (w : World) (IH : RootTo (blen (val xs))) (ha : Rd w aa ca xs) (hl : xs.length ≤ 2147483648) (hn : 2 ≤ n) (hn2 : n ≤ 64) :
    Calls Tryd.prog 56 #[.slice aa xs.length ca, .int .i64 (n : Int)] w (RetRoot n (val xs) w) := by
  have hbl := bitlen_any aa ca xs w ha (by omega)
  obtain ⟨l, hle⟩ : ∃ l, l = blen (val xs) := ⟨_, rfl⟩
  rw [← hle] at hbl
  have hl1 : l ≤ 68719476736 := by
    have h1 : l ≤ xs.length * 32 := by rw [hle, blen_le_iff, ← pow32]; exact val_lt ha.dg
    omega
  have HL := hid hle
  rw [← hle] at IH
  have hxw := ha.dg
  clear hle
  by_cases h0 : l = 0
  · have hb0 : ((l : Int) == 0) = true := by simp [h0]
    have HZ := hid (show val xs = 0 from blen_eq_zero.1 (by rw [← HL.out, h0]))
    clear h0 IH ha
    go_enter Tryd.func56, Tryd.ntmps56
    go_wp2_with (go_at_call 20; refine hbl.mono ?_; rintro e w' ⟨rfl, rfl⟩)
    go_ret
    exact ⟨0, by rw [HZ.out]; exact root_zero (by omega), none, 0, by rw [nd_zero]; rfl, by rw [nd_zero]; exact Own.nil _ _, Below.refl _ _⟩
  · have hb0 : ((l : Int) == 0) = false := beq_eq_false_iff_ne.2 (by omega)
    have hx0 : val xs ≠ 0 := fun h => h0 (by rw [HL.out, h]; rfl)
    by_cases h1 : l ≤ n
    · have HR := hid (root_one (n := n) hx0 (by rw [← HL.out]; exact h1))
      have h11 : nd 1 = [1] := by rw [nd_pos (by omega)]; simp [nd_zero]
      have H11 := hid h11
      have hb1 : decide ((l : Int) ≤ (n : Int)) = true := by simp; omega
      clear IH ha h11
      go_enter Tryd.func56, Tryd.ntmps56
      go_wp2_with (go_at_call 20; refine hbl.mono ?_; rintro e w' ⟨rfl, rfl⟩)
      go_ret
      exact ⟨1, HR.out, _, _, by rw [H11.out]; rfl, by rw [H11.out]; exact Own.one w w.heap.size 1 (Nat.le_refl _) (by omega), below_alloc _ _⟩
    · have hb1 : decide ((l : Int) ≤ (n : Int)) = false := by simp; omega
      obtain ⟨h, hh⟩ : ∃ h, h = (l + n - 1) / n / 2 := ⟨_, rfl⟩
      have hq : (l + n - 1) / n * n ≤ l + n - 1 := Nat.div_mul_le_self _ _
      have hq2 : 2 ≤ (l + n - 1) / n := by rw [Nat.le_div_iff_mul_le (by omega)]; omega
      have hq3 : (l + n - 1) / n ≤ l := by
        have := Nat.mul_le_mul_left ((l + n - 1) / n) hn
        omega
      have hh1 : 1 ≤ h := by omega
      have hh2 : h + 1 ≤ l := by omega
      have hhi : ((l : Int) + (n : Int) - 1) / (n : Int) / 2 = (h : Int) := by
        have e1 : ((l : Int) + (n : Int) - 1) = ((l + n - 1 : Nat) : Int) := by omega
        rw [e1, hh]; simp
      obtain ⟨m, hm⟩ : ∃ m, m = n * h := ⟨_, rfl⟩
      have hmi : -(n : Int) * (h : Int) = -(m : Int) := by rw [hm, Int.neg_mul]; simp
      have hm1 : 1 ≤ m := by rw [hm]; have := Nat.mul_le_mul hn hh1; omega
      have hm2 : m ≤ 4398046511104 := by rw [hm]; have := Nat.mul_le_mul hn2 (show h ≤ 68719476736 by omega); omega
      have hsd := shiftDown_any aa ca m xs w ha (by omega) (by omega)
      obtain ⟨sv, hsv⟩ : ∃ sv, sv = val xs / 2 ^ m := ⟨_, rfl⟩
      rw [← hsv] at hsd
      obtain ⟨ss, hss⟩ : ∃ ss, ss = nd sv := ⟨_, rfl⟩
      have hssv : val ss = sv := by rw [hss, val_nd]
      rw [← hss] at hsd
      have hssl : ss.length ≤ xs.length := by
        rw [hss]; exact nd_length_le (Nat.lt_of_le_of_lt (by rw [hsv]; exact Nat.div_le_self _ _) (val_lt hxw))
      have hbs : blen (val ss) < l := by
        have h5 := lt_blen_iff.1 (show l - 1 < blen (val xs) by rw [← HL.out]; omega)
        have h6 : blen sv ≤ l - m := by
          rw [blen_le_iff, hsv]
          by_cases hml : m ≤ l
          · refine Nat.div_lt_of_lt_mul ?_
            rw [← Nat.pow_add, show m + (l - m) = l by omega, HL.out]; exact lt_blen _
          · have : val xs / 2 ^ m = 0 := Nat.div_eq_of_lt (Nat.lt_of_lt_of_le (lt_blen _) (Nat.pow_le_pow_right (by omega) (by rw [← HL.out]; omega)))
            rw [this]; exact Nat.pow_pos (by omega)
        rw [hssv]; omega
      have hih := fun W as' cs' (h1 : Rd W as' cs' ss) => IH as' cs' n ss W hbs h1 (by omega) hn hn2
      rw [hssv] at hih
      have HIH := hid hih
      have HSV := hid hsv
      have HM := hid hm
      have h2h : 2 ^ h ≤ val xs := by
        have h5 := lt_blen_iff.1 (show h < blen (val xs) by rw [← HL.out]; omega)
        exact h5
      have H2H := hid h2h
      clear hh hq hq2 hq3 hm hsv hss hssv hih hbs hssl IH h2h hb0
      have hb0 : ((l : Int) == 0) = false := beq_eq_false_iff_ne.2 (by omega)
      go_enter Tryd.func56, Tryd.ntmps56
      go_wp2_with (go_at_call 20; refine hbl.mono ?_; rintro e w' ⟨rfl, rfl⟩)
      refine hsd.mono ?_
      rintro e w1 ⟨a1, c1, rfl, hs1, hb1'⟩
      go_wp2_with fail
      refine (HIH.out w1 a1 c1 hs1.rd).mono ?_
      rintro e w2 ⟨r0, hr0, a2, c2, rfl, hr2, hb2⟩
      have hb02 : Below w.heap.size w w2 := hb1'.trans (hb2.mono hb1'.size)
      rw [HSV.out, HM.out] at hr0
      have hst1 := root_start hr0
      have hst2 := root_start_le (by omega) hr0 H2H.out
      have hone := Own.one w2 w2.heap.size 1 (Nat.le_refl _) (by omega)
      have hr0l : (nd r0).length ≤ xs.length + 1 := by
        refine nd_length_le (Nat.lt_of_le_of_lt (m := 2 * val xs) ?_ ?_)
        · have h5 := Nat.mul_le_mul_left (r0 + 1) (Nat.pow_pos (n := h) (show 0 < 2 by omega))
          omega
        · have := val_lt hxw
          rw [Nat.pow_succ]; omega
      have had := add_any a2 (some ⟨w2.heap.size, 0, none⟩) c2 1 (nd r0) [1] (w2.alloc (.cells #[.int .u32 ((1 : Nat) : Int)] 61)) (hr2.rd.below (below_alloc _ _)) hone.rd (by omega) (by simp)
      rw [val_nd, show val [1] = 1 by simp [val]] at had
      simp only [List.length_singleton] at had
      obtain ⟨us, hus⟩ : ∃ us, us = nd (r0 + 1) := ⟨_, rfl⟩
      have husv : val us = r0 + 1 := by rw [hus, val_nd]
      have husl : us.length ≤ xs.length + 1 := by
        rw [hus]
        refine nd_length_le (Nat.lt_of_le_of_lt (m := 2 * val xs) ?_ ?_)
        · have h5 := Nat.mul_le_mul_left (r0 + 1) (Nat.pow_pos (n := h) (show 0 < 2 by omega))
          omega
        · have := val_lt hxw
          rw [Nat.pow_succ]; omega
      rw [← hus] at had
      have hup := fun W a3 c3 (h3 : Own w2.heap.size W a3 c3 us) => shiftUp_any a3 c3 h us W h3.rd (by omega) (by omega)
      rw [husv] at hup
      have HUP := hid hup
      have HR0 := hid (And.intro hr0 (And.intro hst1 hst2))
      clear hus husv hup hone hr0 hst1 hst2 hr0l hbl hsd
      go_wp2_with fail
      refine had.mono ?_
      rintro e w3 ⟨a3, c3, rfl, hu3, hb3⟩
      have hu3' : Own w2.heap.size w3 a3 c3 us := hu3.mono (by simp)
      have hb03 : Below w.heap.size w w3 := hb02.trans (((below_alloc w2 (.cells #[.int .u32 ((1 : Nat) : Int)] 61)).trans (hb3.mono (by simp))).mono hb02.size)
      go_wp2_with fail
      refine (HUP.out w3 a3 c3 hu3').mono ?_
      rintro e w4 ⟨a4, c4, rfl, hx4, hb4⟩
      have hb04 : Below w.heap.size w w4 := hb03.trans (hb4.mono hb03.size)
      have hx4' := hx4.mono hb03.size
      obtain ⟨r, hr⟩ : ∃ r, isRoot n (val xs) r := root_exists (by omega) _
      have HRT := hid hr
      obtain ⟨N, hN⟩ : ∃ N, n = N + 1 := ⟨n - 1, by omega⟩
      have hni : (n : Int) = (N : Int) + 1 := by omega
      have HN := hid hN
      have hN1 : 1 ≤ N := by omega
      have hN2 : N ≤ 63 := by omega
      clear had hu3 hu3' hb4 hx4 hb3 hr2 hb2 hb02 hb03 hs1 hb1' hN hni
      go_wp2_with fail
      go_loopw [7, 8] (fun xv _ wr => ∃ (X : Nat) (xl : List Nat) (ax : Option Addr) (cx : Nat), xv = .slice ax xl.length cx ∧ Hid (xl = nd X ∧ r ≤ X ∧ X ≤ 2 * val xs) ∧ Own w.heap.size wr ax cx xl ∧ Below w.heap.size w wr)
        (fun xv _ wr => valOf xv wr)
      case atStart =>
        exact ⟨(r0 + 1) * 2 ^ h, _, a4, c4, rfl, ⟨rfl, root_le HRT.out HR0.out.2.1, HR0.out.2.2⟩, hx4', hb04⟩
      case round =>
        obtain ⟨X, xl, ax, cx, rfl, HX, hown, hbel⟩ := hrel
        have hxv : val xl = X := by rw [HX.out.1, val_nd]
        have hX0 : X ≠ 0 := by
          intro h
          have h1 := HX.out.2.1
          have h2 := HRT.out.2
          have h3 : r = 0 := by omega
          rw [h3] at h2
          simp at h2
          exact hx0 h2
        have hxll : xl.length ≤ xs.length + 1 := by
          rw [HX.out.1]
          refine nd_length_le (Nat.lt_of_le_of_lt HX.out.2.2 ?_)
          have := val_lt hxw
          rw [Nat.pow_succ]; omega
        have hns := newtonStep_any aa ax ca cx N xs xl wr (ha.below hbel) hown.rd (by omega) (by omega) hN1 hN2 (by rw [hxv]; exact hX0)
        rw [hxv, ← show (n : Int) = (N : Int) + 1 by have := HN.out; omega] at hns
        obtain ⟨Y, hY⟩ : ∃ Y, Y = (val xs / X ^ N + N * X) / (N + 1) := ⟨_, rfl⟩
        rw [← hY] at hns
        have hge : r ≤ Y := by rw [hY]; exact newton_ge (Nat.pos_of_ne_zero hX0) (by rw [← HN.out]; exact HRT.out.1)
        have hltY : r < X → Y < X := by
          intro h; rw [hY]; exact newton_lt (Nat.pos_of_ne_zero hX0) (by rw [← HN.out]; exact root_lt HRT.out h)
        obtain ⟨yl, hyl⟩ : ∃ yl, yl = nd Y := ⟨_, rfl⟩
        have hyv : val yl = Y := by rw [hyl, val_nd]
        rw [← hyl] at hns
        have hcm := fun W ay cy (h1 : Rd W ay cy yl) (h2 : Rd W ax cx xl) => compare_any ay ax cy cx yl xl W h1 h2
        simp only [hyv, hxv] at hcm
        obtain ⟨cc, hcc⟩ : ∃ cc, cc = cmpN Y X := ⟨_, rfl⟩
        simp only [← hcc] at hcm
        have hcn : cc < 0 ↔ Y < X := by rw [hcc]; exact cmpN_neg
        have HCM := hid hcm
        have HYL := hid hyl
        have hva := hown.rd.valOf
        rw [hxv] at hva
        have HVA := hid hva
        have HYV := hid hyv
        clear hY hyl hyv hcm hcc hxv hva
        by_cases hlt : Y < X
        · have hc0 : cc < 0 := hcn.2 hlt
          clear hcn hltY
          go_wp2_with fail
          refine hns.mono ?_
          rintro e w6 ⟨ay, cy, rfl, hy6, hb6⟩
          have hx6 := hown.below hb6
          have hb06 := hbel.trans (hb6.mono hbel.size)
          go_wp2_with fail
          refine (HCM.out w6 ay cy hy6.rd hx6.rd).mono ?_
          rintro e w' ⟨rfl, q, rfl⟩
          go_wp2
          refine ⟨⟨Y, yl, ay, cy, rfl, ⟨HYL.out, hge, by have := HX.out.2.2; omega⟩, (hy6.mono hbel.size).drewN q, hb06.trans ((below_drewN w6 q).mono hb06.size)⟩, ?_⟩
          show valOf (.slice ay yl.length cy) (w6.drewN q) < valOf (.slice ax xl.length cx) wr
          rw [HVA.out, (hy6.rd.drewN q).valOf, HYV.out]
          exact hlt
        · have hc0 : ¬ cc < 0 := fun h => hlt (hcn.1 h)
          have hXr : X = r := by
            have h1 := HX.out.2.1
            apply Classical.byContradiction
            intro h2
            exact hlt (hltY (by omega))
          have HXR := hid hXr
          clear hcn hltY hXr
          go_wp2_with fail
          refine hns.mono ?_
          rintro e w6 ⟨ay, cy, rfl, hy6, hb6⟩
          have hx6 := hown.below hb6
          have hb06 := hbel.trans (hb6.mono hbel.size)
          go_wp2_with fail
          refine (HCM.out w6 ay cy hy6.rd hx6.rd).mono ?_
          rintro e w' ⟨rfl, q, rfl⟩
          go_wp2
          go_ret
          refine ⟨r, HRT.out, ax, cx, ?_, ?_, hb06.trans ((below_drewN w6 q).mono hb06.size)⟩
          · rw [← HXR.out, ← HX.out.1]; rfl
          · rw [← HXR.out, ← HX.out.1]; exact hx6.drewN q

theorem root_to (k : Nat) : RootTo k := by
  induction k with
  | zero => intro _ _ _ _ _ h; omega
  | succ k ih =>
    intro aa ca n xs w h ha hl hn hn2
    exact root_step aa ca n xs w (fun aa ca n us w hlt => ih aa ca n us w (by omega)) ha hl hn hn2

theorem Root_any (aa : Option Addr) (ca n : Nat) (xs : List Nat) (w : World) (ha : Rd w aa ca xs) (hl : xs.length ≤ 2147483648) (hn : 1 ≤ n) (hn2 : n ≤ 64) :
    Calls Tryd.prog 15 #[.slice aa xs.length ca, .int .i64 (n : Int)] w
      (fun e w' => ∃ r ao c, isRoot n (val xs) r ∧ e = .returned (.tuple #[.slice ao (nd r).length c, .int .i64 0]) ∧ Own w.heap.size w' ao c (nd r) ∧ Below w.heap.size w w') := by
  by_cases h1 : n = 1
  · subst h1
    have ht := trim_any aa ca xs w ha (by omega)
    have hv := hid (root_self (a := val xs))
    clear ha
    go_enter Tryd.func15, Tryd.ntmps15
    go_wp2_with (go_at_call 55; refine ht.mono ?_; rintro e w' ⟨ao, c, rfl, hown, hbel⟩)
    go_ret2
    exact ⟨val xs, ao, c, hv.out, rfl, hown, hbel⟩
  · have hcx := cut_any aa ca xs w ha
    have hlx := nd_length_le_of ha.dg
    have hp := root_to (blen (val xs) + 1) aa ca n (nd (val xs)) w (by rw [val_nd]; omega) ha.cutND (by omega) (by omega) hn2
    rw [val_nd] at hp
    have hb : ((n : Int) == 1) = false := beq_eq_false_iff_ne.2 (by omega)
    clear ha
    go_enter Tryd.func15, Tryd.ntmps15
    go_wp2_with fail
    refine hcx.mono ?_
    rintro e w' ⟨rfl, rfl⟩
    go_wp2_with fail
    refine hp.mono ?_
    rintro e w2 ⟨r, hr, ao, c, rfl, hown, hbel⟩
    have HR := hid hr
    clear hr
    go_wp2
    go_ret2
    exact ⟨r, ao, c, HR.out, rfl, hown, hbel⟩
theorem Root_err (v : Value) (n : Int) (w : World) (hn : n < 1 ∨ 64 < n) :
    Calls Tryd.prog 15 #[v, .int .i64 n] w (Ret (.tuple #[.slice none 0 0, .int .i64 1]) w) := by
  rcases hn with h | h
  · go_enter Tryd.func15, Tryd.ntmps15
    go_wp2
    go_ret2
    exact Ret.mk rfl
  · have h' : ¬ n < 1 := by omega
    go_enter Tryd.func15, Tryd.ntmps15
    go_wp2
    go_ret2
    exact Ret.mk rfl
end Go.Proofs.YtbcaigpdckencaaDoor
