/- Walks: the reference's BitLen, small. -/
import Derived.Test.YtbcaigpdckencaaDoorRf5
namespace Go.Proofs.YtbcaigpdckencaaDoor
open Go.RowKit Num

set_option maxRecDepth 100000 in
set_option maxHeartbeats 400000 in
theorem rbitlen_any (ao : Option Addr) (c : Nat) (xs : List Nat) (w : World) (h : Rd w ao c xs) (hl : xs.length ≤ 17592186044416) :
    Calls Tryd.prog 21 #[.slice ao xs.length c] w (RetB (.int .i64 (blen (val xs) : Int)) w) := by
  have ht := rtrim_any ao c xs w h hl
  have hlen := nd_length_le_of h.dg
  obtain ⟨us, hus⟩ : ∃ us, us = nd (val xs) := ⟨_, rfl⟩
  have hv : val us = val xs := by rw [hus, val_nd]
  have hn : nrm us := by rw [hus]; exact nrm_nd _
  have huw : wf us := by rw [hus]; exact wf_nd _
  rw [← hus] at ht hlen
  rw [← hv]
  clear hv hus h
  by_cases h0 : us.length = 0
  · have hu : us = [] := List.eq_nil_of_length_eq_zero h0
    subst hu
    have hb : ((([] : List Nat).length : Int) == 0) = true := by simp
    go_enter Tryd.func21, Tryd.ntmps21
    go_wp2_with fail
    refine ht.mono ?_
    rintro e w1 ⟨a1, c1, rfl, ho1, hb1⟩
    go_wp2
    go_ret
    exact ⟨rfl, hb1⟩
  · have hb : ((us.length : Int) == 0) = false := beq_eq_false_iff_ne.2 (by omega)
    obtain ⟨d, hd⟩ : ∃ d, d = us.getD (us.length - 1) 0 := ⟨_, rfl⟩
    have hbl := blen_val huw hn (by intro h; simp [h] at h0)
    rw [← hd] at hbl
    have hdl : d < 4294967296 := by rw [hd]; exact wf_getD huw _
    obtain ⟨B, hB⟩ : ∃ B, B = blen (val us) := ⟨_, rfl⟩
    have hBl : B ≤ 562949953421344 := by have := blen_u32 hdl; omega
    rw [← hB] at hbl ⊢
    have HBL := hid hbl
    have HD := hid hd
    clear hd hn hbl hB
    go_enter Tryd.func21, Tryd.ntmps21
    go_wp2_with fail
    refine ht.mono ?_
    rintro e w1 ⟨a1, c1, rfl, ho1, hb1⟩
    rcases ho1.rd.lies with h1 | ⟨b, off, rfl, hcell⟩
    · simp [h1] at h0
    have hc := hcell (us.length - 1) (by omega)
    rw [← HD.out] at hc
    clear hcell ht ho1
    go_wp2
    go_loop [3, 4] (fun nv tv => ∃ n t : Nat, nv = .int .i64 (n : Int) ∧ tv = .int .u32 (t : Int) ∧ t < 4294967296 ∧ Hid (n + blen t = B) ∧ n ≤ B) (fun _ tv => (intOf tv).toNat)
    case atStart => exact ⟨32 * (us.length - 1), d, int_eq (by omega), rfl, hdl, by have := HBL.out; show _ = _; omega, by have := HBL.out; omega⟩
    case round =>
      obtain ⟨n, t, rfl, rfl, htl, HN, hnB⟩ := hrel
      by_cases ht0 : t = 0
      · subst ht0
        obtain rfl : n = B := by have := HN.out; rw [blen_zero] at this; omega
        go_wp2
        go_ret
        exact ⟨rfl, hb1⟩
      · have hh := blen_half ht0
        have hp : (t : Int) > 0 := by omega
        have hn1 : n + 1 ≤ B := by have := HN.out; omega
        have HH := hid hh
        clear hh
        go_wp2
        refine ⟨⟨n + 1, t / 2, by simp, int_eq (by omega), by omega, ?_, hn1⟩, by simp [intOf]; omega⟩
        have := HN.out
        have := HH.out
        show _ = _
        omega

/-- a quotient and a digit -/
def RetSmall (v r : Nat) (w : World) (e : Ending) (w' : World) : Prop :=
  ∃ ao c, e = .returned (.tuple #[.slice ao (nd v).length c, .int .u32 (r : Int)]) ∧ Own w.heap.size w' ao c (nd v) ∧ Below w.heap.size w w'

set_option maxRecDepth 100000 in
set_option maxHeartbeats 800000 in
theorem rsmall_any (ao : Option Addr) (c D : Nat) (xs : List Nat) (w : World) (h : Rd w ao c xs) (hl : xs.length ≤ 17592186044416) (hD : D < 4294967296) (hD0 : 0 < D) :
    Calls Tryd.prog 73 #[.slice ao xs.length c, .int .u32 (D : Int)] w (RetSmall (val xs / D) (val xs % D) w) := by
  have hax := h.le
  have hax2 := h.cm
  have hxw := h.dg
  go_enter Tryd.func73, Tryd.ntmps73
  go_wp2_with (at_make; refine wp_make _ rfl _ rfl w.heap.size xs.length _ rfl rfl (by omega) (Nat.le_refl _) ?_; intro w1 hown1 hbel1 hsz1)
  go_loopw [7, 8] (fun cv iv wr => ∃ j r : Nat, j ≤ xs.length ∧ cv = .int .u64 (r : Int) ∧ iv = .int .i64 ((j : Int) - 1) ∧ r < D ∧ Hid (r = val (xs.drop j) % D) ∧
      Own w.heap.size wr (some ⟨w.heap.size, 0, none⟩) xs.length ((List.replicate xs.length 0).take j ++ dig (xs.length - j) (val (xs.drop j) / D)) ∧ Below w.heap.size w wr) (fun _ iv _ => (intOf iv + 1).toNat)
  case atStart =>
    refine ⟨xs.length, 0, Nat.le_refl _, rfl, rfl, hD0, ?_, ?_, hbel1⟩
    · show 0 = _
      rw [List.drop_length]; simp [val]
    · rw [Nat.sub_self, dig, List.append_nil, List.take_of_length_le (by simp)]; exact hown1
  case round =>
    obtain ⟨j, r, hj, rfl, rfl, hrl, HR, hown, hbel⟩ := hrel
    by_cases hj0 : j = 0
    · subst hj0
      have hr := HR.out
      simp only [List.drop_zero, List.take_zero, List.nil_append, Nat.sub_zero] at hr hown
      have hv : val (dig xs.length (val xs / D)) = val xs / D := by
        rw [val_dig, Nat.mod_eq_of_lt (Nat.lt_of_le_of_lt (Nat.div_le_self _ _) (val_lt hxw))]
      have ht := rtrim_any _ _ _ wr hown.rd (by rw [length_dig]; omega)
      rw [length_dig, hv] at ht
      have HR2 := hid hr
      have hri : (r : Int) % 4294967296 = (r : Int) := by omega
      clear hown hv hr
      go_wp2_with fail
      refine ht.mono ?_
      rintro e w5 ⟨a5, c5, rfl, ho5, hb5⟩
      go_wp2
      go_ret2
      exact ⟨a5, c5, by rw [HR2.out]; rfl, ho5.mono hbel.size, hbel.trans (hb5.mono hbel.size)⟩
    · obtain ⟨i, rfl⟩ : ∃ i, j = i + 1 := ⟨j - 1, by omega⟩
      have hra := h.below hbel
      rcases hra.lies with h9 | ⟨b1, o1, rfl, hc1⟩
      · simp [h9] at hj
      obtain ⟨x, hx⟩ : ∃ x, x = xs.getD i 0 := ⟨_, rfl⟩
      have hxl : x < 4294967296 := by rw [hx]; exact wf_getD hxw i
      have g1 := hc1 i (by omega)
      rw [← hx] at g1
      have hLl : ((List.replicate xs.length 0).take (i + 1) ++ dig (xs.length - (i + 1)) (val (xs.drop (i + 1)) / D)).length = xs.length := by simp [length_dig]; omega
      have hcell := hown.cell i (by rw [hLl]; omega)
      obtain ⟨z, hz⟩ : ∃ z, z = ((List.replicate xs.length 0).take (i + 1) ++ dig (xs.length - (i + 1)) (val (xs.drop (i + 1)) / D)).getD i 0 := ⟨_, rfl⟩
      rw [← hz] at hcell
      have hfr := hown.frozen i
      obtain ⟨q, hq⟩ : ∃ q, q = x + 4294967296 * r % 18446744073709551616 := ⟨_, rfl⟩
      obtain ⟨horr, hql, hqm⟩ := or_dig r x q hxl hq
      rw [or_dig_wrap (by omega)] at horr
      have hq2 : q = 4294967296 * r + x := by omega
      have hst := div_step x (val (xs.drop (i + 1))) D hD0
      have hlt := div_step_lt (u := x) (v := val (xs.drop (i + 1))) hxl hD0
      rw [← HR.out, ← hq2] at hst hlt
      have hvd : val (xs.drop i) = x + 4294967296 * val (xs.drop (i + 1)) := by rw [val_drop (by omega), hx]
      have hqi : ((q : Int) / (D : Int)) = ((q / D : Nat) : Int) := by simp
      have hqmi : ((q : Int) % (D : Int)) = ((q % D : Nat) : Int) := by simp
      obtain ⟨qd, hqd1⟩ : ∃ qd, qd = q / D := ⟨_, rfl⟩
      obtain ⟨qr, hqr1⟩ : ∃ qr, qr = q % D := ⟨_, rfl⟩
      have hqd : qd < 4294967296 := by rw [hqd1]; exact hlt
      rw [← hqd1] at hqi
      rw [← hqr1] at hqmi
      have hqrl : qr < D := by rw [hqr1]; exact Nat.mod_lt _ hD0
      have hset : (((List.replicate xs.length 0).take (i + 1) ++ dig (xs.length - (i + 1)) (val (xs.drop (i + 1)) / D)).set i qd) = (List.replicate xs.length 0).take i ++ dig (xs.length - i) (val (xs.drop i) / D) := by
        have := set_down (zs := List.replicate xs.length 0) (i := i) (v := val (xs.drop (i + 1)) / D) (by simp; omega) hqd
        simp only [List.length_replicate] at this
        rw [this, hvd, hst.1, ← hqd1]
      have hnew : ∀ u : Int, u = (qd : Int) → Own w.heap.size (wr.setCell ⟨w.heap.size, i, none⟩ (.int .u32 u)) (some ⟨w.heap.size, 0, none⟩) xs.length ((List.replicate xs.length 0).take i ++ dig (xs.length - i) (val (xs.drop i) / D)) := by
        intro u hu
        have h := hown.set i qd u hu hqd (by rw [hLl]; omega)
        rwa [hset] at h
      have HP := hid (And.intro hst (And.intro hvd (And.intro hqd1 hqr1)))
      have HNEW := hid hnew
      have hii : (i : Int) < (xs.length : Int) := by omega
      clear hx hLl hq hq2 hst hlt hvd hqd1 hqr1 hqm hset hnew hown hc1 hra hz
      go_wp2
      have hp := HP.out
      refine ⟨⟨i, qr, by omega, int_eq hqmi, int_eq (by omega), hqrl, ?_, HNEW.out _ (by first | omega | exact hqi | (rw [hqi]; omega)), Below.setCell hbel (Nat.le_refl _) _⟩, by simp [intOf]⟩
      show _ = _
      rw [hp.2.1, hp.1.2, hp.2.2.2]
end Go.Proofs.YtbcaigpdckencaaDoor
