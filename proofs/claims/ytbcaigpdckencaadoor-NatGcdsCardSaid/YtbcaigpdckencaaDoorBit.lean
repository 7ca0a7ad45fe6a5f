/- Walks: bits.Len32, Len64, Len, LeadingZeros32; BitLen. -/
import Derived.Test.YtbcaigpdckencaaDoorCut
import Derived.Test.YtbcaigpdckencaaDoorBln
import Derived.Deep.CutRange
import Derived.Deep.DeepCutAuto
namespace Go.Proofs.YtbcaigpdckencaaDoor
open Go.RowKit Num

/-- Go's table, as the translation lays it -/
theorem foldTab : (⟨(([0, 1, 2, 2, 3, 3, 3, 3, 4, 4, 4, 4, 4, 4, 4, 4, 5, 5, 5, 5, 5, 5, 5, 5, 5, 5, 5, 5, 5, 5, 5, 5, 6, 6, 6, 6, 6, 6, 6, 6, 6, 6, 6, 6, 6, 6, 6, 6, 6, 6, 6, 6, 6, 6, 6, 6, 6, 6, 6, 6, 6, 6, 6, 6].append [7, 7, 7, 7, 7, 7, 7, 7, 7, 7, 7, 7, 7, 7, 7, 7, 7, 7, 7, 7, 7, 7, 7, 7, 7, 7, 7, 7, 7, 7, 7, 7, 7, 7, 7, 7, 7, 7, 7, 7, 7, 7, 7, 7, 7, 7, 7, 7, 7, 7, 7, 7, 7, 7, 7, 7, 7, 7, 7, 7, 7, 7, 7, 7]).append ([8, 8, 8, 8, 8, 8, 8, 8, 8, 8, 8, 8, 8, 8, 8, 8, 8, 8, 8, 8, 8, 8, 8, 8, 8, 8, 8, 8, 8, 8, 8, 8, 8, 8, 8, 8, 8, 8, 8, 8, 8, 8, 8, 8, 8, 8, 8, 8, 8, 8, 8, 8, 8, 8, 8, 8, 8, 8, 8, 8, 8, 8, 8, 8].append [8, 8, 8, 8, 8, 8, 8, 8, 8, 8, 8, 8, 8, 8, 8, 8, 8, 8, 8, 8, 8, 8, 8, 8, 8, 8, 8, 8, 8, 8, 8, 8, 8, 8, 8, 8, 8, 8, 8, 8, 8, 8, 8, 8, 8, 8, 8, 8, 8, 8, 8, 8, 8, 8, 8, 8, 8, 8, 8, 8, 8, 8, 8, 8])).toArray⟩ : ByteArray) = Lib.len8tab := by rfl


theorem idxTab (i : Int) (h0 : 0 ≤ i) (h1 : i ≤ 255) : ∃ l : Nat, l = blen i.toNat ∧ l ≤ 8 ∧ ∀ w, (Instr.index 9 (.string Lib.len8tab) (.int .u8 i)).run Tryd.prog w = .ok (.int .u8 (l : Int)) w := by
  refine ⟨blen i.toNat, rfl, blen_le_iff.2 (by simp; omega), fun w => ?_⟩
  rw [Lib.run_index_len8tab w _ _ _ Tryd.underlying9 h0 h1, Lib.len8_of i h0 h1, bitLen_eq _ (by omega)]
set_option maxRecDepth 100000 in
theorem len32_0 (x : Int) (w : World) (h0 : 0 ≤ x) (hx : x < 4294967296) (c0 : 65536 ≤ x) (c1 : 256 ≤ x / 65536) : Calls Tryd.prog 61 #[.int .u32 x] w (Ret (.int .i64 (blen x.toNat : Int)) w) := by
  obtain ⟨l, hl, hl8, hi⟩ := idxTab (x / 65536 / 256) (by omega) (by omega)
  have HB := hid (show 24 + l = blen x.toNat from by
    rw [hl]
    have := blen_mul_add (k := 24) (d := x.toNat / 16777216) (r := x.toNat % 16777216) (by simp; omega) (by omega)
    rw [show x.toNat % 16777216 + 2 ^ 24 * (x.toNat / 16777216) = x.toNat by simp; omega] at this
    rw [this]
    first | rfl | (congr 2; omega))
  clear hl
  go_enter Tryd.func61, Tryd.ntmps61
  rw [foldTab]
  go_wp2
  go_ret
  refine Ret.mk ?_
  rw [← HB.out]
  first | rfl | (simp; done) | (simp; omega)
set_option maxRecDepth 100000 in
theorem len32_1 (x : Int) (w : World) (h0 : 0 ≤ x) (hx : x < 4294967296) (c0 : 65536 ≤ x) (c1 : x / 65536 < 256) : Calls Tryd.prog 61 #[.int .u32 x] w (Ret (.int .i64 (blen x.toNat : Int)) w) := by
  obtain ⟨l, hl, hl8, hi⟩ := idxTab (x / 65536) (by omega) (by omega)
  have HB := hid (show 16 + l = blen x.toNat from by
    rw [hl]
    have := blen_mul_add (k := 16) (d := x.toNat / 65536) (r := x.toNat % 65536) (by simp; omega) (by omega)
    rw [show x.toNat % 65536 + 2 ^ 16 * (x.toNat / 65536) = x.toNat by simp; omega] at this
    rw [this]
    first | rfl | (congr 2; omega))
  clear hl
  go_enter Tryd.func61, Tryd.ntmps61
  rw [foldTab]
  go_wp2
  go_ret
  refine Ret.mk ?_
  rw [← HB.out]
  first | rfl | (simp; done) | (simp; omega)
set_option maxRecDepth 100000 in
theorem len32_2 (x : Int) (w : World) (h0 : 0 ≤ x) (hx : x < 4294967296) (c0 : x < 65536) (c1 : 256 ≤ x) : Calls Tryd.prog 61 #[.int .u32 x] w (Ret (.int .i64 (blen x.toNat : Int)) w) := by
  obtain ⟨l, hl, hl8, hi⟩ := idxTab (x / 256) (by omega) (by omega)
  have HB := hid (show 8 + l = blen x.toNat from by
    rw [hl]
    have := blen_mul_add (k := 8) (d := x.toNat / 256) (r := x.toNat % 256) (by simp; omega) (by omega)
    rw [show x.toNat % 256 + 2 ^ 8 * (x.toNat / 256) = x.toNat by simp; omega] at this
    rw [this]
    first | rfl | (congr 2; omega))
  clear hl
  go_enter Tryd.func61, Tryd.ntmps61
  rw [foldTab]
  go_wp2
  go_ret
  refine Ret.mk ?_
  rw [← HB.out]
  first | rfl | (simp; done) | (simp; omega)
set_option maxRecDepth 100000 in
theorem len32_3 (x : Int) (w : World) (h0 : 0 ≤ x) (hx : x < 4294967296) (c0 : x < 65536) (c1 : x < 256) : Calls Tryd.prog 61 #[.int .u32 x] w (Ret (.int .i64 (blen x.toNat : Int)) w) := by
  obtain ⟨l, hl, hl8, hi⟩ := idxTab (x) (by omega) (by omega)
  have HB := hid (show 0 + l = blen x.toNat from by
    rw [hl]
    simp)
  clear hl
  go_enter Tryd.func61, Tryd.ntmps61
  rw [foldTab]
  go_wp2
  go_ret
  refine Ret.mk ?_
  rw [← HB.out]
  first | rfl | (simp; done) | (simp; omega)

theorem len32_any (x : Nat) (w : World) (hx : x < 4294967296) : Calls Tryd.prog 61 #[.int .u32 (x : Int)] w (Ret (.int .i64 (blen x : Int)) w) := by
  have e : ((x : Int)).toNat = x := Int.toNat_natCast x
  rw [← e, e]
  by_cases h1 : 65536 ≤ (x : Int)
  · by_cases h2 : 256 ≤ (x : Int) / 65536
    · exact len32_0 _ w (by omega) (by omega) h1 h2
    · exact len32_1 _ w (by omega) (by omega) h1 (by omega)
  · by_cases h2 : 256 ≤ (x : Int)
    · exact len32_2 _ w (by omega) (by omega) (by omega) h2
    · exact len32_3 _ w (by omega) (by omega) (by omega) (by omega)
set_option maxRecDepth 100000 in
theorem len64_0 (x : Int) (w : World) (h0 : 0 ≤ x) (hx : x < 18446744073709551616) (c0 : 4294967296 ≤ x) (c1 : 65536 ≤ x / 4294967296) (c2 : 256 ≤ x / 4294967296 / 65536) : Calls Tryd.prog 105 #[.int .u64 x] w (Ret (.int .i64 (blen x.toNat : Int)) w) := by
  obtain ⟨l, hl, hl8, hi⟩ := idxTab (x / 4294967296 / 65536 / 256) (by omega) (by omega)
  have HB := hid (show 56 + l = blen x.toNat from by
    rw [hl]
    have := blen_mul_add (k := 56) (d := x.toNat / 72057594037927936) (r := x.toNat % 72057594037927936) (by simp; omega) (by omega)
    rw [show x.toNat % 72057594037927936 + 2 ^ 56 * (x.toNat / 72057594037927936) = x.toNat by simp; omega] at this
    rw [this]
    first | rfl | (congr 2; omega))
  clear hl
  go_enter Tryd.func105, Tryd.ntmps105
  rw [foldTab]
  go_wp2
  go_ret
  refine Ret.mk ?_
  rw [← HB.out]
  first | rfl | (simp; done) | (simp; omega)
set_option maxRecDepth 100000 in
theorem len64_1 (x : Int) (w : World) (h0 : 0 ≤ x) (hx : x < 18446744073709551616) (c0 : 4294967296 ≤ x) (c1 : 65536 ≤ x / 4294967296) (c2 : x / 4294967296 / 65536 < 256) : Calls Tryd.prog 105 #[.int .u64 x] w (Ret (.int .i64 (blen x.toNat : Int)) w) := by
  obtain ⟨l, hl, hl8, hi⟩ := idxTab (x / 4294967296 / 65536) (by omega) (by omega)
  have HB := hid (show 48 + l = blen x.toNat from by
    rw [hl]
    have := blen_mul_add (k := 48) (d := x.toNat / 281474976710656) (r := x.toNat % 281474976710656) (by simp; omega) (by omega)
    rw [show x.toNat % 281474976710656 + 2 ^ 48 * (x.toNat / 281474976710656) = x.toNat by simp; omega] at this
    rw [this]
    first | rfl | (congr 2; omega))
  clear hl
  go_enter Tryd.func105, Tryd.ntmps105
  rw [foldTab]
  go_wp2
  go_ret
  refine Ret.mk ?_
  rw [← HB.out]
  first | rfl | (simp; done) | (simp; omega)
set_option maxRecDepth 100000 in
theorem len64_2 (x : Int) (w : World) (h0 : 0 ≤ x) (hx : x < 18446744073709551616) (c0 : 4294967296 ≤ x) (c1 : x / 4294967296 < 65536) (c2 : 256 ≤ x / 4294967296) : Calls Tryd.prog 105 #[.int .u64 x] w (Ret (.int .i64 (blen x.toNat : Int)) w) := by
  obtain ⟨l, hl, hl8, hi⟩ := idxTab (x / 4294967296 / 256) (by omega) (by omega)
  have HB := hid (show 40 + l = blen x.toNat from by
    rw [hl]
    have := blen_mul_add (k := 40) (d := x.toNat / 1099511627776) (r := x.toNat % 1099511627776) (by simp; omega) (by omega)
    rw [show x.toNat % 1099511627776 + 2 ^ 40 * (x.toNat / 1099511627776) = x.toNat by simp; omega] at this
    rw [this]
    first | rfl | (congr 2; omega))
  clear hl
  go_enter Tryd.func105, Tryd.ntmps105
  rw [foldTab]
  go_wp2
  go_ret
  refine Ret.mk ?_
  rw [← HB.out]
  first | rfl | (simp; done) | (simp; omega)
set_option maxRecDepth 100000 in
theorem len64_3 (x : Int) (w : World) (h0 : 0 ≤ x) (hx : x < 18446744073709551616) (c0 : 4294967296 ≤ x) (c1 : x / 4294967296 < 65536) (c2 : x / 4294967296 < 256) : Calls Tryd.prog 105 #[.int .u64 x] w (Ret (.int .i64 (blen x.toNat : Int)) w) := by
  obtain ⟨l, hl, hl8, hi⟩ := idxTab (x / 4294967296) (by omega) (by omega)
  have HB := hid (show 32 + l = blen x.toNat from by
    rw [hl]
    have := blen_mul_add (k := 32) (d := x.toNat / 4294967296) (r := x.toNat % 4294967296) (by simp; omega) (by omega)
    rw [show x.toNat % 4294967296 + 2 ^ 32 * (x.toNat / 4294967296) = x.toNat by simp; omega] at this
    rw [this]
    first | rfl | (congr 2; omega))
  clear hl
  go_enter Tryd.func105, Tryd.ntmps105
  rw [foldTab]
  go_wp2
  go_ret
  refine Ret.mk ?_
  rw [← HB.out]
  first | rfl | (simp; done) | (simp; omega)
set_option maxRecDepth 100000 in
theorem len64_4 (x : Int) (w : World) (h0 : 0 ≤ x) (hx : x < 18446744073709551616) (c0 : x < 4294967296) (c1 : 65536 ≤ x) (c2 : 256 ≤ x / 65536) : Calls Tryd.prog 105 #[.int .u64 x] w (Ret (.int .i64 (blen x.toNat : Int)) w) := by
  obtain ⟨l, hl, hl8, hi⟩ := idxTab (x / 65536 / 256) (by omega) (by omega)
  have HB := hid (show 24 + l = blen x.toNat from by
    rw [hl]
    have := blen_mul_add (k := 24) (d := x.toNat / 16777216) (r := x.toNat % 16777216) (by simp; omega) (by omega)
    rw [show x.toNat % 16777216 + 2 ^ 24 * (x.toNat / 16777216) = x.toNat by simp; omega] at this
    rw [this]
    first | rfl | (congr 2; omega))
  clear hl
  go_enter Tryd.func105, Tryd.ntmps105
  rw [foldTab]
  go_wp2
  go_ret
  refine Ret.mk ?_
  rw [← HB.out]
  first | rfl | (simp; done) | (simp; omega)
set_option maxRecDepth 100000 in
theorem len64_5 (x : Int) (w : World) (h0 : 0 ≤ x) (hx : x < 18446744073709551616) (c0 : x < 4294967296) (c1 : 65536 ≤ x) (c2 : x / 65536 < 256) : Calls Tryd.prog 105 #[.int .u64 x] w (Ret (.int .i64 (blen x.toNat : Int)) w) := by
  obtain ⟨l, hl, hl8, hi⟩ := idxTab (x / 65536) (by omega) (by omega)
  have HB := hid (show 16 + l = blen x.toNat from by
    rw [hl]
    have := blen_mul_add (k := 16) (d := x.toNat / 65536) (r := x.toNat % 65536) (by simp; omega) (by omega)
    rw [show x.toNat % 65536 + 2 ^ 16 * (x.toNat / 65536) = x.toNat by simp; omega] at this
    rw [this]
    first | rfl | (congr 2; omega))
  clear hl
  go_enter Tryd.func105, Tryd.ntmps105
  rw [foldTab]
  go_wp2
  go_ret
  refine Ret.mk ?_
  rw [← HB.out]
  first | rfl | (simp; done) | (simp; omega)
set_option maxRecDepth 100000 in
theorem len64_6 (x : Int) (w : World) (h0 : 0 ≤ x) (hx : x < 18446744073709551616) (c0 : x < 4294967296) (c1 : x < 65536) (c2 : 256 ≤ x) : Calls Tryd.prog 105 #[.int .u64 x] w (Ret (.int .i64 (blen x.toNat : Int)) w) := by
  obtain ⟨l, hl, hl8, hi⟩ := idxTab (x / 256) (by omega) (by omega)
  have HB := hid (show 8 + l = blen x.toNat from by
    rw [hl]
    have := blen_mul_add (k := 8) (d := x.toNat / 256) (r := x.toNat % 256) (by simp; omega) (by omega)
    rw [show x.toNat % 256 + 2 ^ 8 * (x.toNat / 256) = x.toNat by simp; omega] at this
    rw [this]
    first | rfl | (congr 2; omega))
  clear hl
  go_enter Tryd.func105, Tryd.ntmps105
  rw [foldTab]
  go_wp2
  go_ret
  refine Ret.mk ?_
  rw [← HB.out]
  first | rfl | (simp; done) | (simp; omega)
set_option maxRecDepth 100000 in
theorem len64_7 (x : Int) (w : World) (h0 : 0 ≤ x) (hx : x < 18446744073709551616) (c0 : x < 4294967296) (c1 : x < 65536) (c2 : x < 256) : Calls Tryd.prog 105 #[.int .u64 x] w (Ret (.int .i64 (blen x.toNat : Int)) w) := by
  obtain ⟨l, hl, hl8, hi⟩ := idxTab (x) (by omega) (by omega)
  have HB := hid (show 0 + l = blen x.toNat from by
    rw [hl]
    simp)
  clear hl
  go_enter Tryd.func105, Tryd.ntmps105
  rw [foldTab]
  go_wp2
  go_ret
  refine Ret.mk ?_
  rw [← HB.out]
  first | rfl | (simp; done) | (simp; omega)
theorem len64_any (x : Nat) (w : World) (hx : x < 18446744073709551616) : Calls Tryd.prog 105 #[.int .u64 (x : Int)] w (Ret (.int .i64 (blen x : Int)) w) := by
  have e : ((x : Int)).toNat = x := Int.toNat_natCast x
  rw [← e, e]
  by_cases h0 : 4294967296 ≤ (x : Int)
  · by_cases h1 : 65536 ≤ (x : Int) / 4294967296
    · by_cases h2 : 256 ≤ (x : Int) / 4294967296 / 65536
      · exact len64_0 _ w (by omega) (by omega) (by omega) (by omega) (by omega)
      · exact len64_1 _ w (by omega) (by omega) (by omega) (by omega) (by omega)
    · by_cases h2 : 256 ≤ (x : Int) / 4294967296
      · exact len64_2 _ w (by omega) (by omega) (by omega) (by omega) (by omega)
      · exact len64_3 _ w (by omega) (by omega) (by omega) (by omega) (by omega)
  · by_cases h1 : 65536 ≤ (x : Int)
    · by_cases h2 : 256 ≤ (x : Int) / 65536
      · exact len64_4 _ w (by omega) (by omega) (by omega) (by omega) (by omega)
      · exact len64_5 _ w (by omega) (by omega) (by omega) (by omega) (by omega)
    · by_cases h2 : 256 ≤ (x : Int)
      · exact len64_6 _ w (by omega) (by omega) (by omega) (by omega) (by omega)
      · exact len64_7 _ w (by omega) (by omega) (by omega) (by omega) (by omega)

theorem len_any (x : Nat) (w : World) (hx : x < 18446744073709551616) : Calls Tryd.prog 85 #[.int .u64 (x : Int)] w (Ret (.int .i64 (blen x : Int)) w) := by
  have hc := fun w => len64_any x w hx
  clear hx
  go_enter Tryd.func85, Tryd.ntmps85
  go_wp2_with (go_at_call 105; refine (hc _).mono ?_; rintro e w' ⟨rfl, rfl⟩)
  go_ret
  exact Ret.mk rfl

theorem lz32_any (x : Nat) (w : World) (hx : x < 4294967296) : Calls Tryd.prog 97 #[.int .u32 (x : Int)] w (Ret (.int .i64 (32 - (blen x : Int))) w) := by
  have hc := fun w => len32_any x w hx
  have hl := blen_u32 hx
  go_enter Tryd.func97, Tryd.ntmps97
  go_wp2_with (go_at_call 61; refine (hc _).mono ?_; rintro e w' ⟨rfl, rfl⟩)
  go_ret
  exact Ret.mk rfl

theorem bitlen_any (ao : Option Addr) (c : Nat) (xs : List Nat) (w : World) (h : Rd w ao c xs) (hl : xs.length ≤ 17592186044416) :
    Calls Tryd.prog 20 #[.slice ao xs.length c] w (Ret (.int .i64 (blen (val xs) : Int)) w) := by
  have hcut := cut_any ao c xs w h
  have hlen := nd_length_le_of h.dg
  have hr := h.cutND
  have hcm := h.cm
  have hle := h.le
  obtain ⟨us, hus⟩ : ∃ us, us = nd (val xs) := ⟨_, rfl⟩
  have hv : val us = val xs := by rw [hus, val_nd]
  have hn : nrm us := by rw [hus]; exact nrm_nd _
  rw [← hus] at hcut hlen hr
  rw [← hv]
  clear hv hus h
  by_cases h0 : us.length = 0
  · have hu : us = [] := List.eq_nil_of_length_eq_zero h0
    subst hu
    have hb : ((([] : List Nat).length : Int) == 0) = true := by simp
    go_enter Tryd.func20, Tryd.ntmps20
    go_wp2_with (go_at_call 53; refine hcut.mono ?_; rintro e w' ⟨rfl, rfl⟩)
    go_ret
    exact Ret.mk rfl
  · rcases hr.lies with h1 | ⟨b, off, rfl, hcell⟩
    · simp [h1] at h0
    · have hb : ((us.length : Int) == 0) = false := beq_eq_false_iff_ne.2 (by omega)
      obtain ⟨d, hd⟩ : ∃ d, d = us.getD (us.length - 1) 0 := ⟨_, rfl⟩
      have hc := hcell (us.length - 1) (by omega)
      have hbl := blen_val hr.dg hn (by intro h; simp [h] at h0)
      rw [← hd] at hc hbl
      have hdl : d < 4294967296 := by rw [hd]; exact wf_getD hr.dg _
      have hc32 := fun w => len32_any d w hdl
      have hd32 := blen_u32 hdl
      have HBL := hid hbl
      clear hd hcell hr hn hbl
      go_enter Tryd.func20, Tryd.ntmps20
      go_wp2_with (first | (go_at_call 53; refine hcut.mono ?_; rintro e w' ⟨rfl, rfl⟩) | (go_at_call 61; refine (hc32 _).mono ?_; rintro e w' ⟨rfl, rfl⟩))
      go_ret
      refine Ret.mk ?_
      rw [HBL.out]
      exact int_eq (by omega)
end Go.Proofs.YtbcaigpdckencaaDoor
