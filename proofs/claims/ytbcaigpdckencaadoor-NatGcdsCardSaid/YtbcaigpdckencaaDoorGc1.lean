/- nat.smallGcd, toUint64, ofUint64; bits.TrailingZeros64. -/
import Derived.Test.YtbcaigpdckencaaDoorGc0
import Derived.Test.YtbcaigpdckencaaDoorIn8
import Derived.Shelf.Spec.TrailingZeros
namespace Go.Proofs.YtbcaigpdckencaaDoor
open Go.RowKit Num

/-- the table of bits.TrailingZeros64 -/
def Tb (w : World) : Prop := TabAt 0 Lib.deBruijn64tab w
theorem Tb.keep {w w' : World} (h : Tb w) (hk : ∀ a v, w.cell? a = some v → w'.cell? a = some v) : Tb w' := fun j hj => hk _ _ (h j hj)
theorem Tb.below {w w' : World} (h : Tb w) (hb : Below w.heap.size w w') : Tb w' := h.keep fun _ _ hv => (hb.cell (lt_of_cell hv)).trans hv
theorem Tb.put {w : World} (h : Tb w) {g : Nat} (hg : 0 ≠ g) (o : Nat) (ys : List Nat) : Tb (wput w g o ys) := fun j hj => (wput_cell_other w g o ys _ hg).trans (h j hj)
theorem Tb.lt {w : World} (h : Tb w) : 0 < w.heap.size := lt_of_cell (h 0 (by decide))

theorem tz64_core (x k idx : Nat) (w : World) (hx0 : ((x : Int) == 0) = false)
    (key : IntKind.u64.wrap (bits BinOp.and IntKind.u64 (x : Int) (IntKind.u64.wrap (-(x : Int))) * 285870213051353865) / 288230376151711744 = (idx : Int))
    (hi : idx < 64) (hk : k < 64) (hcell : w.cell? ⟨0, idx, none⟩ = some (.int .u8 (k : Int))) :
    Calls Tryd.prog 92 #[.int .u64 (x : Int)] w (Ret (.int .i64 (k : Int)) w) := by
  go_enter Tryd.func92, Tryd.ntmps92
  go_wp2_with (simp only [key])
  go_ret
  exact ⟨rfl, rfl⟩
theorem tz64_any (x : Nat) (hx : x < 18446744073709551616) (w : World) (hT : Tb w) :
    Calls Tryd.prog 92 #[.int .u64 (x : Int)] w (Ret (.int .i64 (Lib.ctz 64 x : Int)) w) := by
  by_cases hx0 : x = 0
  · subst hx0
    go_enter Tryd.func92, Tryd.ntmps92
    go_wp2
    go_ret
    exact ⟨rfl, rfl⟩
  · obtain ⟨hlow, hk⟩ := Lib.lowest_bit 64 x hx0 hx
    obtain ⟨hi, htab⟩ := Lib.deBruijn64_at _ hk
    have hcell := hT _ hi
    rw [htab] at hcell
    exact tz64_core x _ _ w (by simp; omega) (tz64_key x _ hx hx0 hlow) hi hk hcell
theorem int_shr {a i q : Nat} (h : a / 2 ^ i = q) : (a : Int) / 2 ^ i = (q : Int) := by rw [← h]; simp
theorem ctz_spec {x : Nat} (h : x ≠ 0) (hx : x < 18446744073709551616) : ∃ m, x = 2 ^ Lib.ctz 64 x * (2 * m + 1) ∧ Lib.ctz 64 x < 64 := by
  unfold Lib.ctz
  rw [if_neg h]
  exact Lib.ctzFrom_spec 64 x (by omega) (by omega)

set_option maxRecDepth 100000 in
set_option maxHeartbeats 1600000 in
theorem smallGcd_any (a b : Nat) (w : World) (ha0 : a ≠ 0) (ha : a < 18446744073709551616) (hb : b < 18446744073709551616) (hT : Tb w) :
    Calls Tryd.prog 66 #[.int .u64 (a : Int), .int .u64 (b : Int)] w (Ret (.int .u64 (Nat.gcd a b : Int)) w) := by
  obtain ⟨o, ho⟩ : ∃ o, o = a ||| b := ⟨_, rfl⟩
  have ho0 : o ≠ 0 := by rw [ho]; intro h; exact ha0 (Nat.or_eq_zero_iff.1 h).1
  have hol : o < 18446744073709551616 := by rw [ho]; exact Nat.or_lt_two_pow (n := 64) ha hb
  obtain ⟨k, hok, hc64⟩ := ctz_spec ho0 hol
  obtain ⟨m, ham, hi64⟩ := ctz_spec ha0 ha
  have hz1 := tz64_any o hol w hT
  have hz2 := tz64_any a ha w hT
  obtain ⟨c, hc⟩ : ∃ c, c = Lib.ctz 64 o := ⟨_, rfl⟩
  obtain ⟨i, hi⟩ : ∃ i, i = Lib.ctz 64 a := ⟨_, rfl⟩
  rw [← hc] at hok hc64 hz1
  rw [← hi] at ham hi64 hz2
  have hG := gcd_start (b := b) (k := k) (c := c) ham (by rw [← ho]; exact hok)
  obtain ⟨G, hGG⟩ : ∃ G, G = Nat.gcd (2 * m + 1) b := ⟨_, rfl⟩
  obtain ⟨R, hR⟩ : ∃ R, R = Nat.gcd a b := ⟨_, rfl⟩
  rw [← hR] at hG ⊢
  rw [← hGG] at hG
  obtain ⟨a1, ha1⟩ : ∃ a1, a1 = 2 * m + 1 := ⟨_, rfl⟩
  rw [← ha1] at hGG ham
  have hsh : a >>> i = a1 := by rw [Nat.shiftRight_eq_div_pow, ham, Nat.mul_div_cancel_left _ (Nat.pow_pos (by omega))]
  have hal : a1 < 18446744073709551616 := by rw [← hsh, Nat.shiftRight_eq_div_pow]; exact Nat.lt_of_le_of_lt (Nat.div_le_self _ _) ha
  have hRl : R < 18446744073709551616 := Nat.lt_of_le_of_lt (by rw [hR]; exact Nat.gcd_le_left _ (by omega)) ha
  have hor : bits .or .u64 (a : Int) (b : Int) = (o : Int) := by rw [u64_or_nat a b ha hb, ho]
  have HGG := hid hGG
  have HG := hid hG
  have HA1 := hid ha1
  have HT := hid hT
  have hsi : (a : Int) / 2 ^ i = (a1 : Int) := int_shr (by rw [← hsh, Nat.shiftRight_eq_div_pow])
  clear ha0 ho0 hok ham hG hGG hR ha1 hc hi ho hT
  go_enter Tryd.func66, Tryd.ntmps66
  go_wp2_with fail
  refine hz1.mono ?_
  rintro e w' ⟨rfl, rfl⟩
  go_wp2_with fail
  refine hz2.mono ?_
  rintro e w' ⟨rfl, rfl⟩
  clear hz1 hz2
  go_wp2_with fail
  go_loop [0, 1] (fun av bv => ∃ x y : Nat, av = .int .u64 (x : Int) ∧ bv = .int .u64 (y : Int) ∧ x < 18446744073709551616 ∧ y < 18446744073709551616 ∧ Hid (x % 2 = 1 ∧ Nat.gcd x y = G)) (fun av bv => (intOf av + intOf bv).toNat)
  case atStart => exact ⟨a1, b, rfl, rfl, hal, hb, ⟨by have := HA1.out; omega, HGG.out.symm⟩⟩
  case round =>
    obtain ⟨x, y, rfl, rfl, hxl, hyl, HX⟩ := hrel
    by_cases hy0 : y = 0
    · subst hy0
      have hG1 := HX.out.2
      rw [Nat.gcd_zero_right] at hG1
      have HF := hid (show IntKind.u64.wrap ((x : Int) * 2 ^ c) = (R : Int) by
        rw [hG1, show (G : Int) * 2 ^ c = ((G * 2 ^ c : Nat) : Int) by simp, ← HG.out]
        exact wrap_u64_nat R hRl)
      clear hG1
      go_wp2
      go_ret
      exact Ret.mk (int_eq HF.out)
    · obtain ⟨m1, hm1, hj64⟩ := ctz_spec hy0 hyl
      have hz := tz64_any y hyl w HT.out
      obtain ⟨j, hj⟩ : ∃ j, j = Lib.ctz 64 y := ⟨_, rfl⟩
      rw [← hj] at hm1 hj64 hz
      have hyi : ¬ (y : Int) = 0 := by omega
      have hq : y / 2 ^ j = 2 * m1 + 1 := by rw [hm1, Nat.mul_div_cancel_left _ (Nat.pow_pos (by omega))]
      obtain ⟨z, hz1⟩ : ∃ z, z = 2 * m1 + 1 := ⟨_, rfl⟩
      have hrd := gcd_round HX.out.1 hm1
      rw [← hz1] at hrd hq
      have hzl : z ≤ y := hrd.2.2.2
      have hzs := int_shr hq
      have HR := hid hrd
      have hyb : ((y : Int) != 0) = true := by simp [hy0]
      clear hm1 hj hq hz1 hrd hy0
      go_wp2_with fail
      refine hz.mono ?_
      rintro e w' ⟨rfl, rfl⟩
      rcases Nat.le_total x z with hxz | hxz
      · go_wp2
        have h := HR.out
        rw [Nat.min_eq_left hxz, Nat.max_eq_right hxz] at h
        have e1 : (if x < z then (z : Int) else (x : Int)) - (x : Int) = ((z - x : Nat) : Int) := by split <;> omega
        rw [e1]
        exact ⟨⟨x, z - x, rfl, rfl, hxl, by omega, ⟨h.2.1, h.1.trans HX.out.2⟩⟩, by simp only [intOf]; omega⟩
      · go_wp2
        have h := HR.out
        rw [Nat.min_eq_right hxz, Nat.max_eq_left hxz] at h
        have e0 : (if z < x then (z : Int) else (x : Int)) = ((z : Nat) : Int) := by split <;> omega
        have e1 : (if x < z then (z : Int) else (x : Int)) - (z : Int) = ((x - z : Nat) : Int) := by split <;> omega
        rw [e0, e1]
        exact ⟨⟨z, x - z, rfl, rfl, by omega, by omega, ⟨h.2.1, h.1.trans HX.out.2⟩⟩, by simp only [intOf]; omega⟩

set_option maxRecDepth 100000 in
set_option maxHeartbeats 1600000 in
theorem toUint64_any (ao : Option Addr) (c : Nat) (ds : List Nat) (w : World) (h : Rd w ao c ds) (hlen : ds.length ≤ 2) :
    Calls Tryd.prog 67 #[.slice ao ds.length c] w (Ret (.int .u64 (val ds : Int)) w) := by
  have hle := h.le
  have hcm := h.cm
  have hdw := h.dg
  have hrd := h
  have HV := hid (show ∃ m, val ds = m from ⟨_, rfl⟩)
  clear h
  go_enter Tryd.func67, Tryd.ntmps67
  go_wp2
  go_loopw [3, 8] (fun sv kv wr => ∃ (k S : Nat) (K : Int), k ≤ ds.length ∧ kv = .int .i64 K ∧ Hid (K = (k : Int)) ∧ sv = .int .u64 (S : Int) ∧ S < 18446744073709551616 ∧ Hid (S = val (ds.take k)) ∧ wr = w) (fun _ kv _ => ds.length - (intOf kv).toNat)
  case atStart => exact ⟨0, 0, 0, Nat.zero_le _, rfl, rfl, rfl, by omega, by simp [Hid, val], rfl⟩
  case round =>
    obtain ⟨k, S, K, hk, rfl, HK, rfl, hSl, HS, rfl⟩ := hrel
    by_cases hlt : k < ds.length
    · rcases hrd.lies with h9 | ⟨b1, o1, rfl, hc1⟩
      · simp [h9] at hlt
      have g1 := hc1 k hlt
      obtain ⟨x, hx⟩ : ∃ x, x = ds.getD k 0 := ⟨_, rfl⟩
      rw [← hx] at g1
      have hxl : x < 4294967296 := by rw [hx]; exact wf_getD hdw k
      have hSk : S < 4294967296 ^ k := by rw [HS.out]; exact val_take_lt hdw k
      obtain ⟨t, ht⟩ : ∃ t, t = S + x * 4294967296 ^ k := ⟨_, rfl⟩
      have hor := or_join k S x t (by omega) hSk hxl ht
      have HT := hid (show t = val (ds.take (k + 1)) by rw [val_take_getD, ← hx, ← HS.out, ht, Nat.mul_comm])
      clear hc1 hx ht
      rcases (by omega : k = 0 ∨ k = 1) with hk0 | hk0
      · obtain rfl : K = 0 := by have := HK.out; omega
        subst hk0
        simp only [Nat.pow_zero, Nat.mul_one] at hor
        rw [Nat.add_zero] at g1
        obtain ⟨hor1, hor2⟩ := hor
        have hki : (0 : Int) < (ds.length : Int) := by omega
        clear HK hk
        go_wp2
        exact ⟨⟨1, t, 1, by omega, rfl, rfl, rfl, hor2, HT.out, trivial⟩, by simp [intOf]; omega⟩
      · obtain rfl : K = 1 := by have := HK.out; omega
        subst hk0
        simp only [Nat.pow_one] at hor
        obtain ⟨hor1, hor2⟩ := hor
        have hki : (1 : Int) < (ds.length : Int) := by omega
        clear HK hk
        go_wp2
        exact ⟨⟨2, t, 2, by omega, rfl, rfl, int_eq (by simpa using hor1), hor2, HT.out, trivial⟩, by simp [intOf]; omega⟩
    · obtain rfl : k = ds.length := by omega
      obtain rfl : K = (ds.length : Int) := HK.out
      have hS : S = val ds := by rw [HS.out, List.take_length]
      have hke : ¬ ((ds.length : Int) < (ds.length : Int)) := by omega
      have HSS := hid hS
      clear hS HS HK
      go_wp2
      go_ret
      exact ⟨by rw [HSS.out]; rfl, rfl⟩

set_option maxRecDepth 100000 in
set_option maxHeartbeats 1600000 in
theorem ofUint64_any (n : Nat) (w : World) (h : n < 18446744073709551616) :
    Calls Tryd.prog 65 #[.int .u64 (n : Int)] w (RetOwn w.heap.size (nd n) w) := by
  have hu : (n : Int) % 4294967296 = ((n % 4294967296 : Nat) : Int) := by omega
  have hv : (n : Int) / 4294967296 % 4294967296 = ((n / 4294967296 : Nat) : Int) := by omega
  have hv2 : (n : Int) / 4294967296 = ((n / 4294967296 : Nat) : Int) := by omega
  have hown := Own.word w w.heap.size n _ _ hu hv2 h (Nat.le_refl _)
  have hb2 := below_alloc w (.cells #[.int .u32 ((n : Int) % 4294967296), .int .u32 ((n : Int) / 4294967296)] 61)
  have ht := cut_any _ 2 _ _ hown.rd
  rw [val_word] at ht
  have hcn := hown.cutND
  rw [val_word] at hcn
  have HT := hid ht
  have HB := hid (And.intro hcn hb2)
  clear hu hv hv2 hown hb2 ht hcn
  go_enter Tryd.func65, Tryd.ntmps65
  go_wp2_with fail
  refine HT.out.mono ?_
  rintro e w' ⟨rfl, rfl⟩
  go_wp2
  go_ret
  exact ⟨_, 2, rfl, HB.out.1, HB.out.2⟩
end Go.Proofs.YtbcaigpdckencaaDoor
