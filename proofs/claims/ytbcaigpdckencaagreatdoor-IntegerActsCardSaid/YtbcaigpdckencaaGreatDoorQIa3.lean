/- Integers: Small at whatever integer; the reference's. -/
import Derived.Test.YtbcaigpdckencaaGreatDoorQId0
import Derived.Test.YtbcaigpdckencaaGreatDoorQIa0
import Derived.Test.YtbcaigpdckencaaGreatDoorQIsg

namespace Go.Proofs.YtbcaigpdckencaaGreatDoor
open Go.RowKit Num

def smI (z : Int) : Int := if -9223372036854775808 ≤ z ∧ z ≤ 9223372036854775807 then z else 0
def smB (z : Int) : Bool := decide (-9223372036854775808 ≤ z ∧ z ≤ 9223372036854775807)
def RetSm (z : Int) (w : World) (e : Ending) (w' : World) : Prop := e = .returned (.tuple #[.int .i64 (smI z), .bool (smB z)]) ∧ Below w.heap.size w w'
theorem sm_in {z : Int} (h1 : -9223372036854775808 ≤ z) (h2 : z ≤ 9223372036854775807) : smI z = z ∧ smB z = true := by
  refine ⟨by rw [smI, if_pos ⟨h1, h2⟩], by rw [smB]; exact decide_eq_true ⟨h1, h2⟩⟩
theorem sm_out {z : Int} (h : z < -9223372036854775808 ∨ 9223372036854775807 < z) : smI z = 0 ∧ smB z = false := by
  have h2 : ¬ (-9223372036854775808 ≤ z ∧ z ≤ 9223372036854775807) := by omega
  exact ⟨by rw [smI, if_neg h2], by rw [smB]; exact decide_eq_false h2⟩
theorem or_zero64 (S : Nat) (h : S < 18446744073709551616) : bits BinOp.or IntKind.u64 (S : Int) 0 = (S : Int) := by
  have := or_low 64 S 0 (by omega) (by omega) h (by omega)
  simpa using this

set_option maxRecDepth 100000 in
set_option maxHeartbeats 6400000 in
theorem ismall_any (b : Bool) (ao : Option Addr) (c : Nat) (ds : List Nat) (w : World) (h : Rd w ao c ds) (hlen : ds.length ≤ 10) :
    Calls Tryz.prog 10 #[.agg #[.bool b, .slice ao ds.length c]] w (RetSm (iv b (val ds)) w) := by
  have hle := h.le
  have hcm := h.cm
  have hdw := h.dg
  have hba := below_alloc w (.cells #[.bool b, .slice ao ds.length c] 24)
  have hrd := h.below hba
  have hbl := bitlen_any ao c ds _ hrd (by omega)
  have hx1 := heap_alloc_at w (.cells #[.bool b, .slice ao ds.length c] 24)
  obtain ⟨s0, s1, _, _⟩ := pair_cells (W := w.alloc (.cells #[.bool b, .slice ao ds.length c] 24)) hx1 (Below.refl _ _)
  obtain ⟨m, hm⟩ : ∃ m, m = val ds := ⟨_, rfl⟩
  rw [← hm] at hbl ⊢
  have HM := hid hm
  have HA := hid hba
  by_cases hbig : m < 18446744073709551616
  case neg =>
    have hb64 : ¬ (blen m ≤ 64) := fun h => hbig (by have := blen_le_iff.1 h; simpa using this)
    obtain ⟨B, hB⟩ : ∃ B, B = blen m := ⟨_, rfl⟩
    rw [← hB] at hbl hb64
    have hB64 : (64 : Int) < (B : Int) := by omega
    have HO := hid (sm_out (z := iv b m) (by cases b <;> simp [iv] <;> omega))
    clear h hdw hba hrd hx1 hm hbig hb64 hB
    generalize hw1 : w.alloc (.cells #[.bool b, .slice ao ds.length c] 24) = w1 at HA s0 s1 hbl
    subst hw1
    go_enter Tryz.func10, Tryz.ntmps10
    go_wp2_with fail
    refine hbl.mono ?_
    rintro e w' ⟨rfl, rfl⟩
    clear hbl
    go_wp2
    go_ret2
    exact ⟨by rw [HO.out.1, HO.out.2]; rfl, HA.out⟩
  have hb64 : blen m ≤ 64 := blen_u64 hbig
  obtain ⟨B, hB⟩ : ∃ B, B = blen m := ⟨_, rfl⟩
  rw [← hB] at hbl hb64
  clear hba hm hB h hx1
  go_enter Tryz.func10, Tryz.ntmps10
  go_wp2_with fail
  refine hbl.mono ?_
  rintro e w' ⟨rfl, rfl⟩
  clear hbl
  generalize w.alloc (.cells #[.bool b, .slice ao ds.length c] 24) = w1 at HA hrd s0 s1 ⊢
  have hb64' : ¬ (64 < (B : Int)) := by omega
  go_wp2_with fail
  go_loopw [4, 14] (fun sv kv wr => ∃ (k S : Nat) (K : Int), k ≤ ds.length ∧ kv = .int .i64 K ∧ Hid (K = (k : Int)) ∧ sv = .int .u64 (S : Int) ∧ S < 18446744073709551616 ∧ Hid (S = val (ds.take k)) ∧ wr = w1) (fun _ kv _ => ds.length - (intOf kv).toNat)
  case atStart => exact ⟨0, 0, 0, Nat.zero_le _, rfl, rfl, rfl, by omega, by simp [Hid, val], rfl⟩
  case round =>
    obtain ⟨k, S, K, hk, rfl, HK, rfl, hSl, HS, rfl⟩ := hrel
    by_cases hlt : k < ds.length
    · rcases hrd.lies with h9 | ⟨b1, o1, rfl, hc1⟩
      · simp [h9] at hlt
      have g1 := hc1 k hlt
      obtain ⟨x, hx⟩ : ∃ x, x = ds.getD k 0 := ⟨_, rfl⟩
      rw [← hx] at g1
      have hxl : x < 4294967296 := by rw [hx]; exact wf_getD hdw k
      have hSk : S < 4294967296 ^ k := by rw [HS.out]; exact val_take_lt hdw k
      obtain ⟨t, ht⟩ : ∃ t, t = S + x * 4294967296 ^ k := ⟨_, rfl⟩
      have HT := hid (show t = val (ds.take (k + 1)) by rw [val_take_getD, ← hx, ← HS.out, ht, Nat.mul_comm])
      have hx0 : 2 ≤ k → x = 0 := by
        intro h2
        refine Nat.eq_zero_of_not_pos fun hp => ?_
        have h3 : val (ds.take (k + 1)) ≤ m := by rw [HM.out]; rw [val_split ds (k + 1) (by omega)]; omega
        have h4 : 4294967296 ^ 2 ≤ 4294967296 ^ k := Nat.pow_le_pow_right (by omega) h2
        have h5 : 1 * 4294967296 ^ k ≤ x * 4294967296 ^ k := Nat.mul_le_mul_right _ hp
        have h6 : (4294967296 : Nat) ^ 2 = 18446744073709551616 := rfl
        have h7 := HT.out
        omega
      by_cases hk2 : 2 ≤ k
      · obtain rfl : x = 0 := hx0 hk2
        have hts : t = S := by rw [ht]; simp
        subst hts
        have hor := or_zero64 t hSl
        clear hc1 hx ht hSk hx0 HS
        rcases (by omega : k = 2 ∨ k = 3 ∨ k = 4 ∨ k = 5 ∨ k = 6 ∨ k = 7 ∨ k = 8 ∨ k = 9) with hk0 | hk0 | hk0 | hk0 | hk0 | hk0 | hk0 | hk0
        · obtain rfl : K = 2 := by have := HK.out; omega
          subst hk0
          have hki : (2 : Int) < (ds.length : Int) := by omega
          clear HK hk hk2
          go_wp2
          exact ⟨⟨3, t, 3, by omega, rfl, rfl, int_eq (by first | (simp; done) | (simpa using hor)), hSl, HT.out, trivial⟩, by simp [intOf]; omega⟩
        · obtain rfl : K = 3 := by have := HK.out; omega
          subst hk0
          have hki : (3 : Int) < (ds.length : Int) := by omega
          clear HK hk hk2
          go_wp2
          exact ⟨⟨4, t, 4, by omega, rfl, rfl, int_eq (by first | (simp; done) | (simpa using hor)), hSl, HT.out, trivial⟩, by simp [intOf]; omega⟩
        · obtain rfl : K = 4 := by have := HK.out; omega
          subst hk0
          have hki : (4 : Int) < (ds.length : Int) := by omega
          clear HK hk hk2
          go_wp2
          exact ⟨⟨5, t, 5, by omega, rfl, rfl, int_eq (by first | (simp; done) | (simpa using hor)), hSl, HT.out, trivial⟩, by simp [intOf]; omega⟩
        · obtain rfl : K = 5 := by have := HK.out; omega
          subst hk0
          have hki : (5 : Int) < (ds.length : Int) := by omega
          clear HK hk hk2
          go_wp2
          exact ⟨⟨6, t, 6, by omega, rfl, rfl, int_eq (by first | (simp; done) | (simpa using hor)), hSl, HT.out, trivial⟩, by simp [intOf]; omega⟩
        · obtain rfl : K = 6 := by have := HK.out; omega
          subst hk0
          have hki : (6 : Int) < (ds.length : Int) := by omega
          clear HK hk hk2
          go_wp2
          exact ⟨⟨7, t, 7, by omega, rfl, rfl, int_eq (by first | (simp; done) | (simpa using hor)), hSl, HT.out, trivial⟩, by simp [intOf]; omega⟩
        · obtain rfl : K = 7 := by have := HK.out; omega
          subst hk0
          have hki : (7 : Int) < (ds.length : Int) := by omega
          clear HK hk hk2
          go_wp2
          exact ⟨⟨8, t, 8, by omega, rfl, rfl, int_eq (by first | (simp; done) | (simpa using hor)), hSl, HT.out, trivial⟩, by simp [intOf]; omega⟩
        · obtain rfl : K = 8 := by have := HK.out; omega
          subst hk0
          have hki : (8 : Int) < (ds.length : Int) := by omega
          clear HK hk hk2
          go_wp2
          exact ⟨⟨9, t, 9, by omega, rfl, rfl, int_eq (by first | (simp; done) | (simpa using hor)), hSl, HT.out, trivial⟩, by simp [intOf]; omega⟩
        · obtain rfl : K = 9 := by have := HK.out; omega
          subst hk0
          have hki : (9 : Int) < (ds.length : Int) := by omega
          clear HK hk hk2
          go_wp2
          exact ⟨⟨10, t, 10, by omega, rfl, rfl, int_eq (by first | (simp; done) | (simpa using hor)), hSl, HT.out, trivial⟩, by simp [intOf]; omega⟩
      · have hor := or_join k S x t (by omega) hSk hxl ht
        clear hc1 hx ht hx0
        rcases (by omega : k = 0 ∨ k = 1) with hk0 | hk0
        · obtain rfl : K = 0 := by have := HK.out; omega
          subst hk0
          simp only [Nat.pow_zero, Nat.mul_one] at hor
          rw [Nat.add_zero] at g1
          obtain ⟨hor1, hor2⟩ := hor
          have hki : (0 : Int) < (ds.length : Int) := by omega
          clear HK hk hk2
          go_wp2
          exact ⟨⟨1, t, 1, by omega, rfl, rfl, rfl, hor2, HT.out, trivial⟩, by simp [intOf]; omega⟩
        · obtain rfl : K = 1 := by have := HK.out; omega
          subst hk0
          simp only [Nat.pow_one] at hor
          obtain ⟨hor1, hor2⟩ := hor
          have hki : (1 : Int) < (ds.length : Int) := by omega
          clear HK hk hk2
          go_wp2
          exact ⟨⟨2, t, 2, by omega, rfl, rfl, int_eq (by simpa using hor1), hor2, HT.out, trivial⟩, by simp [intOf]; omega⟩
    · obtain rfl : k = ds.length := by omega
      obtain rfl : K = (ds.length : Int) := HK.out
      have hS : S = m := by rw [HS.out, List.take_length, HM.out]
      subst hS
      have hke : ¬ ((ds.length : Int) < (ds.length : Int)) := by omega
      obtain ⟨Z, hZ⟩ : ∃ Z : Int, Z = (S : Int) := ⟨_, rfl⟩
      rw [← hZ]
      have hZ0 : 0 ≤ Z := by omega
      have hZ1 : Z < 18446744073709551616 := by omega
      cases b
      · by_cases hle2 : Z ≤ 9223372036854775807
        · have HO := hid (sm_in (z := iv false S) (by first | (simp [iv]; done) | (simp [iv]; omega)) (by first | (simp [iv]; done) | (simp [iv]; omega)))
          have HE := hid (show iv false S = Z by simp [iv]; omega)
          clear hZ
          go_wp2
          go_ret2
          exact ⟨by rw [HO.out.1, HO.out.2, HE.out]; rfl, HA.out⟩
        · have HO := hid (sm_out (z := iv false S) (by first | (simp [iv]; done) | (simp [iv]; omega)))
          clear hZ
          go_wp2
          go_ret2
          exact ⟨by rw [HO.out.1, HO.out.2]; rfl, HA.out⟩
      · by_cases hle2 : Z ≤ 9223372036854775807
        · have HO := hid (sm_in (z := iv true S) (by first | (simp [iv]; done) | (simp [iv]; omega)) (by first | (simp [iv]; done) | (simp [iv]; omega)))
          have HE := hid (show iv true S = -Z by simp [iv]; omega)
          clear hZ
          go_wp2
          go_ret2
          exact ⟨by rw [HO.out.1, HO.out.2, HE.out]; rfl, HA.out⟩
        · by_cases hmin : Z = 9223372036854775808
          · have HO := hid (sm_in (z := iv true S) (by first | (simp [iv]; done) | (simp [iv]; omega)) (by first | (simp [iv]; done) | (simp [iv]; omega)))
            have HE := hid (show iv true S = -9223372036854775808 by simp [iv]; omega)
            subst hmin
            clear hZ
            go_wp2
            go_ret2
            exact ⟨by rw [HO.out.1, HO.out.2, HE.out]; rfl, HA.out⟩
          · have HO := hid (sm_out (z := iv true S) (by first | (simp [iv]; done) | (simp [iv]; omega)))
            have hne : (Z == 9223372036854775808) = false := by simpa using hmin
            clear hZ hmin
            go_wp2
            go_ret2
            exact ⟨by rw [HO.out.1, HO.out.2]; rfl, HA.out⟩

set_option maxRecDepth 100000 in
set_option maxHeartbeats 6400000 in
theorem rsmall2_any (b : Bool) (ao : Option Addr) (c : Nat) (ds : List Nat) (w : World) (h : Rd w ao c ds) (hlen : ds.length ≤ 17592186044416) :
    Calls Tryz.prog 11 #[.agg #[.bool b, .slice ao ds.length c]] w (RetSm (iv b (val ds)) w) := by
  have hba := below_alloc w (.cells #[.bool b, .slice ao ds.length c] 24)
  have hx1 := heap_alloc_at w (.cells #[.bool b, .slice ao ds.length c] 24)
  have ht := rtrim2_any b ao c ds _ (h.below hba) hlen
  obtain ⟨z, hz⟩ : ∃ z, z = iv b (val ds) := ⟨_, rfl⟩
  rw [← hz] at ht ⊢
  have HP := hid (fun w' => pair_cells (w' := w') hx1)
  have HX := hid hx1
  have HA := hid hba
  have hs1 : (w.alloc (.cells #[.bool b, .slice ao ds.length c] 24)).heap.size = w.heap.size + 1 := by simp
  have HS1 := hid hs1
  obtain ⟨s0, s1, s2, s3⟩ := HP.out _ (Below.refl _ _)
  have hzl : (nd z.natAbs).length ≤ 17592186044416 := by rw [hz, iv_abs]; exact Nat.le_trans (nd_length_le_of h.dg) hlen
  clear h hba hx1 hz hs1 hlen
  go_enter Tryz.func11, Tryz.ntmps11
  go_wp2_with fail
  refine ht.mono ?_
  rintro e w2 ⟨a2, c2, rfl, o2, b2⟩
  clear s0 s1 s2 s3 ht
  obtain ⟨k0, k1, k2, k3⟩ := HP.out w2 b2
  have HB := hid (HA.out.trans (b2.mono HA.out.size))
  have HB2 := hid b2
  have HO := hid o2
  clear o2 b2
  by_cases hl2 : (nd z.natAbs).length ≤ 2
  case neg =>
    have hg : ((nd z.natAbs).length : Int) > 2 := by omega
    have HR := hid (sm_out (z := z) (by
      have h1 : ¬ (z.natAbs < 4294967296 ^ 2) := fun h => hl2 (nd_length_le h)
      rw [show (4294967296 : Nat) ^ 2 = 18446744073709551616 from rfl] at h1
      omega))
    go_wp2
    go_ret2
    exact ⟨by rw [HR.out.1, HR.out.2]; rfl, (HB.out.setCell (p := ⟨w.heap.size, 0, none⟩) (Nat.le_refl _) _).setCell (p := ⟨w.heap.size, 1, none⟩) (Nat.le_refl _) _⟩
  have hg : ¬ (((nd z.natAbs).length : Int) > 2) := by omega
  obtain ⟨ds2, hds⟩ : ∃ ds2, ds2 = nd z.natAbs := ⟨_, rfl⟩
  have HV := hid (show val ds2 = z.natAbs by rw [hds, val_nd])
  have hO := HO.out
  rw [← hds] at hO hg hl2 hzl ⊢
  have HW := hid hO.rd.dg
  obtain ⟨p, hp⟩ : ∃ p, p = decide (z < 0) := ⟨_, rfl⟩
  rw [← hp]
  have HPZ := hid hp
  have hb2 : Below (w.alloc (.cells #[.bool b, .slice ao ds.length c] 24)).heap.size (w.alloc (.cells #[.bool b, .slice ao ds.length c] 24)) w2 := HB2.out
  have q0 := (hb2.block w.heap.size (by rw [HS1.out]; omega)).trans HX.out
  have q1 := Go.Joins.block_setCell (i := 1) (Go.Joins.block_setCell (i := 0) q0 (.bool p)) (.slice a2 ds2.length c2)
  have hO3 : Own (w.heap.size + 1) ((w2.setCell ⟨w.heap.size, 0, none⟩ (.bool p)).setCell ⟨w.heap.size, 1, none⟩ (.slice a2 ds2.length c2)) a2 c2 ds2 := ((hO.mono (show w.heap.size + 1 ≤ _ from Nat.le_of_eq HS1.out.symm)).setOld (by omega) _).setOld (by omega) _
  have HB3 := hid ((HB.out.setCell (p := ⟨w.heap.size, 0, none⟩) (Nat.le_refl _) (.bool p)).setCell (p := ⟨w.heap.size, 1, none⟩) (Nat.le_refl _) (.slice a2 ds2.length c2))
  clear hp hds hO hb2 q0 HO HB HB2
  go_upto_region 4 with fail
  obtain ⟨w3, hw3⟩ : ∃ x, x = ((w2.setCell ⟨w.heap.size, 0, none⟩ (.bool p)).setCell ⟨w.heap.size, 1, none⟩ (.slice a2 ds2.length c2)) := ⟨_, rfl⟩
  rw [← hw3] at q1 hO3 HB3 ⊢
  clear hw3 k0 k1 k2 k3
  obtain ⟨s0, s1, _, _⟩ := pair_cells q1 (Below.refl _ _)
  clear q1
  have hrd := hO3.rd
  clear hO3
  go_wp2_with fail
  go_loopw [4, 5] (fun sv iv wr => ∃ (k X : Nat) (K : Int), k ≤ ds2.length ∧ iv = .int .i64 K ∧ Hid (K = (k : Int) - 1) ∧ sv = .int .u64 (X : Int) ∧ X < 18446744073709551616 ∧ Hid (X = val (ds2.drop k)) ∧ wr = w3) (fun _ iv _ => (intOf iv + 1).toNat)
  case atStart => exact ⟨ds2.length, 0, (ds2.length : Int) - 1, Nat.le_refl _, rfl, rfl, rfl, by omega, by simp [Hid, val], rfl⟩
  case round =>
    obtain ⟨k, X, K, hk, rfl, HK, rfl, hXl, HXv, rfl⟩ := hrel
    by_cases hk0 : k = 0
    · subst hk0
      obtain rfl : K = -1 := by have := HK.out; omega
      have hXZ : X = z.natAbs := by rw [HXv.out, List.drop_zero, HV.out]
      obtain ⟨Z, hZ⟩ : ∃ Z : Int, Z = (X : Int) := ⟨_, rfl⟩
      rw [← hZ]
      have hZ0 : 0 ≤ Z := by omega
      have hZ1 : Z < 18446744073709551616 := by omega
      have hpz := HPZ.out
      cases p
      · have hzn : 0 ≤ z := by have := of_decide_eq_false hpz.symm; omega
        by_cases hle2 : Z < 9223372036854775808
        · have HR := hid (sm_in (z := z) (by omega) (by omega))
          obtain rfl : z = Z := by omega
          clear hZ hXZ hpz HPZ
          go_wp2
          go_ret2
          exact ⟨by rw [HR.out.1, HR.out.2]; rfl, HB3.out⟩
        · have HR := hid (sm_out (z := z) (by omega))
          clear hZ hXZ hpz HPZ
          go_wp2
          go_ret2
          exact ⟨by rw [HR.out.1, HR.out.2]; rfl, HB3.out⟩
      · have hzn : z < 0 := of_decide_eq_true hpz.symm
        by_cases hle2 : Z ≤ 9223372036854775808
        · have HR := hid (sm_in (z := z) (by omega) (by omega))
          obtain rfl : z = -Z := by omega
          have hZ2 : 1 ≤ Z := by omega
          clear hZ hXZ hpz HPZ
          go_wp2
          go_ret2
          exact ⟨by rw [HR.out.1, HR.out.2]; show Ending.returned (.tuple #[.int .i64 (-(Z - 1) - 1), .bool true]) = _; rw [show -(Z - 1) - 1 = -Z by omega], HB3.out⟩
        · have HR := hid (sm_out (z := z) (by omega))
          clear hZ hXZ hpz HPZ
          go_wp2
          go_ret2
          exact ⟨by rw [HR.out.1, HR.out.2]; rfl, HB3.out⟩
    · have hkl : k - 1 < ds2.length := by omega
      rcases hrd.lies with h9 | ⟨b1, o1, rfl, hc1⟩
      · simp [h9] at hkl
      have g1 := hc1 (k - 1) hkl
      obtain ⟨x, hx⟩ : ∃ x, x = ds2.getD (k - 1) 0 := ⟨_, rfl⟩
      rw [← hx] at g1
      have hxl : x < 4294967296 := by rw [hx]; exact wf_getD HW.out (k - 1)
      have hX32 : X < 4294967296 := by
        have h1 := val_lt (wf_drop HW.out k)
        rw [← HXv.out] at h1
        have h2 : (4294967296 : Nat) ^ (ds2.drop k).length ≤ 4294967296 ^ 1 := Nat.pow_le_pow_right (by omega) (by rw [List.length_drop]; omega)
        omega
      obtain ⟨t, ht⟩ : ∃ t, t = X * 4294967296 + x := ⟨_, rfl⟩
      have HT := hid (show t = val (ds2.drop (k - 1)) by rw [val_drop hkl, ← hx, show k - 1 + 1 = k by omega, ← HXv.out, ht]; omega)
      have hor : bits BinOp.or IntKind.u64 ((X : Int) * 4294967296) (x : Int) = (t : Int) := by
        have h := or_high 32 (X * 4294967296) x (by omega) (by simp) (by omega) (by omega)
        rw [show ((X * 4294967296 : Nat) : Int) = (X : Int) * 4294967296 by simp] at h
        rw [h, ht]
      have htl : t < 18446744073709551616 := by omega
      have hXi : (X : Int) < 4294967296 := by omega
      clear hc1 hx ht
      rcases (by omega : k = 1 ∨ k = 2) with h12 | h12
      · subst h12
        obtain rfl : K = 0 := by have := HK.out; omega
        rw [show (1 - 1 : Nat) = 0 from rfl, Nat.add_zero] at g1
        have hki : (0 : Int) < (ds2.length : Int) := by omega
        clear HK hk hk0 hkl
        go_wp2
        exact ⟨⟨0, t, -1, by omega, rfl, rfl, int_eq (by first | (simp; done) | (simpa using hor)), htl, HT.out, trivial⟩, by simp [intOf]⟩
      · subst h12
        obtain rfl : K = 1 := by have := HK.out; omega
        rw [show (2 - 1 : Nat) = 1 from rfl] at g1
        have hki : (1 : Int) < (ds2.length : Int) := by omega
        clear HK hk hk0 hkl
        go_wp2
        exact ⟨⟨1, t, 0, by omega, rfl, rfl, int_eq (by first | (simp; done) | (simpa using hor)), htl, HT.out, trivial⟩, by simp [intOf]⟩

end Go.Proofs.YtbcaigpdckencaaGreatDoor
