/-  -/
import Derived.Test.YtiljjhhkklnlgaaGreatDoorQbh

set_option linter.unusedVariables false
set_option linter.unusedSimpArgs false
set_option linter.unusedSectionVars false
set_option maxRecDepth 100000
set_option maxHeartbeats 3200000

namespace Go.Proofs.YtiljjhhkklnlgaaGreatDoor
open Go.RowKit Num

theorem Mod_all (n m : Int) (w : World) (hm : 1 ≤ m) (hm2 : m ≤ 1000000) (h1 : -9223372036854775808 ≤ n) (h2 : n ≤ 9223372036854775807) :
  Calls Tryz.prog 36 #[.int .i64 n, .int .i64 m] w (Ret (.int .i64 (n % m)) w) := by
 have hm0 : ¬ m < 1 := by omega
 have hmz : ¬ m = 0 := by omega
 obtain ⟨t, ht⟩ : ∃ t, t = Int.tmod n m := ⟨_, rfl⟩
 have hb1 : t < m := by rw [ht]; exact Int.tmod_lt_of_pos n (by omega)
 have hb2 : -m < t := by
  rw [ht]
  have h := Int.tmod_lt_of_pos (-n) (show 0 < m by omega)
  rw [Int.neg_tmod] at h
  omega
 have hem : n % m = if t < 0 then t + m else t := by
  have h3 := Int.emod_nonneg n hmz
  have h4 := Int.emod_lt_of_pos n (show 0 < m by omega)
  have h5 : m ∣ t - n % m := by
   rw [ht]
   have e1 : n.tmod m = n - m * n.tdiv m := by have := Int.mul_tdiv_add_tmod n m; omega
   have e2 : n % m = n - m * (n / m) := by have := Int.mul_ediv_add_emod n m; omega
   exact ⟨n / m - n.tdiv m, by rw [e1, e2, Int.mul_sub]; omega⟩
  obtain ⟨k, hk⟩ := h5
  have k1 : -2 < k := Int.lt_of_mul_lt_mul_left (a := m) (by omega) (by omega)
  have k2 : k < 1 := Int.lt_of_mul_lt_mul_left (a := m) (by omega) (by omega)
  rcases (by omega : k = -1 ∨ k = 0) with rfl | rfl
  ·split <;> omega
  ·split <;> omega
 have hti : Int.tmod n m = t := ht.symm
 have HE := hid hem
 clear hem ht
 by_cases h0 : t < 0
 ·go_enter Tryz.func36, Tryz.ntmps36
  go_wp2
  go_ret
  exact ⟨by rw [HE.out, if_pos h0]; rfl, rfl⟩
 ·go_enter Tryz.func36, Tryz.ntmps36
  go_wp2
  go_ret
  exact ⟨by rw [HE.out, if_neg (by omega)]; rfl, rfl⟩
end Go.Proofs.YtiljjhhkklnlgaaGreatDoor

namespace Go.Proofs.YtiljjhhkklnlgaaGreatDoor
open Go.RowKit Num

theorem fr_floor {w : World} {b : Bool} {ao : Option Addr} {c : Nat} {xs : List Nat} {ad : Option Addr} {d : Nat} {ds : List Nat} {q : Rat} {n : Nat} (h : Fr w b ao c xs ad d ds q n) : iv b (val xs) / iv false (val ds) = q.floor := by
 rw [← h.vq]
 rw [floor_mk h.nz]
 rfl

theorem rfloor3_any {w : World} {b : Bool} {ao : Option Addr} {c : Nat} {xs : List Nat} {ad : Option Addr} {d : Nat} {ds : List Nat} {q : Rat} {n : Nat} (h : Rq w b ao c xs ad d ds q n) (hn : n ≤ 4398046511103) :
  Calls Tryz.prog 249 #[.agg #[.bool b, .slice ao xs.length c, .slice ad ds.length d]] w (RetInt w.heap.size q.floor w) := by
 have hle1 := h.rn.le
 have hcm1 := h.rn.cm
 have hle2 := h.rd.le
 have hcm2 := h.rd.cm
 have hB := A2_below w (.cells #[.bool b, .slice ao xs.length c, .slice ad ds.length d] 26) (.cells #[.bool false, .slice none 0 0] 24)
 have HH := hid (A2_heap w (.cells #[.bool b, .slice ao xs.length c, .slice ad ds.length d] 26) (.cells #[.bool false, .slice none 0 0] 24))
 have HSZ := hid (A2_size w (.cells #[.bool b, .slice ao xs.length c, .slice ad ds.length d] 26) (.cells #[.bool false, .slice none 0 0] 24))
 have HB := hid hB
 have hp := parts_r (h.below hB) hn
 unfold A2 at HH HSZ HB hp
 clear h hB
 have n01 : ¬ (w.heap.size = w.heap.size + 1 + 1) := by omega
 have n02 : ¬ (w.heap.size + 1 + 1 = w.heap.size) := by omega
 have n03 : ¬ (w.heap.size + 1 = w.heap.size + 1 + 1) := by omega
 have n04 : ¬ (w.heap.size + 1 + 1 = w.heap.size + 1) := by omega
 have n05 : ¬ (w.heap.size = w.heap.size + 1) := by omega
 have n06 : ¬ (w.heap.size + 1 = w.heap.size) := by omega
 go_enter Tryz.func249, Tryz.ntmps249
 go_wp2_with fail
 obtain ⟨w0, hw0⟩ : ∃ x, x = ((w.alloc (.cells #[.bool b, .slice ao xs.length c, .slice ad ds.length d] 26)).alloc (.cells #[.bool false, .slice none 0 0] 24)) := ⟨_, rfl⟩
 rw [← hw0] at HH HSZ HB hp ⊢
 clear hw0
 refine hp.mono ?_
 rintro e w1 ⟨bp, ap, cp, xp, dp, ep, Dp, rfl, Fp, f1⟩
 have hl1a := Fp.ln
 have hl1b := Fp.ld
 have hv1c := Fp.rn.le
 have hv1d := Fp.rd.le
 have hw1e := Fp.rn.cm
 have hw1f := Fp.rd.cm
 have hbp := A2_below w1 (.cells #[.bool bp, .slice ap xp.length cp] 24) (.cells #[.bool false, .slice dp (nd Dp).length ep] 24)
 have HP := hid (A2_heap w1 (.cells #[.bool bp, .slice ap xp.length cp] 24) (.cells #[.bool false, .slice dp (nd Dp).length ep] 24))
 have HPZ := hid (A2_size w1 (.cells #[.bool bp, .slice ap xp.length cp] 24) (.cells #[.bool false, .slice dp (nd Dp).length ep] 24))
 have HF := hid (Fp.below hbp)
 have H1 := hid (And.intro (f1.trans (hbp.mono f1.size)) f1.size)
 unfold A2 at HP HPZ HF H1
 clear hp f1 hbp Fp
 go_wp2_with fail
 obtain ⟨wz, hwz⟩ : ∃ x, x = ((w1.alloc (.cells #[.bool bp, .slice ap xp.length cp] 24)).alloc (.cells #[.bool false, .slice dp (nd Dp).length ep] 24)) := ⟨_, rfl⟩
 rw [← hwz] at HP HPZ HF H1 ⊢
 clear hwz
 have hdv := rdiv2_any bp false ap dp cp ep xp (nd Dp) wz HF.out.rn HF.out.rd (by omega) (by omega) HF.out.nz
 rw [fr_floor HF.out] at hdv
 obtain ⟨Z1, hZ1⟩ : ∃ z, z = q.floor := ⟨_, rfl⟩
 obtain ⟨Z2, hZ2⟩ : ∃ z, z = iv bp (val xp) % iv false (val (nd Dp)) := ⟨_, rfl⟩
 rw [← hZ1, ← hZ2] at hdv
 have HQ := hid hZ1
 clear hZ1 hZ2
 refine hdv.mono ?_
 rintro e w2 ⟨a2, c2, a3, c3, rfl, o2, o3, f2⟩
 have hy1 := o2.rd.le
 have hy2 := o2.rd.cm
 have hy3 := o3.rd.le
 have hy4 := o3.rd.cm
 have p2 := H1.out.1.trans (f2.mono H1.out.1.size)
 have hb2 := A2_below w2 (.cells #[.bool (decide (Z1 < 0)), .slice a2 (nd Z1.natAbs).length c2] 24) (.cells #[.bool (decide (Z2 < 0)), .slice a3 (nd Z2.natAbs).length c3] 24)
 have HW := hid (A2_heap w2 (.cells #[.bool (decide (Z1 < 0)), .slice a2 (nd Z1.natAbs).length c2] 24) (.cells #[.bool (decide (Z2 < 0)), .slice a3 (nd Z2.natAbs).length c3] 24))
 have H2 := hid (And.intro (o2.below hb2) (p2.trans (hb2.mono p2.size)))
 unfold A2 at HW H2
 clear hdv o2 o3 f2 p2 hb2
 go_upto_region 3 with fail
 obtain ⟨w3, hw3⟩ : ∃ x, x = ((w2.alloc (.cells #[.bool (decide (Z1 < 0)), .slice a2 (nd Z1.natAbs).length c2] 24)).alloc (.cells #[.bool (decide (Z2 < 0)), .slice a3 (nd Z2.natAbs).length c3] 24)) := ⟨_, rfl⟩
 rw [← hw3] at HW H2 ⊢
 clear hw3
 obtain ⟨r0, r1, _⟩ := pair_cells HW.out.1 (Below.refl _ _)
 obtain ⟨k0, k1, k2, k3⟩ := pair_cells HH.out.2 H2.out.2
 go_wp2
 have hsz := HSZ.out
 have hs1 := H1.out
 have hs2 := H1.out.1.size
 refine bodyPost_ret (v := .agg #[.bool (decide (Z1 < 0)), .slice a2 (nd Z1.natAbs).length c2]) (by simp [results, Tryz.results249, go_sem, k0, k1]) rfl ?_
 rw [← HQ.out]
 exact RetInt.fin H2.out.1 (by omega) (HB.out.trans (H2.out.2.mono HB.out.size)) (by omega) _ _

theorem bad_any (k : Int) (w : World) (r : Bool) (hr : r = true ↔ (k < 0 ∨ 256 < k)) : Calls Tryz.prog 210 #[.int .i64 k] w (Ret (.bool r) w) := by
 by_cases h1 : k < 0
 ·obtain rfl : r = true := hr.2 (.inl h1)
  clear hr
  go_enter Tryz.func210, Tryz.ntmps210
  go_wp2
  go_ret
  exact ⟨rfl, rfl⟩
 ·by_cases h2 : 256 < k
  ·obtain rfl : r = true := hr.2 (.inr h2)
   clear hr
   go_enter Tryz.func210, Tryz.ntmps210
   go_wp2
   go_ret
   exact ⟨rfl, rfl⟩
  ·obtain rfl : r = false := by
    cases r with
    | false => rfl
    | true => exact absurd (hr.1 rfl) (by omega)
   clear hr
   go_enter Tryz.func210, Tryz.ntmps210
   go_wp2
   go_ret
   exact ⟨rfl, rfl⟩
end Go.Proofs.YtiljjhhkklnlgaaGreatDoor

namespace Go.Proofs.YtiljjhhkklnlgaaGreatDoor
open Go.RowKit Num

theorem unit_low (k : Nat) : (mkRat ((2 ^ k : Nat) : Int) 1).num = ((2 ^ k : Nat) : Int) ∧ (mkRat ((2 ^ k : Nat) : Int) 1).den = 1 := by
 rw [Rat.mkRat_one]
 exact ⟨rfl, rfl⟩

theorem runit_any (k : Nat) (hk : k ≤ 257) (w : World) :
  Calls Tryz.prog 248 #[.int .i64 (k : Int)] w (RetRat (mkRat ((2 ^ k : Nat) : Int) 1) w) := by
 obtain ⟨u1, u2⟩ := unit_low k
 obtain ⟨U, hU⟩ : ∃ U, U = mkRat ((2 ^ k : Nat) : Int) 1 := ⟨_, rfl⟩
 rw [← hU] at u1 u2 ⊢
 have hB := below_alloc w (.cells #[.bool false, .slice none 0 0, .slice none 0 0] 26)
 have HH := hid (heap_alloc_at w (.cells #[.bool false, .slice none 0 0, .slice none 0 0] 26))
 have HB := hid hB
 have hz0 : (w.alloc (.cells #[.bool false, .slice none 0 0, .slice none 0 0] 26)).heap.size = w.heap.size + 1 := by simp
 have HSH := hid (fun w' ao c (g : Rd w' ao c [1]) => (show Calls Tryz.prog 269 #[.slice ao 1 c, .int .i64 (k : Int)] w' (RetOwn w'.heap.size (nd U.num.natAbs) w') from by
  have h3 := rshift_any ao c (k : Int) [1] w' g (by simp) (by omega) (by omega)
  rw [show shiftN (val [1]) (k : Int) = U.num.natAbs by
   rw [u1, Int.natAbs_natCast]
   unfold shiftN
   rw [if_neg (by omega), if_pos (by omega), Int.toNat_natCast]
   simp [val]] at h3
  rw [show ([1] : List Nat).length = 1 from rfl] at h3
  exact h3))
 have hd1 : (nd U.den).length = 1 := by rw [u2, nd_one]; rfl
 have hU0 : decide (U.num < 0) = false := by rw [u1]; exact decide_eq_false (Int.not_lt.2 (Int.natCast_nonneg _))
 have hdd : nd U.den = [1] := by rw [u2, nd_one]
 have HD := hid hdd
 clear hB hU u1 u2 hdd
 go_enter Tryz.func248, Tryz.ntmps248
 go_wp2_with fail
 obtain ⟨w0, hw0⟩ : ∃ x, x = w.alloc (.cells #[.bool false, .slice none 0 0, .slice none 0 0] 26) := ⟨_, rfl⟩
 rw [← hw0] at HH HB hz0 ⊢
 clear hw0
 have hone : Own (w.heap.size + 1) (w0.alloc (.cells #[.int .u32 1] 97)) (some ⟨w.heap.size + 1, 0, none⟩) 1 [1] := by
  rw [← hz0]
  exact Own.one w0 w0.heap.size 1 (Nat.le_refl _) (by omega)
 have hbo := below_alloc w0 (.cells #[.int .u32 1] 97)
 have hzo : (w0.alloc (.cells #[.int .u32 1] 97)).heap.size = w0.heap.size + 1 := by simp
 refine (HSH.out (w0.alloc (.cells #[.int .u32 1] 97)) _ _ hone.rd).mono ?_
 rintro e w1 ⟨a1, c1, rfl, o1, f1⟩
 have hx1 := o1.rd.le
 have hx2 := o1.rd.cm
 have p1 := hbo.trans (f1.mono hbo.size)
 have hs1 := f1.size
 have K1 := hid ((p1.block w.heap.size (by omega)).trans HH.out)
 obtain ⟨k0, k1, k2, k3, k4, k5⟩ := cells3 K1.out (Below.refl _ _)
 have nl0 : w.heap.size < w1.heap.size := by omega
 have H1 := hid (And.intro o1 p1)
 have hsz1 := hid (show w0.heap.size + 1 ≤ w1.heap.size by omega)
 clear o1 f1 p1 hone hbo hs1 hzo
 go_wp2
 obtain ⟨W, hW⟩ : ∃ W, W = (((w1.setCell ⟨w.heap.size, 0, none⟩ (.bool false)).setCell ⟨w.heap.size, 1, none⟩ (.slice a1 (nd U.num.natAbs).length c1)).setCell ⟨w.heap.size, 2, none⟩ (.slice (some ⟨w1.heap.size, 0, none⟩) 1 1)) := ⟨_, rfl⟩
 rw [← hW]
 have hs' : W.heap.size = w1.heap.size := by rw [hW]; simp only [setCell_size]
 have b1 : (W.alloc (.cells #[.int .u32 1] 97)).heap[w.heap.size]? = some (.cells #[.bool false, .slice a1 (nd U.num.natAbs).length c1, .slice (some ⟨w1.heap.size, 0, none⟩) 1 1] 26 (0, 0)) := by
  refine (Below.heap_alloc _ _ _ (by omega)).trans ?_
  rw [hW]
  exact box3 K1.out
 have b2 : Own (w.heap.size + 1) W a1 c1 (nd U.num.natAbs) := by
  rw [hW]
  have h := hsz1.out
  exact (((H1.out.1.mono (by first | omega | (simp; done) | (simp; omega))).setOld (by omega) _).setOld (by omega) _).setOld (by omega) _
 have b3 : Below w.heap.size w W := by
  rw [hW]
  exact below_set 2 _ (Nat.le_refl _) (below_set 1 _ (Nat.le_refl _) (below_set 0 _ (Nat.le_refl _) (HB.out.trans (H1.out.2.mono HB.out.size))))
 have b4 : Own (w.heap.size + 1) (W.alloc (.cells #[.int .u32 1] 97)) (some ⟨w1.heap.size, 0, none⟩) 1 (nd U.den) := by
  rw [HD.out, ← hs']
  exact Own.one W _ 1 (by omega) (by omega)
 clear hW
 obtain ⟨r0, r1, r2, _⟩ := cells3 b1 (Below.refl _ _)
 refine bodyPost_ret (v := .agg #[.bool (decide (U.num < 0)), .slice a1 (nd U.num.natAbs).length c1, .slice (some ⟨w1.heap.size, 0, none⟩) (nd U.den).length 1]) (by simp [results, Tryz.results248, go_sem, r0, r1, r2, hd1, hU0]) rfl ?_
 exact ⟨a1, c1, _, _, rfl, own_al (b2.mono (by omega)) _, b4.mono (by omega), below_al b3 _⟩
end Go.Proofs.YtiljjhhkklnlgaaGreatDoor

namespace Go.Proofs.YtiljjhhkklnlgaaGreatDoor
open Go.RowKit Num

theorem unit_sz (k N : Nat) (hk : k < 32 * N) : Sz (mkRat ((2 ^ k : Nat) : Int) 1) N := by
 refine Sz.of (by omega) ?_ (Nat.one_lt_pow (by omega) (by omega))
 rw [Int.natAbs_natCast, show (4294967296 : Nat) = 2 ^ 32 from rfl, ← Nat.pow_mul]
 exact Nat.pow_lt_pow_right (by omega) (by omega)
theorem row1_rd {w : World} {g : Nat} (h : w.heap[g]? = some (.cells #[.int .u32 1] 97 (0, 0))) : Rd w (some ⟨g, 0, none⟩) 1 [1] := by
 have h0 : g < w.heap.size := (Array.getElem?_eq_some_iff.1 h).1
 have h1 : Own 0 w (some ⟨g, 0, none⟩) 1 [1] := Own.mk_some (cur := #[.int .u32 1]) (Nat.zero_le _) h (Nat.le_refl _) (by omega) rfl rfl (wf_cons.2 ⟨by omega, wf_nil⟩)
 exact h1.rd
theorem floor_len {P : Rat} {n : Nat} (h : Sz P n) : (nd P.floor.natAbs).length ≤ n + 1 := by
 have e1 := h.lt.1
 refine nd_length_le (k := n + 1) ?_
 have e2 : P.floor.natAbs ≤ P.num.natAbs + 1 := by
  rw [Rat.floor_def]
  have := Int.natAbs_ediv_le_natAbs P.num P.den
  omega
 have e3 := pow_le_succ n
 have e4 : 0 < 4294967296 ^ n := Nat.pow_pos (by omega)
 omega

set_option maxHeartbeats 6400000 in
theorem rdown_any {w : World} {b : Bool} {ao : Option Addr} {c : Nat} {xs : List Nat} {ad : Option Addr} {d : Nat} {ds : List Nat} {q : Rat} {n : Nat} (h : Rq w b ao c xs ad d ds q n) (hn : n ≤ 99999999999) (k : Nat) (hk : k ≤ 256) :
  Calls Tryz.prog 211 #[.agg #[.bool b, .slice ao xs.length c, .slice ad ds.length d], .int .i64 (k : Int)] w (RetRat (dnQ q k) w) := by
 have hle1 := h.rn.le
 have hcm1 := h.rn.cm
 have hle2 := h.rd.le
 have hcm2 := h.rd.cm
 have hB := A2_below w (.cells #[.bool b, .slice ao xs.length c, .slice ad ds.length d] 26) (.cells #[.bool false, .slice none 0 0, .slice none 0 0] 26)
 have HH := hid (A2_heap w (.cells #[.bool b, .slice ao xs.length c, .slice ad ds.length d] 26) (.cells #[.bool false, .slice none 0 0, .slice none 0 0] 26))
 have HSZ := hid (A2_size w (.cells #[.bool b, .slice ao xs.length c, .slice ad ds.length d] 26) (.cells #[.bool false, .slice none 0 0, .slice none 0 0] 26))
 have HB := hid hB
 have HR := hid (h.below hB)
 have sU := unit_sz k 9 (by omega)
 have hun := runit_any k (by omega)
 have hDD : mkRat (q * mkRat ((2 ^ k : Nat) : Int) 1).floor 1 / mkRat ((2 ^ k : Nat) : Int) 1 = dnQ q k := by
  unfold dnQ
  rw [Rat.mkRat_one, Rat.mkRat_one, Rat.mkRat_eq_div]
  rfl
 obtain ⟨U, hU⟩ : ∃ U, U = mkRat ((2 ^ k : Nat) : Int) 1 := ⟨_, rfl⟩
 rw [← hU] at sU hDD
 simp only [← hU] at hun
 obtain ⟨D, hD⟩ : ∃ D, D = dnQ q k := ⟨_, rfl⟩
 rw [← hD] at hDD ⊢
 obtain ⟨P, hP⟩ : ∃ P, P = q * U := ⟨_, rfl⟩
 have sP : Sz P (n + 1 + 9) := by rw [hP]; exact h.sz.mul sU
 rw [← hP] at hDD
 have lZ := floor_len sP
 obtain ⟨Z, hZ⟩ : ∃ Z, Z = P.floor := ⟨_, rfl⟩
 rw [← hZ] at hDD lZ
 have HPZ := hid (And.intro hP (And.intro hZ hDD))
 unfold A2 at HH HSZ HB HR
 clear h hB hD hU hP hZ hDD
 have n01 : ¬ (w.heap.size = w.heap.size + 1 + 1) := by omega
 have n02 : ¬ (w.heap.size + 1 + 1 = w.heap.size) := by omega
 have n03 : ¬ (w.heap.size + 1 = w.heap.size + 1 + 1) := by omega
 have n04 : ¬ (w.heap.size + 1 + 1 = w.heap.size + 1) := by omega
 have n05 : ¬ (w.heap.size = w.heap.size + 1) := by omega
 have n06 : ¬ (w.heap.size + 1 = w.heap.size) := by omega
 go_enter Tryz.func211, Tryz.ntmps211
 go_wp2_with fail
 obtain ⟨w0, hw0⟩ : ∃ x, x = ((w.alloc (.cells #[.bool b, .slice ao xs.length c, .slice ad ds.length d] 26)).alloc (.cells #[.bool false, .slice none 0 0, .slice none 0 0] 26)) := ⟨_, rfl⟩
 rw [← hw0] at HH HSZ HB HR ⊢
 clear hw0
 refine (hun w0).mono ?_
 rintro e w1 ⟨a1, c1, d1, e1, rfl, o1, u1, f1⟩
 have hx1 := o1.rd.le
 have hx2 := o1.rd.cm
 have hx3 := u1.rd.le
 have hx4 := u1.rd.cm
 have k2 := below_al f1 (.cells #[.bool (decide (U.num < 0)), .slice a1 (nd U.num.natAbs).length c1, .slice d1 (nd U.den).length e1] 26)
 have hz1 := f1.size
 have HO := hid (And.intro (own_al o1 (.cells #[.bool (decide (U.num < 0)), .slice a1 (nd U.num.natAbs).length c1, .slice d1 (nd U.den).length e1] 26)) (own_al u1 (.cells #[.bool (decide (U.num < 0)), .slice a1 (nd U.num.natAbs).length c1, .slice d1 (nd U.den).length e1] 26)))
 have HU := hid (heap_alloc_at w1 (.cells #[.bool (decide (U.num < 0)), .slice a1 (nd U.num.natAbs).length c1, .slice d1 (nd U.den).length e1] 26))
 have ng1 : ¬ (w.heap.size = w1.heap.size) := by have := HSZ.out; omega
 have ng2 : ¬ (w1.heap.size = w.heap.size) := fun h => ng1 h.symm
 have ng3 : ¬ (w.heap.size + 1 = w1.heap.size) := by have := HSZ.out; omega
 have ng4 : ¬ (w1.heap.size = w.heap.size + 1) := fun h => ng3 h.symm
 clear hun o1 u1 f1
 go_upto_region 2 with fail
 obtain ⟨w2, hw2⟩ : ∃ x, x = w1.alloc (.cells #[.bool (decide (U.num < 0)), .slice a1 (nd U.num.natAbs).length c1, .slice d1 (nd U.den).length e1] 26) := ⟨_, rfl⟩
 have hz2 : w2.heap.size = w1.heap.size + 1 := by rw [hw2]; simp
 rw [← hw2] at k2 HO HU ⊢
 clear hw2
 have hA : w2.heap[w.heap.size]? = some (.cells #[.bool b, .slice ao xs.length c, .slice ad ds.length d] 26 (0, 0)) := (k2.block w.heap.size (by have := HSZ.out; omega)).trans HH.out.1
 have HH2 := hid (And.intro hA HU.out)
 have HHO := hid (show w2.heap[w.heap.size + 1]? = some (.cells #[.bool false, .slice none 0 0, .slice none 0 0] 26 (0, 0)) from (k2.block (w.heap.size + 1) (by have := HSZ.out; omega)).trans HH.out.2)
 have HRR := hid (And.intro (HR.out.below k2) (Rq.own HO.out.1 HO.out.2 sU))
 have K2 := hid k2
 have HMU := hid (fun w' (g : Below w2.heap.size w2 w') => (show Calls Tryz.prog 100 #[.agg #[.bool b, .slice ao xs.length c, .slice ad ds.length d], .agg #[.bool (decide (U.num < 0)), .slice a1 (nd U.num.natAbs).length c1, .slice d1 (nd U.den).length e1]] w' (fun e w'' => RetRat P w' e w'' ∧ Below w2.heap.size w2 w'') from
  (rmul3_any (HRR.out.1.below g) (HRR.out.2.below g) (by omega) (by omega)).mono fun e w'' r => ⟨RetRat.of r HPZ.out.1.symm, by obtain ⟨_, _, _, _, _, _, _, r4⟩ := r; exact g.trans (r4.mono g.size)⟩))
 have HFL := hid (fun w' a c d e (o1 : Rd w' a c (nd P.num.natAbs)) (o2 : Rd w' d e (nd P.den)) (g : Below w2.heap.size w2 w') => (show Calls Tryz.prog 249 #[.agg #[.bool (decide (P.num < 0)), .slice a (nd P.num.natAbs).length c, .slice d (nd P.den).length e]] w' (fun e w'' => RetInt w'.heap.size Z w' e w'' ∧ Below w2.heap.size w2 w'') from
  (rfloor3_any (q := P) (n := n + 1 + 9) ⟨o1, o2, by rw [val_nd, val_nd]; unfold rv; rw [iv_self]; exact Rat.mkRat_self P, sP.1, sP.2⟩ (by omega)).mono fun e w'' r => ⟨by rw [HPZ.out.2.1]; exact r, by obtain ⟨_, _, _, _, r4⟩ := r; exact g.trans (r4.mono g.size)⟩))
 have HOV := hid (fun w' gg a c (r : w'.heap[gg]? = some (.cells #[.int .u32 1] 97 (0, 0))) (o1 : Rd w' a c (nd Z.natAbs)) (g : Below w2.heap.size w2 w') => (show Calls Tryz.prog 128 #[.agg #[.bool (decide (Z < 0)), .slice a (nd Z.natAbs).length c, .slice (some ⟨gg, 0, none⟩) 1 1], .agg #[.bool (decide (U.num < 0)), .slice a1 (nd U.num.natAbs).length c1, .slice d1 (nd U.den).length e1]] w' (fun e w'' => RetRat D w' e w'' ∧ Below w2.heap.size w2 w'') from by
  have h3 := over3_any (q1 := mkRat Z 1) (n1 := n + 11) (⟨o1, row1_rd r, by rw [val_nd]; unfold rv; rw [iv_self]; simp [val], by omega, by simp⟩ : Rq w' (decide (Z < 0)) a c (nd Z.natAbs) (some ⟨gg, 0, none⟩) 1 [1] (mkRat Z 1) (n + 11)) (HRR.out.2.below g) (by omega) (by omega)
  rw [HPZ.out.2.2, show ([1] : List Nat).length = 1 from rfl] at h3
  exact h3.mono fun e w'' r => ⟨r, by obtain ⟨_, _, _, _, _, _, _, r4⟩ := r; exact g.trans (r4.mono g.size)⟩))
 have m1 : w.heap.size < w2.heap.size := by have := HSZ.out; omega
 have m2 : w1.heap.size < w2.heap.size := by omega
 have m3 : ¬ (w.heap.size = w2.heap.size) := by omega
 have m4 : ¬ (w2.heap.size = w.heap.size) := by omega
 have m5 : ¬ (w1.heap.size = w2.heap.size) := by omega
 have m6 : ¬ (w2.heap.size = w1.heap.size) := by omega
 have HZ1 := hid (And.intro hz1 hz2)
 clear sP sU lZ hA k2
 have kk : Below w2.heap.size w2 w2.drew := below_drewI _ _
 obtain ⟨s0, s1, s2, _⟩ := cells3 HH2.out.1 (Below.refl _ _)
 obtain ⟨t0, t1, t2, _⟩ := cells3 HH2.out.2 (Below.refl _ _)
 go_region_held3 (fun w' => w'.cell? ⟨w.heap.size, 0, none⟩ = some (.bool b) ∧ w'.cell? ⟨w.heap.size, 1, none⟩ = some (.slice ao xs.length c) ∧ w'.cell? ⟨w.heap.size, 2, none⟩ = some (.slice ad ds.length d) ∧ w'.cell? ⟨w1.heap.size, 0, none⟩ = some (.bool (decide (U.num < 0))) ∧ w'.cell? ⟨w1.heap.size, 1, none⟩ = some (.slice a1 (nd U.num.natAbs).length c1) ∧ w'.cell? ⟨w1.heap.size, 2, none⟩ = some (.slice d1 (nd U.den).length e1)) (go_keep) (first
   | (go_at_call 128; (with_reducible refine (HOV.out _ _ a4 c4 ?_ ?_ ?_).mono ?_); (· (repeat (first | (with_reducible refine heap_at' _ _ _ ?_; (first | omega | (simp only [alloc_size, drew_size, setCell_size]; done) | (simp only [alloc_size, drew_size, setCell_size]; omega))) | (with_reducible apply box2) | (with_reducible apply box3) | (with_reducible refine (heap_set _ _ _ _ _ ?_).trans ?_; (· (first | omega | (simp only [alloc_size, drew_size, setCell_size]; done) | (simp only [alloc_size, drew_size, setCell_size]; omega)))) | (with_reducible refine (Below.heap_alloc _ _ _ ?_).trans ?_; (· (first | omega | (simp only [alloc_size, drew_size, setCell_size]; done) | (simp only [alloc_size, drew_size, setCell_size]; omega)))) | (with_reducible refine (drew_at _ _).trans ?_) | (with_reducible refine (f4.block _ ?_).trans ?_; (· (first | omega | (simp only [alloc_size, drew_size, setCell_size]; done) | (simp only [alloc_size, drew_size, setCell_size]; omega)))) | (with_reducible refine (f3.block _ ?_).trans ?_; (· (first | omega | (simp only [alloc_size, drew_size, setCell_size]; done) | (simp only [alloc_size, drew_size, setCell_size]; omega))))))); (· (first | exact o4.rd | exact (own_al o4 _).rd | exact (own_al o4 _).drew.rd)); (· (repeat (first | with_reducible assumption | with_reducible exact Below.refl _ _ | with_reducible apply Below.drew | with_reducible apply below_al))); rintro e w5 ⟨⟨a5, c5, d5, e5, rfl, o5, u5, f5⟩, k5⟩; obtain ⟨s5a, s5b, s5c, _⟩ := cells3 HH2.out.1 k5; obtain ⟨t5a, t5b, t5c, _⟩ := cells3 HH2.out.2 k5; obtain ⟨x0, x1, x2, x3, x4, x5⟩ := cells3 HHO.out k5)
   | (go_at_call 249; (with_reducible refine (HFL.out _ _ _ _ _ ?_ ?_ ?_).mono ?_); (· (first | exact o3.rd | exact (own_al o3 _).rd | exact (own_al o3 _).drew.rd)); (· (first | exact u3.rd | exact (own_al u3 _).rd | exact (own_al u3 _).drew.rd)); (· (repeat (first | with_reducible assumption | with_reducible exact Below.refl _ _ | with_reducible apply Below.drew | with_reducible apply below_al))); rintro e w4 ⟨⟨a4, c4, rfl, o4, f4⟩, k4⟩; obtain ⟨s4a, s4b, s4c, _⟩ := cells3 HH2.out.1 k4; obtain ⟨t4a, t4b, t4c, _⟩ := cells3 HH2.out.2 k4; have z4 := f4.size; (try simp only [alloc_size, drew_size] at z4); have hy1 := o4.rd.le; have hy2 := o4.rd.cm; (try (have nl4_0 : w.heap.size < w4.heap.size := by omega)); (try (have nq4_0 : ¬ (w.heap.size = w4.heap.size) := by omega)); (try (have nr4_0 : ¬ (w4.heap.size = w.heap.size) := by omega)); (try (have nl4_1 : w1.heap.size < w4.heap.size := by omega)); (try (have nq4_1 : ¬ (w1.heap.size = w4.heap.size) := by omega)); (try (have nr4_1 : ¬ (w4.heap.size = w1.heap.size) := by omega)); (try (have nl4_2 : w2.heap.size < w4.heap.size := by omega)); (try (have nq4_2 : ¬ (w2.heap.size = w4.heap.size) := by omega)); (try (have nr4_2 : ¬ (w4.heap.size = w2.heap.size) := by omega)); (try (have nl4_3 : w3.heap.size < w4.heap.size := by omega)); (try (have nq4_3 : ¬ (w3.heap.size = w4.heap.size) := by omega)); (try (have nr4_3 : ¬ (w4.heap.size = w3.heap.size) := by omega)))
   | (go_at_call 100; (with_reducible refine (HMU.out _ ?_).mono ?_); (· (repeat (first | with_reducible assumption | with_reducible exact Below.refl _ _ | with_reducible apply Below.drew | with_reducible apply below_al))); rintro e w3 ⟨⟨a3, c3, d3, e3, rfl, o3, u3, f3⟩, k3⟩; obtain ⟨s3a, s3b, s3c, _⟩ := cells3 HH2.out.1 k3; obtain ⟨t3a, t3b, t3c, _⟩ := cells3 HH2.out.2 k3; have z3 := f3.size; (try simp only [alloc_size, drew_size] at z3); have hy3 := o3.rd.le; have hy4 := o3.rd.cm; have hy5 := u3.rd.le; have hy6 := u3.rd.cm; (try (have nl3_0 : w.heap.size < w3.heap.size := by omega)); (try (have nq3_0 : ¬ (w.heap.size = w3.heap.size) := by omega)); (try (have nr3_0 : ¬ (w3.heap.size = w.heap.size) := by omega)); (try (have nl3_1 : w1.heap.size < w3.heap.size := by omega)); (try (have nq3_1 : ¬ (w1.heap.size = w3.heap.size) := by omega)); (try (have nr3_1 : ¬ (w3.heap.size = w1.heap.size) := by omega)); (try (have nl3_2 : w2.heap.size < w3.heap.size := by omega)); (try (have nq3_2 : ¬ (w2.heap.size = w3.heap.size) := by omega)); (try (have nr3_2 : ¬ (w3.heap.size = w2.heap.size) := by omega))))
 all_goals
  go_wp2
  have hsz := HSZ.out
  have hs1 := HZ1.out
  have hs5 := k5.size
  have p5 := K2.out.trans (k5.mono K2.out.size)
  refine bodyPost_ret (v := .agg #[.bool (decide (D.num < 0)), .slice a5 (nd D.num.natAbs).length c5, .slice d5 (nd D.den).length e5]) (by simp [results, Tryz.results211, go_sem, x0, x1, x2]) rfl ?_
  exact RetRat.fin (B := w.heap.size + 2) (o5.mono (by (first | omega | (simp only [alloc_size, drew_size, setCell_size]; done) | (simp only [alloc_size, drew_size, setCell_size]; omega)))) (u5.mono (by (first | omega | (simp only [alloc_size, drew_size, setCell_size]; done) | (simp only [alloc_size, drew_size, setCell_size]; omega)))) (by omega) (HB.out.trans (p5.mono HB.out.size)) (by omega) _ _ _
end Go.Proofs.YtiljjhhkklnlgaaGreatDoor
