/- The walk of RationalMakes. -/
import Derived.Test.YtibfeceainemjaaGreatDoorQ7
import Derived.Test.YtibfeceainemjaaGreatDoorQ1
import Derived.Test.YtibfeceainemjaaGreatDoorQRm5
import Derived.Test.YtibfeceainemjaaGreatDoorQ6
import Derived.Test.YtibfeceainemjaaGreatDoorQPw3
import Derived.Test.YtibfeceainemjaaGreatDoorQRpw
import Derived.Test.YtibfeceainemjaaGreatDoorQMdm

set_option linter.unusedVariables false
set_option linter.unusedSimpArgs false
set_option linter.unusedSectionVars false

namespace Go.Proofs.YtibfeceainemjaaGreatDoor
open Go.RowKit Num

/-- Pow of both sides, every exponent -/
theorem pw_both {w : World} {b : Bool} {ao : Option Addr} {c : Nat} {xs : List Nat} {ad : Option Addr} {d : Nat} {ds : List Nat} {q : Rat} {n : Nat} (h : Rq w b ao c xs ad d ds q n) (hn : n ≤ 999999999) (k : Int) : ∃ (Q : Rat) (E : Int), ∀ w' : World, Below w.heap.size w w' → Tb w' →
    Calls Tryz.prog 41 #[.agg #[.bool b, .slice ao xs.length c, .slice ad ds.length d], .int .i64 k] w' (RetRatE Q E w') ∧ Calls Tryz.prog 42 #[.agg #[.bool b, .slice ao xs.length c, .slice ad ds.length d], .int .i64 k] w' (RetRatE Q E w') := by
  by_cases hk : k < 0 ∨ 64 < k
  · exact ⟨0, 1, fun w' hb _ => ⟨pw3_err (h.below hb) k hk 0, rpw3_err (h.below hb) k hk 0⟩⟩
  · obtain ⟨j, rfl⟩ : ∃ j : Nat, k = (j : Int) := ⟨k.toNat, by omega⟩
    exact ⟨q ^ j, 0, fun w' hb hT => ⟨pw3_ok (h.below hb) hn hT j (by omega), rpw3_ok (h.below hb) hn j (by omega)⟩⟩

set_option maxRecDepth 100000 in
set_option maxHeartbeats 25600000 in
theorem walkRationalMakes (b3 b4 : Bool) (n m k : Int) (a3 : Option Addr) (c3 : Nat) (xs : List Nat) (a4 : Option Addr) (c4 : Nat) (ys : List Nat) (w : World) (hnw : (Lit.int .i64 n).wf = true) (hmw : (Lit.int .i64 m).wf = true) (hkw : (Lit.int .i64 k).wf = true) (ha : Rd w a3 c3 xs) (hb : Rd w a4 c4 ys) (hT : Tb w) :
    Calls Tryz.prog 4 #[.int .i64 n, .int .i64 m, .int .i64 k, .agg #[.bool b3, .slice a3 xs.length c3], .agg #[.bool b4, .slice a4 ys.length c4]] w (RetB (.bool true) w) := by
  obtain ⟨hn1, hn2⟩ := Go.Joins.in64_of_wf hnw
  obtain ⟨hm1, hm2⟩ := Go.Joins.in64_of_wf hmw
  obtain ⟨hk1, hk2⟩ := Go.Joins.in64_of_wf hkw
  clear hnw hmw hkw
  have hle1 := ha.le
  have hle2 := ha.cm
  have hle3 := hb.le
  have hle4 := hb.cm
  by_cases hx1 : xs.length ≤ 6
  case neg =>
    have hx1' : (xs.length : Int) > 6 := by omega
    have hB := A2_below w (.cells #[.bool b3, .slice a3 xs.length c3] 24) (.cells #[.bool b4, .slice a4 ys.length c4] 24)
    have HH := hid (A2_heap w (.cells #[.bool b3, .slice a3 xs.length c3] 24) (.cells #[.bool b4, .slice a4 ys.length c4] 24))
    have HSZ := hid (A2_size w (.cells #[.bool b3, .slice a3 xs.length c3] 24) (.cells #[.bool b4, .slice a4 ys.length c4] 24))
    have HB := hid hB
    have HR := hid (And.intro (ha.below hB) (hb.below hB))
    have HT := hid (hT.below hB)
    unfold A2 at HH HSZ HB HR HT
    clear ha hb hT hB
    have n05 : ¬ (w.heap.size = w.heap.size + 1) := by omega
    have n06 : ¬ (w.heap.size + 1 = w.heap.size) := by omega
    go_enter Tryz.func4, Tryz.ntmps4
    go_wp2_with fail
    obtain ⟨w0, hw0⟩ : ∃ x, x = (w.alloc (.cells #[.bool b3, .slice a3 xs.length c3] 24)).alloc (.cells #[.bool b4, .slice a4 ys.length c4] 24) := ⟨_, rfl⟩
    rw [← hw0] at HH HSZ HB HR HT ⊢
    clear hw0
    have k0 : Below w0.heap.size w0 w0 := Below.refl _ _
    refine (awake3_any w0 HT.out).mono ?_
    rintro e wz ⟨rfl, fz⟩
    have kz := HB.out.trans (fz.mono HB.out.size)
    clear fz
    go_wp2
    go_ret
    exact ⟨rfl, kz⟩
  by_cases hx2 : ys.length ≤ 6
  case neg =>
    have hx1' : ¬ ((xs.length : Int) > 6) := by omega
    have hx2' : (ys.length : Int) > 6 := by omega
    have hB := A2_below w (.cells #[.bool b3, .slice a3 xs.length c3] 24) (.cells #[.bool b4, .slice a4 ys.length c4] 24)
    have HH := hid (A2_heap w (.cells #[.bool b3, .slice a3 xs.length c3] 24) (.cells #[.bool b4, .slice a4 ys.length c4] 24))
    have HSZ := hid (A2_size w (.cells #[.bool b3, .slice a3 xs.length c3] 24) (.cells #[.bool b4, .slice a4 ys.length c4] 24))
    have HB := hid hB
    have HR := hid (And.intro (ha.below hB) (hb.below hB))
    have HT := hid (hT.below hB)
    unfold A2 at HH HSZ HB HR HT
    clear ha hb hT hB
    have n05 : ¬ (w.heap.size = w.heap.size + 1) := by omega
    have n06 : ¬ (w.heap.size + 1 = w.heap.size) := by omega
    go_enter Tryz.func4, Tryz.ntmps4
    go_wp2_with fail
    obtain ⟨w0, hw0⟩ : ∃ x, x = (w.alloc (.cells #[.bool b3, .slice a3 xs.length c3] 24)).alloc (.cells #[.bool b4, .slice a4 ys.length c4] 24) := ⟨_, rfl⟩
    rw [← hw0] at HH HSZ HB HR HT ⊢
    clear hw0
    have k0 : Below w0.heap.size w0 w0 := Below.refl _ _
    refine (awake3_any w0 HT.out).mono ?_
    rintro e wz ⟨rfl, fz⟩
    have kz := HB.out.trans (fz.mono HB.out.size)
    clear fz
    go_wp2
    go_ret
    exact ⟨rfl, kz⟩
  have hx1' : ¬ ((xs.length : Int) > 6) := by omega
  have hx2' : ¬ ((ys.length : Int) > 6) := by omega
  have hB := A2_below w (.cells #[.bool b3, .slice a3 xs.length c3] 24) (.cells #[.bool b4, .slice a4 ys.length c4] 24)
  have HH := hid (A2_heap w (.cells #[.bool b3, .slice a3 xs.length c3] 24) (.cells #[.bool b4, .slice a4 ys.length c4] 24))
  have HSZ := hid (A2_size w (.cells #[.bool b3, .slice a3 xs.length c3] 24) (.cells #[.bool b4, .slice a4 ys.length c4] 24))
  have HB := hid hB
  have HR := hid (And.intro (ha.below hB) (hb.below hB))
  have HT := hid (hT.below hB)
  unfold A2 at HH HSZ HB HR HT
  clear ha hb hT hB
  have n05 : ¬ (w.heap.size = w.heap.size + 1) := by omega
  have n06 : ¬ (w.heap.size + 1 = w.heap.size) := by omega
  go_enter Tryz.func4, Tryz.ntmps4
  go_wp2_with fail
  obtain ⟨w0, hw0⟩ : ∃ x, x = (w.alloc (.cells #[.bool b3, .slice a3 xs.length c3] 24)).alloc (.cells #[.bool b4, .slice a4 ys.length c4] 24) := ⟨_, rfl⟩
  rw [← hw0] at HH HSZ HB HR HT ⊢
  clear hw0
  have k0 : Below w0.heap.size w0 w0 := Below.refl _ _
  obtain ⟨Q, hQ⟩ : ∃ Q, Q = Rat.divInt (iv b3 (val xs)) (iv b4 (val ys)) := ⟨_, rfl⟩
  obtain ⟨E, hE⟩ : ∃ E, E = zer (iv b4 (val ys)) := ⟨_, rfl⟩
  have CM1 := hid (fun w' (h : Below w0.heap.size w0 w') => make_any b3 b4 a3 a4 c3 c4 xs ys w' (HR.out.1.below h) (HR.out.2.below h) (by omega) (by omega) (HT.out.below h))
  have CM2 := hid (fun w' (h : Below w0.heap.size w0 w') => rmake_any b3 b4 a3 a4 c3 c4 xs ys w' (HR.out.1.below h) (HR.out.2.below h) (by omega) (by omega))
  simp only [← hQ, ← hE] at CM1 CM2
  clear hQ hE
  obtain ⟨M, hM⟩ : ∃ M, M = n % 20 := ⟨_, rfl⟩
  have hM1 : 0 ≤ M := by rw [hM]; exact Int.emod_nonneg _ (by omega)
  have hM2 : M < 20 := by rw [hM]; exact Int.emod_lt_of_pos _ (by omega)
  have CMD := hid (fun w' => show Calls Tryz.prog 40 #[.int .i64 n, .int .i64 20] w' (Ret (.int .i64 M) w') from by
    have h3 := Mod_all n 20 w' (by omega) (by omega) hn1 hn2
    rw [← hM] at h3
    exact h3)
  obtain ⟨N, hN⟩ : ∃ N, N = M - 9 := ⟨_, rfl⟩
  have hN1 : -9 ≤ N := by omega
  have hN2 : N ≤ 10 := by omega
  have hw1 : IntKind.i64.wrap (M - 9) = N := by rw [← hN]; exact IntWalk.i64_in _ (by omega)
  obtain ⟨S, hS⟩ : ∃ S, S = Rat.divInt N 7 := ⟨_, rfl⟩
  have sS : Sz S 1 := by
    rw [hS, show (7 : Int) = ((7 : Nat) : Int) from rfl, Rat.divInt_ofNat]
    exact Sz.of (by omega) (by omega) (by omega)
  have CF0 := hid (fun w' => show Calls Tryz.prog 39 #[.int .i64 N, .int .i64 7] w' (RetRat S w') from by
    rw [hS]; exact rfrac3_any N 7 w' (by omega) (by omega) (by omega) (by omega))
  obtain ⟨F, hF⟩ : ∃ F, F = Rat.divInt n m := ⟨_, rfl⟩
  obtain ⟨J, hJ⟩ : ∃ J, J = ((n : Int) : Rat) := ⟨_, rfl⟩
  have CF1 := hid (fun w' (h : Below w0.heap.size w0 w') => (frac3_any n m w' hn1 hn2 hm1 hm2 (HT.out.below h)).mono fun _ _ r => RetRat.of r (show _ = F from hF.symm))
  have CF2 := hid (fun w' => (rfrac3_any n m w' hn1 hn2 hm1 hm2).mono fun _ _ r => RetRat.of r (show _ = F from hF.symm))
  have CO1 := hid (fun w' => (of3_any n w' hn1 hn2).mono fun _ _ r => RetRat.of r (show _ = J from hJ.symm))
  have CO2 := hid (fun w' => (rof3_any n w' hn1 hn2).mono fun _ _ r => RetRat.of r (show _ = J from hJ.symm))
  have S3 := hid (fun (q : Rat) w' a c d e a' c' d' e' (o1 : Rd w' a c (nd q.num.natAbs)) (o2 : Rd w' d e (nd q.den)) (o3 : Rd w' a' c' (nd q.num.natAbs)) (o4 : Rd w' d' e' (nd q.den)) => same3_any (decide (q.num < 0)) (decide (q.num < 0)) a d a' d' c e c' e' (nd q.num.natAbs) (nd q.den) (nd q.num.natAbs) (nd q.den) true w' o1 o2 o3 o4 (by simp))
  have SE := hid (fun (q : Rat) (E : Int) w' a c d e a' c' d' e' (o1 : Rd w' a c (rnm q E)) (o2 : Rd w' d e (rdn q E)) (o3 : Rd w' a' c' (rnm q E)) (o4 : Rd w' d' e' (rdn q E)) => same3_any (rsg q E) (rsg q E) a d a' d' c e c' e' (rnm q E) (rdn q E) (rnm q E) (rdn q E) true w' o1 o2 o3 o4 (by simp))
  clear hM hM1 hM2 hN1 hN2 hF hJ hS hN
  refine (CM1.out w0 k0).mono ?_
  rintro e w1 ⟨a5, c5, d5, e5, rfl, o5, u5, f5⟩
  have hl5a := o5.rd.le
  have hl5b := o5.rd.cm
  have hl5c := u5.rd.le
  have hl5d := u5.rd.cm
  have QB := hid (heap_alloc_at w1 (.cells #[.bool (rsg Q E), .slice a5 (rnm Q E).length c5, .slice d5 (rdn Q E).length e5] 26))
  have OQ := hid (And.intro (own_al o5 (.cells #[.bool (rsg Q E), .slice a5 (rnm Q E).length c5, .slice d5 (rdn Q E).length e5] 26)) (own_al u5 (.cells #[.bool (rsg Q E), .slice a5 (rnm Q E).length c5, .slice d5 (rdn Q E).length e5] 26)))
  have k2 := below_al f5 (.cells #[.bool (rsg Q E), .slice a5 (rnm Q E).length c5, .slice d5 (rdn Q E).length e5] 26)
  have hq1 := f5.size
  clear o5 u5 f5 k0
  go_upto_region 4 with fail
  obtain ⟨w2, hw2⟩ : ∃ x, x = w1.alloc (.cells #[.bool (rsg Q E), .slice a5 (rnm Q E).length c5, .slice d5 (rdn Q E).length e5] 26) := ⟨_, rfl⟩
  have hz2 : w2.heap.size = w1.heap.size + 1 := by rw [hw2]; simp
  rw [← hw2] at QB OQ k2 ⊢
  clear hw2
  obtain ⟨s1a, s1b, _⟩ := pair_cells HH.out.1 k2
  obtain ⟨s2a, s2b, _⟩ := pair_cells HH.out.2 k2
  go_wp2_with fail
  refine (CM2.out w2 k2).mono ?_
  rintro e w3 ⟨a6, c6, d6, e6, rfl, o6, u6, f6⟩
  have hl6a := o6.rd.le
  have hl6b := o6.rd.cm
  have hl6c := u6.rd.le
  have hl6d := u6.rd.cm
  have PB := hid (heap_alloc_at w3 (.cells #[.bool (rsg Q E), .slice a6 (rnm Q E).length c6, .slice d6 (rdn Q E).length e6] 26))
  have OP := hid (And.intro (own_al o6 (.cells #[.bool (rsg Q E), .slice a6 (rnm Q E).length c6, .slice d6 (rdn Q E).length e6] 26)) (own_al u6 (.cells #[.bool (rsg Q E), .slice a6 (rnm Q E).length c6, .slice d6 (rdn Q E).length e6] 26)))
  have k4 := below_al (k2.trans (f6.mono k2.size)) (.cells #[.bool (rsg Q E), .slice a6 (rnm Q E).length c6, .slice d6 (rdn Q E).length e6] 26)
  have j4 := below_al f6 (.cells #[.bool (rsg Q E), .slice a6 (rnm Q E).length c6, .slice d6 (rdn Q E).length e6] 26)
  have hq3 := f6.size
  clear s1a s1b s2a s2b o6 u6 f6 k2 CM1 CM2
  go_upto_region 5 with fail
  obtain ⟨w4, hw4⟩ : ∃ x, x = w3.alloc (.cells #[.bool (rsg Q E), .slice a6 (rnm Q E).length c6, .slice d6 (rdn Q E).length e6] 26) := ⟨_, rfl⟩
  have hz4 : w4.heap.size = w3.heap.size + 1 := by rw [hw4]; simp
  rw [← hw4] at PB OP k4 j4 ⊢
  clear hw4
  go_wp2_with fail
  refine (CMD.out w4).mono ?_
  rintro e wm ⟨rfl, rfl⟩
  go_wp2_with fail
  refine (CF0.out w4).mono ?_
  rintro e w5 ⟨a7, c7, d7, e7, rfl, o7, u7, f7⟩
  have hl7a := o7.rd.le
  have hl7b := o7.rd.cm
  have hl7c := u7.rd.le
  have hl7d := u7.rd.cm
  have SB := hid (heap_alloc_at w5 (.cells #[.bool (decide (S.num < 0)), .slice a7 (nd S.num.natAbs).length c7, .slice d7 (nd S.den).length e7] 26))
  have OS := hid (And.intro (own_al o7 (.cells #[.bool (decide (S.num < 0)), .slice a7 (nd S.num.natAbs).length c7, .slice d7 (nd S.den).length e7] 26)) (own_al u7 (.cells #[.bool (decide (S.num < 0)), .slice a7 (nd S.num.natAbs).length c7, .slice d7 (nd S.den).length e7] 26)))
  have k6 := below_al (k4.trans (f7.mono k4.size)) (.cells #[.bool (decide (S.num < 0)), .slice a7 (nd S.num.natAbs).length c7, .slice d7 (nd S.den).length e7] 26)
  have j6 := below_al (j4.trans (f7.mono j4.size)) (.cells #[.bool (decide (S.num < 0)), .slice a7 (nd S.num.natAbs).length c7, .slice d7 (nd S.den).length e7] 26)
  have i6 := below_al f7 (.cells #[.bool (decide (S.num < 0)), .slice a7 (nd S.num.natAbs).length c7, .slice d7 (nd S.den).length e7] 26)
  have hq5 := f7.size
  clear o7 u7 f7 k4 j4 CMD CF0
  go_upto_region 6 with fail
  obtain ⟨w6, hw6⟩ : ∃ x, x = w5.alloc (.cells #[.bool (decide (S.num < 0)), .slice a7 (nd S.num.natAbs).length c7, .slice d7 (nd S.den).length e7] 26) := ⟨_, rfl⟩
  have hz6 : w6.heap.size = w5.heap.size + 1 := by rw [hw6]; simp
  rw [← hw6] at SB OS k6 j6 i6 ⊢
  clear hw6
  obtain ⟨X, Y, hXY⟩ := pw_both (Rq.own OS.out.1 OS.out.2 sS) (by omega) k
  have HXY := hid hXY
  clear hXY
  obtain ⟨t0, t1, t2, _⟩ := cells3 SB.out (Below.refl _ _)
  go_wp2_with fail
  refine (HXY.out w6 (Below.refl _ _) (HT.out.below k6)).1.mono ?_
  rintro e w7 ⟨a8, c8, d8, e8, rfl, o8, u8, f8⟩
  have hl8a := o8.rd.le
  have hl8b := o8.rd.cm
  have hl8c := u8.rd.le
  have hl8d := u8.rd.cm
  have XB := hid (heap_alloc_at w7 (.cells #[.bool (rsg X Y), .slice a8 (rnm X Y).length c8, .slice d8 (rdn X Y).length e8] 26))
  have OX := hid (And.intro (own_al o8 (.cells #[.bool (rsg X Y), .slice a8 (rnm X Y).length c8, .slice d8 (rdn X Y).length e8] 26)) (own_al u8 (.cells #[.bool (rsg X Y), .slice a8 (rnm X Y).length c8, .slice d8 (rdn X Y).length e8] 26)))
  have k8 := below_al (k6.trans (f8.mono k6.size)) (.cells #[.bool (rsg X Y), .slice a8 (rnm X Y).length c8, .slice d8 (rdn X Y).length e8] 26)
  have j8 := below_al (j6.trans (f8.mono j6.size)) (.cells #[.bool (rsg X Y), .slice a8 (rnm X Y).length c8, .slice d8 (rdn X Y).length e8] 26)
  have i8 := below_al (i6.trans (f8.mono i6.size)) (.cells #[.bool (rsg X Y), .slice a8 (rnm X Y).length c8, .slice d8 (rdn X Y).length e8] 26)
  have h8 := below_al f8 (.cells #[.bool (rsg X Y), .slice a8 (rnm X Y).length c8, .slice d8 (rdn X Y).length e8] 26)
  have hq7 := f8.size
  clear o8 u8 f8 k6 j6 i6 t0 t1 t2
  go_upto_region 7 with fail
  obtain ⟨w8, hw8⟩ : ∃ x, x = w7.alloc (.cells #[.bool (rsg X Y), .slice a8 (rnm X Y).length c8, .slice d8 (rdn X Y).length e8] 26) := ⟨_, rfl⟩
  have hz8 : w8.heap.size = w7.heap.size + 1 := by rw [hw8]; simp
  rw [← hw8] at XB OX k8 j8 i8 h8 ⊢
  clear hw8
  obtain ⟨t0, t1, t2, _⟩ := cells3 SB.out h8
  go_wp2_with fail
  refine (HXY.out w8 h8 (HT.out.below k8)).2.mono ?_
  rintro e w9 ⟨a9, c9, d9, e9, rfl, o9, u9, f9⟩
  have hl9a := o9.rd.le
  have hl9b := o9.rd.cm
  have hl9c := u9.rd.le
  have hl9d := u9.rd.cm
  have YB := hid (heap_alloc_at w9 (.cells #[.bool (rsg X Y), .slice a9 (rnm X Y).length c9, .slice d9 (rdn X Y).length e9] 26))
  have OY := hid (And.intro (own_al o9 (.cells #[.bool (rsg X Y), .slice a9 (rnm X Y).length c9, .slice d9 (rdn X Y).length e9] 26)) (own_al u9 (.cells #[.bool (rsg X Y), .slice a9 (rnm X Y).length c9, .slice d9 (rdn X Y).length e9] 26)))
  have kA := below_al (k8.trans (f9.mono k8.size)) (.cells #[.bool (rsg X Y), .slice a9 (rnm X Y).length c9, .slice d9 (rdn X Y).length e9] 26)
  have jA := below_al (j8.trans (f9.mono j8.size)) (.cells #[.bool (rsg X Y), .slice a9 (rnm X Y).length c9, .slice d9 (rdn X Y).length e9] 26)
  have iA := below_al (i8.trans (f9.mono i8.size)) (.cells #[.bool (rsg X Y), .slice a9 (rnm X Y).length c9, .slice d9 (rdn X Y).length e9] 26)
  have gA := below_al f9 (.cells #[.bool (rsg X Y), .slice a9 (rnm X Y).length c9, .slice d9 (rdn X Y).length e9] 26)
  have hq9 := f9.size
  clear o9 u9 f9 k8 j8 i8 h8 t0 t1 t2 HXY SB OS
  go_upto_region 8 with fail
  obtain ⟨wA, hwA⟩ : ∃ x, x = w9.alloc (.cells #[.bool (rsg X Y), .slice a9 (rnm X Y).length c9, .slice d9 (rdn X Y).length e9] 26) := ⟨_, rfl⟩
  rw [← hwA] at YB OY kA jA iA gA ⊢
  clear hwA
  clear hz2 hz4 hz6 hz8 hq1 hq3 hq5 hq7 hq9
  go_wp2_with fail
  refine (awake3_any wA (HT.out.below kA)).mono ?_
  rintro e y1 ⟨rfl, g1⟩
  have p1 := kA.trans (g1.mono kA.size)
  have j1 := jA.trans (g1.mono jA.size)
  have i1 := iA.trans (g1.mono iA.size)
  have h1 := gA.trans (g1.mono gA.size)
  have l1 := g1
  clear kA jA iA gA g1
  obtain ⟨r0, r1, r2, _⟩ := cells3 QB.out j1
  obtain ⟨r3, r4, r5, _⟩ := cells3 PB.out i1
  go_wp2_with fail
  refine (SE.out Q E y1 a5 c5 d5 e5 a6 c6 d6 e6 (OQ.out.1.below j1).rd (OQ.out.2.below j1).rd (OP.out.1.below i1).rd (OP.out.2.below i1).rd).mono ?_
  rintro e y2 ⟨rfl, g2⟩
  have p2 := p1.trans (g2.mono p1.size)
  have h2 := h1.trans (g2.mono h1.size)
  have l2 := l1.trans (g2.mono l1.size)
  clear r0 r1 r2 r3 r4 r5 p1 j1 i1 h1 l1 g2 QB PB OQ OP
  obtain ⟨r0, r1, r2, _⟩ := cells3 XB.out h2
  obtain ⟨r3, r4, r5, _⟩ := cells3 YB.out l2
  go_wp2_with fail
  refine (SE.out X Y y2 a8 c8 d8 e8 a9 c9 d9 e9 (OX.out.1.below h2).rd (OX.out.2.below h2).rd (OY.out.1.below l2).rd (OY.out.2.below l2).rd).mono ?_
  rintro e y3 ⟨rfl, g3⟩
  have p3 := p2.trans (g3.mono p2.size)
  clear r0 r1 r2 r3 r4 r5 p2 h2 l2 g3 XB YB OX OY
  go_wp2_with fail
  refine (CO1.out y3).mono ?_
  rintro e y4 ⟨aJ, cJ, dJ, eJ, rfl, o4, u4, g4⟩
  have p4 := p3.trans (g4.mono p3.size)
  have hj1 := o4.rd.le
  have hj2 := o4.rd.cm
  have hj3 := u4.rd.le
  have hj4 := u4.rd.cm
  go_wp2_with fail
  refine (CO2.out y4).mono ?_
  rintro e y5 ⟨aK, cK, dK, eK, rfl, o5, u5, g5⟩
  have p5 := p4.trans (g5.mono p4.size)
  have hj5 := o5.rd.le
  have hj6 := o5.rd.cm
  have hj7 := u5.rd.le
  have hj8 := u5.rd.cm
  go_wp2_with fail
  refine (S3.out J y5 aJ cJ dJ eJ aK cK dK eK (o4.below g5).rd (u4.below g5).rd o5.rd u5.rd).mono ?_
  rintro e y6 ⟨rfl, g6⟩
  have p6 := p5.trans (g6.mono p5.size)
  clear o4 u4 o5 u5 g4 g5 g6 p3 p4 p5
  go_wp2_with fail
  refine (CF1.out y6 p6).mono ?_
  rintro e y7 ⟨aL, cL, dL, eL, rfl, o7, u7, g7⟩
  have p7 := p6.trans (g7.mono p6.size)
  have hj9 := o7.rd.le
  have hjA := o7.rd.cm
  have hjB := u7.rd.le
  have hjC := u7.rd.cm
  go_wp2_with fail
  refine (CF2.out y7).mono ?_
  rintro e y8 ⟨aM, cM, dM, eM, rfl, o8, u8, g8⟩
  have p8 := p7.trans (g8.mono p7.size)
  have hjD := o8.rd.le
  have hjE := o8.rd.cm
  have hjF := u8.rd.le
  have hjG := u8.rd.cm
  go_wp2_with fail
  refine (S3.out F y8 aL cL dL eL aM cM dM eM (o7.below g8).rd (u7.below g8).rd o8.rd u8.rd).mono ?_
  rintro e y9 ⟨rfl, g9⟩
  have pz := HB.out.trans ((p8.trans (g9.mono p8.size)).mono HB.out.size)
  clear o7 u7 o8 u8 g7 g8 g9 p6 p7 p8
  go_wp2
  go_ret
  exact ⟨rfl, pz⟩
end Go.Proofs.YtibfeceainemjaaGreatDoor
