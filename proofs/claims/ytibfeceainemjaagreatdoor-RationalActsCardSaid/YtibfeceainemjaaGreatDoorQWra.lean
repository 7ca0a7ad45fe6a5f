/- The walk of RationalActs. -/
import Derived.Test.YtibfeceainemjaaGreatDoorQ7
import Derived.Test.YtibfeceainemjaaGreatDoorQ3
import Derived.Test.YtibfeceainemjaaGreatDoorQRp3
import Derived.Test.YtibfeceainemjaaGreatDoorQRp4
import Derived.Test.YtibfeceainemjaaGreatDoorQRp5
import Derived.Test.YtibfeceainemjaaGreatDoorQ4
import Derived.Test.YtibfeceainemjaaGreatDoorQ1
import Derived.Test.YtibfeceainemjaaGreatDoorQbe
import Derived.Test.YtibfeceainemjaaGreatDoorQbc
import Derived.Test.YtibfeceainemjaaGreatDoorQbd

set_option linter.unusedVariables false
set_option linter.unusedSimpArgs false
set_option linter.unusedSectionVars false

namespace Go.Proofs.YtibfeceainemjaaGreatDoor
open Go.RowKit Num

set_option maxRecDepth 100000 in
set_option maxHeartbeats 25600000 in
theorem walkRationalActs (b1 b2 : Bool) (ao1 : Option Addr) (c1 : Nat) (xs1 : List Nat) (ad1 : Option Addr) (d1 : Nat) (ds1 : List Nat) (ao2 : Option Addr) (c2 : Nat) (xs2 : List Nat) (ad2 : Option Addr) (d2 : Nat) (ds2 : List Nat) (w : World) (ha1 : Rd w ao1 c1 xs1) (hd1 : Rd w ad1 d1 ds1) (ha2 : Rd w ao2 c2 xs2) (hd2 : Rd w ad2 d2 ds2) (hT : Tb w) :
    Calls Tryz.prog 3 #[.agg #[.bool b1, .slice ao1 xs1.length c1, .slice ad1 ds1.length d1], .agg #[.bool b2, .slice ao2 xs2.length c2, .slice ad2 ds2.length d2]] w (RetB (.bool true) w) := by
  have hle1a := ha1.le
  have hle1b := ha1.cm
  have hle1c := hd1.le
  have hle1d := hd1.cm
  have hle2a := ha2.le
  have hle2b := ha2.cm
  have hle2c := hd2.le
  have hle2d := hd2.cm
  by_cases hx1 : xs1.length ≤ 4 ∧ ds1.length ≤ 4
  case neg =>
    have hB := A2_below w (.cells #[.bool b1, .slice ao1 xs1.length c1, .slice ad1 ds1.length d1] 26) (.cells #[.bool b2, .slice ao2 xs2.length c2, .slice ad2 ds2.length d2] 26)
    have HH := hid (A2_heap w (.cells #[.bool b1, .slice ao1 xs1.length c1, .slice ad1 ds1.length d1] 26) (.cells #[.bool b2, .slice ao2 xs2.length c2, .slice ad2 ds2.length d2] 26))
    have HSZ := hid (A2_size w (.cells #[.bool b1, .slice ao1 xs1.length c1, .slice ad1 ds1.length d1] 26) (.cells #[.bool b2, .slice ao2 xs2.length c2, .slice ad2 ds2.length d2] 26))
    have HB := hid hB
    have HR := hid (And.intro (And.intro (ha1.below hB) (hd1.below hB)) (And.intro (ha2.below hB) (hd2.below hB)))
    have HT := hid (hT.below hB)
    unfold A2 at HH HSZ HB HR HT
    clear ha1 hd1 ha2 hd2 hT hB
    have n05 : ¬ (w.heap.size = w.heap.size + 1) := by omega
    have n06 : ¬ (w.heap.size + 1 = w.heap.size) := by omega
    go_enter Tryz.func3, Tryz.ntmps3
    go_wp2_with fail
    obtain ⟨w0, hw0⟩ : ∃ x, x = (w.alloc (.cells #[.bool b1, .slice ao1 xs1.length c1, .slice ad1 ds1.length d1] 26)).alloc (.cells #[.bool b2, .slice ao2 xs2.length c2, .slice ad2 ds2.length d2] 26) := ⟨_, rfl⟩
    rw [← hw0] at HH HSZ HB HR HT ⊢
    clear hw0
    have k0 : Below w0.heap.size w0 w0 := Below.refl _ _
    obtain ⟨s1a, s1b, s1c, _⟩ := cells3 HH.out.1 k0; obtain ⟨s2a, s2b, s2c, _⟩ := cells3 HH.out.2 k0
    have q1 := smallrat_any b1 ao1 ad1 xs1.length c1 ds1.length d1 false w0 (by omega) (by omega) (by simp; omega)
    refine q1.mono ?_
    rintro e w1 ⟨rfl, f1⟩
    clear s1a s1b s1c s2a s2b s2c q1
    have k1 := k0.trans (f1.mono k0.size)
    obtain ⟨s1a, s1b, s1c, _⟩ := cells3 HH.out.1 k1; obtain ⟨s2a, s2b, s2c, _⟩ := cells3 HH.out.2 k1
    clear f1 k0
    have hk := awake3_any w1 (HT.out.below k1)
    go_wp2_with fail
    refine hk.mono ?_
    rintro e wz ⟨rfl, fz⟩
    have kz := HB.out.trans ((k1.trans (fz.mono k1.size)).mono HB.out.size)
    clear hk fz k1 s1a s1b s1c s2a s2b s2c
    go_wp2
    go_ret
    exact ⟨rfl, kz⟩
  by_cases hx2 : xs2.length ≤ 4 ∧ ds2.length ≤ 4
  case neg =>
    have hB := A2_below w (.cells #[.bool b1, .slice ao1 xs1.length c1, .slice ad1 ds1.length d1] 26) (.cells #[.bool b2, .slice ao2 xs2.length c2, .slice ad2 ds2.length d2] 26)
    have HH := hid (A2_heap w (.cells #[.bool b1, .slice ao1 xs1.length c1, .slice ad1 ds1.length d1] 26) (.cells #[.bool b2, .slice ao2 xs2.length c2, .slice ad2 ds2.length d2] 26))
    have HSZ := hid (A2_size w (.cells #[.bool b1, .slice ao1 xs1.length c1, .slice ad1 ds1.length d1] 26) (.cells #[.bool b2, .slice ao2 xs2.length c2, .slice ad2 ds2.length d2] 26))
    have HB := hid hB
    have HR := hid (And.intro (And.intro (ha1.below hB) (hd1.below hB)) (And.intro (ha2.below hB) (hd2.below hB)))
    have HT := hid (hT.below hB)
    unfold A2 at HH HSZ HB HR HT
    clear ha1 hd1 ha2 hd2 hT hB
    have n05 : ¬ (w.heap.size = w.heap.size + 1) := by omega
    have n06 : ¬ (w.heap.size + 1 = w.heap.size) := by omega
    go_enter Tryz.func3, Tryz.ntmps3
    go_wp2_with fail
    obtain ⟨w0, hw0⟩ : ∃ x, x = (w.alloc (.cells #[.bool b1, .slice ao1 xs1.length c1, .slice ad1 ds1.length d1] 26)).alloc (.cells #[.bool b2, .slice ao2 xs2.length c2, .slice ad2 ds2.length d2] 26) := ⟨_, rfl⟩
    rw [← hw0] at HH HSZ HB HR HT ⊢
    clear hw0
    have k0 : Below w0.heap.size w0 w0 := Below.refl _ _
    obtain ⟨s1a, s1b, s1c, _⟩ := cells3 HH.out.1 k0; obtain ⟨s2a, s2b, s2c, _⟩ := cells3 HH.out.2 k0
    have q1 := smallrat_any b1 ao1 ad1 xs1.length c1 ds1.length d1 true w0 (by omega) (by omega) (by simp; omega)
    refine q1.mono ?_
    rintro e w1 ⟨rfl, f1⟩
    clear s1a s1b s1c s2a s2b s2c q1
    have k1 := k0.trans (f1.mono k0.size)
    obtain ⟨s1a, s1b, s1c, _⟩ := cells3 HH.out.1 k1; obtain ⟨s2a, s2b, s2c, _⟩ := cells3 HH.out.2 k1
    clear f1 k0
    have q2 := smallrat_any b2 ao2 ad2 xs2.length c2 ds2.length d2 false w1 (by omega) (by omega) (by simp; omega)
    go_wp2_with fail
    refine q2.mono ?_
    rintro e w2 ⟨rfl, f2⟩
    clear s1a s1b s1c s2a s2b s2c q2
    have k2 := k1.trans (f2.mono k1.size)
    obtain ⟨s1a, s1b, s1c, _⟩ := cells3 HH.out.1 k2; obtain ⟨s2a, s2b, s2c, _⟩ := cells3 HH.out.2 k2
    clear f2 k1
    have hk := awake3_any w2 (HT.out.below k2)
    go_wp2_with fail
    refine hk.mono ?_
    rintro e wz ⟨rfl, fz⟩
    have kz := HB.out.trans ((k2.trans (fz.mono k2.size)).mono HB.out.size)
    clear hk fz k2 s1a s1b s1c s2a s2b s2c
    go_wp2
    go_ret
    exact ⟨rfl, kz⟩
  have hR1 : Rq w b1 ao1 c1 xs1 ad1 d1 ds1 (rv b1 (val xs1) (val ds1)) 4 := ⟨ha1, hd1, rfl, hx1.1, hx1.2⟩
  obtain ⟨q1, hq1⟩ : ∃ q, q = rv b1 (val xs1) (val ds1) := ⟨_, rfl⟩
  rw [← hq1] at hR1
  clear hq1
  have hR2 : Rq w b2 ao2 c2 xs2 ad2 d2 ds2 (rv b2 (val xs2) (val ds2)) 4 := ⟨ha2, hd2, rfl, hx2.1, hx2.2⟩
  obtain ⟨q2, hq2⟩ : ∃ q, q = rv b2 (val xs2) (val ds2) := ⟨_, rfl⟩
  rw [← hq2] at hR2
  clear hq2
  have hB := A2_below w (.cells #[.bool b1, .slice ao1 xs1.length c1, .slice ad1 ds1.length d1] 26) (.cells #[.bool b2, .slice ao2 xs2.length c2, .slice ad2 ds2.length d2] 26)
  have HH := hid (A2_heap w (.cells #[.bool b1, .slice ao1 xs1.length c1, .slice ad1 ds1.length d1] 26) (.cells #[.bool b2, .slice ao2 xs2.length c2, .slice ad2 ds2.length d2] 26))
  have HSZ := hid (A2_size w (.cells #[.bool b1, .slice ao1 xs1.length c1, .slice ad1 ds1.length d1] 26) (.cells #[.bool b2, .slice ao2 xs2.length c2, .slice ad2 ds2.length d2] 26))
  have HB := hid hB
  have HR := hid (And.intro (And.intro (ha1.below hB) (hd1.below hB)) (And.intro (ha2.below hB) (hd2.below hB)))
  have HT := hid (hT.below hB)
  unfold A2 at HH HSZ HB HR HT
  clear ha1 hd1 ha2 hd2 hT hB
  have n05 : ¬ (w.heap.size = w.heap.size + 1) := by omega
  have n06 : ¬ (w.heap.size + 1 = w.heap.size) := by omega
  go_enter Tryz.func3, Tryz.ntmps3
  go_wp2_with fail
  obtain ⟨w0, hw0⟩ : ∃ x, x = (w.alloc (.cells #[.bool b1, .slice ao1 xs1.length c1, .slice ad1 ds1.length d1] 26)).alloc (.cells #[.bool b2, .slice ao2 xs2.length c2, .slice ad2 ds2.length d2] 26) := ⟨_, rfl⟩
  rw [← hw0] at HH HSZ HB HR HT ⊢
  clear hw0
  have k0 : Below w0.heap.size w0 w0 := Below.refl _ _
  obtain ⟨s1a, s1b, s1c, _⟩ := cells3 HH.out.1 k0; obtain ⟨s2a, s2b, s2c, _⟩ := cells3 HH.out.2 k0
  have q1 := smallrat_any b1 ao1 ad1 xs1.length c1 ds1.length d1 true w0 (by omega) (by omega) (by simp; omega)
  refine q1.mono ?_
  rintro e w1 ⟨rfl, f1⟩
  clear s1a s1b s1c s2a s2b s2c q1
  have k1 := k0.trans (f1.mono k0.size)
  obtain ⟨s1a, s1b, s1c, _⟩ := cells3 HH.out.1 k1; obtain ⟨s2a, s2b, s2c, _⟩ := cells3 HH.out.2 k1
  clear f1 k0
  have q2 := smallrat_any b2 ao2 ad2 xs2.length c2 ds2.length d2 true w1 (by omega) (by omega) (by simp; omega)
  go_wp2_with fail
  refine q2.mono ?_
  rintro e w2 ⟨rfl, f2⟩
  clear s1a s1b s1c s2a s2b s2c q2
  have k2 := k1.trans (f2.mono k1.size)
  obtain ⟨s1a, s1b, s1c, _⟩ := cells3 HH.out.1 k2; obtain ⟨s2a, s2b, s2c, _⟩ := cells3 HH.out.2 k2
  clear f2 k1
  have HRR := hid (And.intro (hR1.below HB.out) (hR2.below HB.out))
  clear hR1 hR2
  obtain ⟨v, hv⟩ : ∃ v : Bool, v = true ↔ canon b1 xs1 ds1 := by
    by_cases h : canon b1 xs1 ds1
    · exact ⟨true, by simp [h]⟩
    · exact ⟨false, by simp [h]⟩
  obtain ⟨N, hN⟩ : ∃ q, q = -q1 := ⟨_, rfl⟩
  obtain ⟨A, hA⟩ : ∃ q, q = rabs q1 := ⟨_, rfl⟩
  obtain ⟨P, hP⟩ : ∃ q, q = q1 + q2 := ⟨_, rfl⟩
  obtain ⟨M, hM⟩ : ∃ q, q = q1 - q2 := ⟨_, rfl⟩
  obtain ⟨U, hU⟩ : ∃ q, q = q1 * q2 := ⟨_, rfl⟩
  obtain ⟨Q, hQ⟩ : ∃ q, q = q1 / q2 := ⟨_, rfl⟩
  have CT1 := hid (fun w' (h : Below w0.heap.size w0 w') => (trim3_any (HRR.out.1.below h) (by omega) (HT.out.below h)).mono fun _ _ r => RetRat.of r (show _ = q1 from rfl))
  have CT2 := hid (fun w' (h : Below w0.heap.size w0 w') => (rtrim3_any (HRR.out.1.below h) (by omega)).mono fun _ _ r => RetRat.of r (show _ = q1 from rfl))
  have CN1 := hid (fun w' (h : Below w0.heap.size w0 w') => (neg3_any (HRR.out.1.below h) (by omega) (HT.out.below h)).mono fun _ _ r => RetRat.of r (show _ = N from hN.symm))
  have CN2 := hid (fun w' (h : Below w0.heap.size w0 w') => (rneg3_any (HRR.out.1.below h) (by omega)).mono fun _ _ r => RetRat.of r (show _ = N from hN.symm))
  have CA1 := hid (fun w' (h : Below w0.heap.size w0 w') => (abs3_any (HRR.out.1.below h) (by omega) (HT.out.below h)).mono fun _ _ r => RetRat.of r (show _ = A from hA.symm))
  have CA2 := hid (fun w' (h : Below w0.heap.size w0 w') => (rabs3_any (HRR.out.1.below h) (by omega)).mono fun _ _ r => RetRat.of r (show _ = A from hA.symm))
  have CP1 := hid (fun w' (h : Below w0.heap.size w0 w') => (add3_any (HRR.out.1.below h) (HRR.out.2.below h) (by omega) (by omega) (HT.out.below h)).mono fun _ _ r => RetRat.of r (show _ = P from hP.symm))
  have CP2 := hid (fun w' (h : Below w0.heap.size w0 w') => (radd3_any (HRR.out.1.below h) (HRR.out.2.below h) (by omega) (by omega)).mono fun _ _ r => RetRat.of r (show _ = P from hP.symm))
  have CM1 := hid (fun w' (h : Below w0.heap.size w0 w') => (sub3_any (HRR.out.1.below h) (HRR.out.2.below h) (by omega) (by omega) (HT.out.below h)).mono fun _ _ r => RetRat.of r (show _ = M from hM.symm))
  have CM2 := hid (fun w' (h : Below w0.heap.size w0 w') => (rsub3_any (HRR.out.1.below h) (HRR.out.2.below h) (by omega) (by omega)).mono fun _ _ r => RetRat.of r (show _ = M from hM.symm))
  have CU1 := hid (fun w' (h : Below w0.heap.size w0 w') => (mul3_any (HRR.out.1.below h) (HRR.out.2.below h) (by omega) (by omega) (HT.out.below h)).mono fun _ _ r => RetRat.of r (show _ = U from hU.symm))
  have CU2 := hid (fun w' (h : Below w0.heap.size w0 w') => (rmul3_any (HRR.out.1.below h) (HRR.out.2.below h) (by omega) (by omega)).mono fun _ _ r => RetRat.of r (show _ = U from hU.symm))
  have CDV := hid (fun w' (h : Below w0.heap.size w0 w') => show Calls Tryz.prog 16 #[.agg #[.bool b1, .slice ao1 xs1.length c1, .slice ad1 ds1.length d1], .agg #[.bool b2, .slice ao2 xs2.length c2, .slice ad2 ds2.length d2]] w' (RetRatE Q (zeq q2) w') from by
    rw [hQ]; exact div3_any (HRR.out.1.below h) (HRR.out.2.below h) (by omega) (by omega) (HT.out.below h))
  have CDR := hid (fun w' (h : Below w0.heap.size w0 w') => show Calls Tryz.prog 17 #[.agg #[.bool b1, .slice ao1 xs1.length c1, .slice ad1 ds1.length d1], .agg #[.bool b2, .slice ao2 xs2.length c2, .slice ad2 ds2.length d2]] w' (RetRatE Q (zeq q2) w') from by
    rw [hQ]; exact rdiv3_any (HRR.out.1.below h) (HRR.out.2.below h) (by omega) (by omega))
  have CV1 := hid (fun w' (h : Below w0.heap.size w0 w') => valid3_any b1 ao1 ad1 c1 d1 xs1 ds1 w' (HRR.out.1.below h).rn (HRR.out.1.below h).rd (by omega) (by omega) (HT.out.below h) v hv)
  have CV2 := hid (fun w' (h : Below w0.heap.size w0 w') => rvalid3_any (HRR.out.1.below h) (by omega) v hv)
  have CS1 := hid (fun w' (h : Below w0.heap.size w0 w') => sign3_any (HRR.out.1.below h) (by omega))
  have CS2 := hid (fun w' (h : Below w0.heap.size w0 w') => rsign3_any (HRR.out.1.below h) (by omega))
  have CC1 := hid (fun w' (h : Below w0.heap.size w0 w') => cmp3_any (HRR.out.1.below h) (HRR.out.2.below h) (by omega) (by omega) (HT.out.below h))
  have CC2 := hid (fun w' (h : Below w0.heap.size w0 w') => rcmp3_any (HRR.out.1.below h) (HRR.out.2.below h) (by omega) (by omega))
  have S3 := hid (fun (q : Rat) w' a c d e a' c' d' e' (o1 : Rd w' a c (nd q.num.natAbs)) (o2 : Rd w' d e (nd q.den)) (o3 : Rd w' a' c' (nd q.num.natAbs)) (o4 : Rd w' d' e' (nd q.den)) => same3_any (decide (q.num < 0)) (decide (q.num < 0)) a d a' d' c e c' e' (nd q.num.natAbs) (nd q.den) (nd q.num.natAbs) (nd q.den) true w' o1 o2 o3 o4 (by simp))
  obtain ⟨E, hE⟩ : ∃ e, e = zeq q2 := ⟨_, rfl⟩
  obtain ⟨G, hG⟩ : ∃ e, e = sgnQ q1 := ⟨_, rfl⟩
  obtain ⟨R, hR⟩ : ∃ e, e = cmpQ q1 q2 := ⟨_, rfl⟩
  simp only [← hE] at CDV CDR
  simp only [← hG] at CS1 CS2
  simp only [← hR] at CC1 CC2
  clear hv hN hA hP hM hU hQ hE hG hR
  go_wp2_with fail
  refine (CDV.out w2 k2).mono ?_
  rintro e w3 ⟨a4, c4, d4, e4, rfl, o4, u4, f4⟩
  have hv1 := o4.rd.le
  have hv2 := o4.rd.cm
  have hv3 := u4.rd.le
  have hv4 := u4.rd.cm
  have k4 := below_al (k2.trans (f4.mono k2.size)) (.cells #[.bool (rsg Q E), .slice a4 (rnm Q E).length c4, .slice d4 (rdn Q E).length e4] 26)
  have QB := hid (heap_alloc_at w3 (.cells #[.bool (rsg Q E), .slice a4 (rnm Q E).length c4, .slice d4 (rdn Q E).length e4] 26))
  have OQ := hid (And.intro (own_al o4 (.cells #[.bool (rsg Q E), .slice a4 (rnm Q E).length c4, .slice d4 (rdn Q E).length e4] 26)) (own_al u4 (.cells #[.bool (rsg Q E), .slice a4 (rnm Q E).length c4, .slice d4 (rdn Q E).length e4] 26)))
  have ng1 : ¬ (w.heap.size = w3.heap.size) := by have := HSZ.out; have := k2.size; have := f4.size; omega
  have ng2 : ¬ (w3.heap.size = w.heap.size) := fun h => ng1 h.symm
  have ng3 : ¬ (w.heap.size + 1 = w3.heap.size) := by have := HSZ.out; have := k2.size; have := f4.size; omega
  have ng4 : ¬ (w3.heap.size = w.heap.size + 1) := fun h => ng3 h.symm
  clear s1a s1b s1c s2a s2b s2c o4 u4 f4 k2
  go_upto_region 4 with fail
  obtain ⟨w4, hw4⟩ : ∃ x, x = w3.alloc (.cells #[.bool (rsg Q E), .slice a4 (rnm Q E).length c4, .slice d4 (rdn Q E).length e4] 26) := ⟨_, rfl⟩
  have hz4 : w4.heap.size = w3.heap.size + 1 := by rw [hw4]; simp
  rw [← hw4] at k4 QB OQ ⊢
  clear hw4
  obtain ⟨s1a, s1b, s1c, _⟩ := cells3 HH.out.1 k4; obtain ⟨s2a, s2b, s2c, _⟩ := cells3 HH.out.2 k4
  go_wp2_with fail
  refine (CDR.out w4 k4).mono ?_
  rintro e w5 ⟨a6, c6, d6, e6, rfl, o6, u6, f6⟩
  have hv5 := o6.rd.le
  have hv6 := o6.rd.cm
  have hv7 := u6.rd.le
  have hv8 := u6.rd.cm
  have k6 := below_al (k4.trans (f6.mono k4.size)) (.cells #[.bool (rsg Q E), .slice a6 (rnm Q E).length c6, .slice d6 (rdn Q E).length e6] 26)
  have j6 := below_al f6 (.cells #[.bool (rsg Q E), .slice a6 (rnm Q E).length c6, .slice d6 (rdn Q E).length e6] 26)
  have PB := hid (heap_alloc_at w5 (.cells #[.bool (rsg Q E), .slice a6 (rnm Q E).length c6, .slice d6 (rdn Q E).length e6] 26))
  have OP := hid (And.intro (own_al o6 (.cells #[.bool (rsg Q E), .slice a6 (rnm Q E).length c6, .slice d6 (rdn Q E).length e6] 26)) (own_al u6 (.cells #[.bool (rsg Q E), .slice a6 (rnm Q E).length c6, .slice d6 (rdn Q E).length e6] 26)))
  have ng5 : ¬ (w.heap.size = w5.heap.size) := by have := HSZ.out; have := k4.size; have := f6.size; omega
  have ng6 : ¬ (w5.heap.size = w.heap.size) := fun h => ng5 h.symm
  have ng7 : ¬ (w3.heap.size = w5.heap.size) := by have := f6.size; omega
  have ng8 : ¬ (w5.heap.size = w3.heap.size) := fun h => ng7 h.symm
  clear s1a s1b s1c s2a s2b s2c o6 u6 f6 k4
  go_upto_region 5 with fail
  obtain ⟨w6, hw6⟩ : ∃ x, x = w5.alloc (.cells #[.bool (rsg Q E), .slice a6 (rnm Q E).length c6, .slice d6 (rdn Q E).length e6] 26) := ⟨_, rfl⟩
  rw [← hw6] at k6 j6 PB OP ⊢
  clear hw6 hz4
  have p0 : Below w0.heap.size w0 w6.drew := k6.trans (below_drewI w0.heap.size w6)
  have j0 : Below w4.heap.size w4 w6.drew := j6.trans (below_drewI w4.heap.size w6)
  have m0 : Below w6.heap.size w6 w6.drew := below_drewI _ _
  go_cut [61] from 30 to 61 (fun bv wx => bv = .bool false ∧ Hid (Below w0.heap.size w0 wx))
  case first =>
    obtain ⟨s1a, s1b, s1c, _⟩ := cells3 HH.out.1 k6; obtain ⟨s2a, s2b, s2c, _⟩ := cells3 HH.out.2 k6
    obtain ⟨sqa, sqb, sqc, _⟩ := cells3 QB.out j6
    obtain ⟨spa, spb, spc, _⟩ := cells3 PB.out (Below.refl _ _)
    go_region_held3 (fun w' => w'.cell? ⟨w.heap.size, 0, none⟩ = some (.bool b1) ∧ w'.cell? ⟨w.heap.size, 1, none⟩ = some (.slice ao1 xs1.length c1) ∧ w'.cell? ⟨w.heap.size, 2, none⟩ = some (.slice ad1 ds1.length d1) ∧ w'.cell? ⟨w.heap.size + 1, 0, none⟩ = some (.bool b2) ∧ w'.cell? ⟨w.heap.size + 1, 1, none⟩ = some (.slice ao2 xs2.length c2) ∧ w'.cell? ⟨w.heap.size + 1, 2, none⟩ = some (.slice ad2 ds2.length d2) ∧ w'.cell? ⟨w3.heap.size, 0, none⟩ = some (.bool (rsg Q E)) ∧ w'.cell? ⟨w3.heap.size, 1, none⟩ = some (.slice a4 (rnm Q E).length c4) ∧ w'.cell? ⟨w3.heap.size, 2, none⟩ = some (.slice d4 (rdn Q E).length e4) ∧ w'.cell? ⟨w5.heap.size, 0, none⟩ = some (.bool (rsg Q E)) ∧ w'.cell? ⟨w5.heap.size, 1, none⟩ = some (.slice a6 (rnm Q E).length c6) ∧ w'.cell? ⟨w5.heap.size, 2, none⟩ = some (.slice d6 (rdn Q E).length e6)) (go_keep) (first
      | (go_at_call 24; (with_reducible refine (CC2.out y6 p6).mono ?_); rintro e y7 ⟨rfl, g7⟩; have p7 := p6.trans (g7.mono p6.size); have j7 := j6.trans (g7.mono j6.size); have m7 := m6.trans (g7.mono m6.size); obtain ⟨x7s1a, x7s1b, x7s1c, _⟩ := cells3 HH.out.1 p7; obtain ⟨x7s2a, x7s2b, x7s2c, _⟩ := cells3 HH.out.2 p7; obtain ⟨x7qa, x7qb, x7qc, _⟩ := cells3 QB.out j7; obtain ⟨x7pa, x7pb, x7pc, _⟩ := cells3 PB.out m7)
      | (go_at_call 23; (with_reducible refine (CC1.out y5 p5).mono ?_); rintro e y6 ⟨rfl, g6⟩; have p6 := p5.trans (g6.mono p5.size); have j6 := j5.trans (g6.mono j5.size); have m6 := m5.trans (g6.mono m5.size); obtain ⟨x6s1a, x6s1b, x6s1c, _⟩ := cells3 HH.out.1 p6; obtain ⟨x6s2a, x6s2b, x6s2c, _⟩ := cells3 HH.out.2 p6; obtain ⟨x6qa, x6qb, x6qc, _⟩ := cells3 QB.out j6; obtain ⟨x6pa, x6pb, x6pc, _⟩ := cells3 PB.out m6)
      | (go_at_call 22; (with_reducible refine (CS2.out y4 p4).mono ?_); rintro e y5 ⟨rfl, g5⟩; have p5 := p4.trans (g5.mono p4.size); have j5 := j4.trans (g5.mono j4.size); have m5 := m4.trans (g5.mono m4.size); obtain ⟨x5s1a, x5s1b, x5s1c, _⟩ := cells3 HH.out.1 p5; obtain ⟨x5s2a, x5s2b, x5s2c, _⟩ := cells3 HH.out.2 p5; obtain ⟨x5qa, x5qb, x5qc, _⟩ := cells3 QB.out j5; obtain ⟨x5pa, x5pb, x5pc, _⟩ := cells3 PB.out m5)
      | (go_at_call 21; (with_reducible refine (CS1.out y3 p3).mono ?_); rintro e y4 ⟨rfl, g4⟩; have p4 := p3.trans (g4.mono p3.size); have j4 := j3.trans (g4.mono j3.size); have m4 := m3.trans (g4.mono m3.size); obtain ⟨x4s1a, x4s1b, x4s1c, _⟩ := cells3 HH.out.1 p4; obtain ⟨x4s2a, x4s2b, x4s2c, _⟩ := cells3 HH.out.2 p4; obtain ⟨x4qa, x4qb, x4qc, _⟩ := cells3 QB.out j4; obtain ⟨x4pa, x4pb, x4pc, _⟩ := cells3 PB.out m4)
      | (go_at_call 20; (with_reducible refine (CV2.out y2 p2).mono ?_); rintro e y3 ⟨rfl, g3⟩; have p3 := p2.trans (g3.mono p2.size); have j3 := j2.trans (g3.mono j2.size); have m3 := m2.trans (g3.mono m2.size); obtain ⟨x3s1a, x3s1b, x3s1c, _⟩ := cells3 HH.out.1 p3; obtain ⟨x3s2a, x3s2b, x3s2c, _⟩ := cells3 HH.out.2 p3; obtain ⟨x3qa, x3qb, x3qc, _⟩ := cells3 QB.out j3; obtain ⟨x3pa, x3pb, x3pc, _⟩ := cells3 PB.out m3)
      | (go_at_call 19; (with_reducible refine (CV1.out y1 p1).mono ?_); rintro e y2 ⟨rfl, g2⟩; have p2 := p1.trans (g2.mono p1.size); have j2 := j1.trans (g2.mono j1.size); have m2 := m1.trans (g2.mono m1.size); obtain ⟨x2s1a, x2s1b, x2s1c, _⟩ := cells3 HH.out.1 p2; obtain ⟨x2s2a, x2s2b, x2s2c, _⟩ := cells3 HH.out.2 p2; obtain ⟨x2qa, x2qb, x2qc, _⟩ := cells3 QB.out j2; obtain ⟨x2pa, x2pb, x2pc, _⟩ := cells3 PB.out m2)
      | (go_at_call 18; (with_reducible refine (same3_any (rsg Q E) (rsg Q E) a4 d4 a6 d6 c4 e4 c6 e6 (rnm Q E) (rdn Q E) (rnm Q E) (rdn Q E) true w6.drew (OQ.out.1.below j0).rd (OQ.out.2.below j0).rd (OP.out.1.below m0).rd (OP.out.2.below m0).rd (by simp)).mono ?_); rintro e y1 ⟨rfl, g1⟩; have p1 := p0.trans (g1.mono p0.size); have j1 := j0.trans (g1.mono j0.size); have m1 := m0.trans (g1.mono m0.size); obtain ⟨x1s1a, x1s1b, x1s1c, _⟩ := cells3 HH.out.1 p1; obtain ⟨x1s2a, x1s2b, x1s2c, _⟩ := cells3 HH.out.2 p1; obtain ⟨x1qa, x1qb, x1qc, _⟩ := cells3 QB.out j1; obtain ⟨x1pa, x1pb, x1pc, _⟩ := cells3 PB.out m1))
    all_goals
      go_wp2
      go_meet
      exact ⟨rfl, p7⟩
  case rest =>
    obtain ⟨rfl, HK⟩ := hcut
    obtain ⟨s1a, s1b, s1c, _⟩ := cells3 HH.out.1 HK.out; obtain ⟨s2a, s2b, s2c, _⟩ := cells3 HH.out.2 HK.out
    have p0 : Below w0.heap.size w0 wc.drew := HK.out.trans (below_drewI w0.heap.size wc)
    clear CDV CDR CV1 CV2 CS1 CS2 CC1 CC2 QB OQ PB OP j0 m0 j6 k6
    go_wp2_with fail
    go_region_held3 (fun w' => w'.cell? ⟨w.heap.size, 0, none⟩ = some (.bool b1) ∧ w'.cell? ⟨w.heap.size, 1, none⟩ = some (.slice ao1 xs1.length c1) ∧ w'.cell? ⟨w.heap.size, 2, none⟩ = some (.slice ad1 ds1.length d1) ∧ w'.cell? ⟨w.heap.size + 1, 0, none⟩ = some (.bool b2) ∧ w'.cell? ⟨w.heap.size + 1, 1, none⟩ = some (.slice ao2 xs2.length c2) ∧ w'.cell? ⟨w.heap.size + 1, 2, none⟩ = some (.slice ad2 ds2.length d2)) (go_keep) (first
      | (go_at_call 18; (with_reducible refine (S3.out U y18 a170 e170 d170 g170 a180 e180 d180 g180 (o17.below g18).rd (u17.below g18).rd o18.rd u18.rd).mono ?_); rintro e y19 ⟨rfl, g19⟩; have p19 := p18.trans (g19.mono p18.size); obtain ⟨z19s1a, z19s1b, z19s1c, _⟩ := cells3 HH.out.1 p19; obtain ⟨z19s2a, z19s2b, z19s2c, _⟩ := cells3 HH.out.2 p19)
      | (go_at_call 36; (with_reducible refine (CU2.out y17 p17).mono ?_); rintro e y18 ⟨a180, e180, d180, g180, rfl, o18, u18, g18⟩; have p18 := p17.trans (g18.mono p17.size); obtain ⟨z18s1a, z18s1b, z18s1c, _⟩ := cells3 HH.out.1 p18; obtain ⟨z18s2a, z18s2b, z18s2c, _⟩ := cells3 HH.out.2 p18)
      | (go_at_call 35; (with_reducible refine (CU1.out y16 p16).mono ?_); rintro e y17 ⟨a170, e170, d170, g170, rfl, o17, u17, g17⟩; have p17 := p16.trans (g17.mono p16.size); obtain ⟨z17s1a, z17s1b, z17s1c, _⟩ := cells3 HH.out.1 p17; obtain ⟨z17s2a, z17s2b, z17s2c, _⟩ := cells3 HH.out.2 p17)
      | (go_at_call 18; (with_reducible refine (S3.out M y15 a140 e140 d140 g140 a150 e150 d150 g150 (o14.below g15).rd (u14.below g15).rd o15.rd u15.rd).mono ?_); rintro e y16 ⟨rfl, g16⟩; have p16 := p15.trans (g16.mono p15.size); obtain ⟨z16s1a, z16s1b, z16s1c, _⟩ := cells3 HH.out.1 p16; obtain ⟨z16s2a, z16s2b, z16s2c, _⟩ := cells3 HH.out.2 p16)
      | (go_at_call 34; (with_reducible refine (CM2.out y14 p14).mono ?_); rintro e y15 ⟨a150, e150, d150, g150, rfl, o15, u15, g15⟩; have p15 := p14.trans (g15.mono p14.size); obtain ⟨z15s1a, z15s1b, z15s1c, _⟩ := cells3 HH.out.1 p15; obtain ⟨z15s2a, z15s2b, z15s2c, _⟩ := cells3 HH.out.2 p15)
      | (go_at_call 33; (with_reducible refine (CM1.out y13 p13).mono ?_); rintro e y14 ⟨a140, e140, d140, g140, rfl, o14, u14, g14⟩; have p14 := p13.trans (g14.mono p13.size); obtain ⟨z14s1a, z14s1b, z14s1c, _⟩ := cells3 HH.out.1 p14; obtain ⟨z14s2a, z14s2b, z14s2c, _⟩ := cells3 HH.out.2 p14)
      | (go_at_call 18; (with_reducible refine (S3.out P y12 a110 e110 d110 g110 a120 e120 d120 g120 (o11.below g12).rd (u11.below g12).rd o12.rd u12.rd).mono ?_); rintro e y13 ⟨rfl, g13⟩; have p13 := p12.trans (g13.mono p12.size); obtain ⟨z13s1a, z13s1b, z13s1c, _⟩ := cells3 HH.out.1 p13; obtain ⟨z13s2a, z13s2b, z13s2c, _⟩ := cells3 HH.out.2 p13)
      | (go_at_call 32; (with_reducible refine (CP2.out y11 p11).mono ?_); rintro e y12 ⟨a120, e120, d120, g120, rfl, o12, u12, g12⟩; have p12 := p11.trans (g12.mono p11.size); obtain ⟨z12s1a, z12s1b, z12s1c, _⟩ := cells3 HH.out.1 p12; obtain ⟨z12s2a, z12s2b, z12s2c, _⟩ := cells3 HH.out.2 p12)
      | (go_at_call 31; (with_reducible refine (CP1.out y10 p10).mono ?_); rintro e y11 ⟨a110, e110, d110, g110, rfl, o11, u11, g11⟩; have p11 := p10.trans (g11.mono p10.size); obtain ⟨z11s1a, z11s1b, z11s1c, _⟩ := cells3 HH.out.1 p11; obtain ⟨z11s2a, z11s2b, z11s2c, _⟩ := cells3 HH.out.2 p11)
      | (go_at_call 18; (with_reducible refine (S3.out A y9 a80 e80 d80 g80 a90 e90 d90 g90 (o8.below g9).rd (u8.below g9).rd o9.rd u9.rd).mono ?_); rintro e y10 ⟨rfl, g10⟩; have p10 := p9.trans (g10.mono p9.size); obtain ⟨z10s1a, z10s1b, z10s1c, _⟩ := cells3 HH.out.1 p10; obtain ⟨z10s2a, z10s2b, z10s2c, _⟩ := cells3 HH.out.2 p10)
      | (go_at_call 30; (with_reducible refine (CA2.out y8 p8).mono ?_); rintro e y9 ⟨a90, e90, d90, g90, rfl, o9, u9, g9⟩; have p9 := p8.trans (g9.mono p8.size); obtain ⟨z9s1a, z9s1b, z9s1c, _⟩ := cells3 HH.out.1 p9; obtain ⟨z9s2a, z9s2b, z9s2c, _⟩ := cells3 HH.out.2 p9)
      | (go_at_call 29; (with_reducible refine (CA1.out y7 p7).mono ?_); rintro e y8 ⟨a80, e80, d80, g80, rfl, o8, u8, g8⟩; have p8 := p7.trans (g8.mono p7.size); obtain ⟨z8s1a, z8s1b, z8s1c, _⟩ := cells3 HH.out.1 p8; obtain ⟨z8s2a, z8s2b, z8s2c, _⟩ := cells3 HH.out.2 p8)
      | (go_at_call 18; (with_reducible refine (S3.out N y6 a50 e50 d50 g50 a60 e60 d60 g60 (o5.below g6).rd (u5.below g6).rd o6.rd u6.rd).mono ?_); rintro e y7 ⟨rfl, g7⟩; have p7 := p6.trans (g7.mono p6.size); obtain ⟨z7s1a, z7s1b, z7s1c, _⟩ := cells3 HH.out.1 p7; obtain ⟨z7s2a, z7s2b, z7s2c, _⟩ := cells3 HH.out.2 p7)
      | (go_at_call 28; (with_reducible refine (CN2.out y5 p5).mono ?_); rintro e y6 ⟨a60, e60, d60, g60, rfl, o6, u6, g6⟩; have p6 := p5.trans (g6.mono p5.size); obtain ⟨z6s1a, z6s1b, z6s1c, _⟩ := cells3 HH.out.1 p6; obtain ⟨z6s2a, z6s2b, z6s2c, _⟩ := cells3 HH.out.2 p6)
      | (go_at_call 27; (with_reducible refine (CN1.out y4 p4).mono ?_); rintro e y5 ⟨a50, e50, d50, g50, rfl, o5, u5, g5⟩; have p5 := p4.trans (g5.mono p4.size); obtain ⟨z5s1a, z5s1b, z5s1c, _⟩ := cells3 HH.out.1 p5; obtain ⟨z5s2a, z5s2b, z5s2c, _⟩ := cells3 HH.out.2 p5)
      | (go_at_call 18; (with_reducible refine (S3.out q1 y3 a20 e20 d20 g20 a30 e30 d30 g30 (o2.below g3).rd (u2.below g3).rd o3.rd u3.rd).mono ?_); rintro e y4 ⟨rfl, g4⟩; have p4 := p3.trans (g4.mono p3.size); obtain ⟨z4s1a, z4s1b, z4s1c, _⟩ := cells3 HH.out.1 p4; obtain ⟨z4s2a, z4s2b, z4s2c, _⟩ := cells3 HH.out.2 p4)
      | (go_at_call 26; (with_reducible refine (CT2.out y2 p2).mono ?_); rintro e y3 ⟨a30, e30, d30, g30, rfl, o3, u3, g3⟩; have p3 := p2.trans (g3.mono p2.size); obtain ⟨z3s1a, z3s1b, z3s1c, _⟩ := cells3 HH.out.1 p3; obtain ⟨z3s2a, z3s2b, z3s2c, _⟩ := cells3 HH.out.2 p3)
      | (go_at_call 25; (with_reducible refine (CT1.out y1 p1).mono ?_); rintro e y2 ⟨a20, e20, d20, g20, rfl, o2, u2, g2⟩; have p2 := p1.trans (g2.mono p1.size); obtain ⟨z2s1a, z2s1b, z2s1c, _⟩ := cells3 HH.out.1 p2; obtain ⟨z2s2a, z2s2b, z2s2c, _⟩ := cells3 HH.out.2 p2)
      | (go_at_call 15; (with_reducible refine (awake3_any wc.drew (HT.out.below p0)).mono ?_); rintro e y1 ⟨rfl, g1⟩; have p1 := p0.trans (g1.mono p0.size); obtain ⟨z1s1a, z1s1b, z1s1c, _⟩ := cells3 HH.out.1 p1; obtain ⟨z1s2a, z1s2b, z1s2c, _⟩ := cells3 HH.out.2 p1))
    all_goals
      go_wp2
      go_ret
      exact ⟨rfl, HB.out.trans (p19.mono HB.out.size)⟩
end Go.Proofs.YtibfeceainemjaaGreatDoor
