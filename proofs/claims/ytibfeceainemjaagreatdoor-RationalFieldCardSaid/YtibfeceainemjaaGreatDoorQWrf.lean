/- The walk of RationalField. -/
import Derived.Test.YtibfeceainemjaaGreatDoorQ7
import Derived.Test.YtibfeceainemjaaGreatDoorQ3
import Derived.Test.YtibfeceainemjaaGreatDoorQRp3
import Derived.Test.YtibfeceainemjaaGreatDoorQRp4
import Derived.Test.YtibfeceainemjaaGreatDoorQRp5
import Derived.Test.YtibfeceainemjaaGreatDoorQ4

set_option linter.unusedVariables false
set_option linter.unusedSimpArgs false
set_option linter.unusedSectionVars false

namespace Go.Proofs.YtibfeceainemjaaGreatDoor
open Go.RowKit Num


theorem cmpQ_in3 (a b : Rat) : cmpQ a b = -1 ∨ cmpQ a b = 0 ∨ cmpQ a b = 1 := by
  unfold cmpQ
  by_cases h1 : a < b
  · simp [h1]
  · by_cases h2 : b < a <;> simp [h1, h2]
set_option maxRecDepth 100000 in
set_option maxHeartbeats 25600000 in
theorem walkRationalField (b1 b2 b3 : Bool) (ao1 : Option Addr) (c1 : Nat) (xs1 : List Nat) (ad1 : Option Addr) (d1 : Nat) (ds1 : List Nat) (ao2 : Option Addr) (c2 : Nat) (xs2 : List Nat) (ad2 : Option Addr) (d2 : Nat) (ds2 : List Nat) (ao3 : Option Addr) (c3 : Nat) (xs3 : List Nat) (ad3 : Option Addr) (d3 : Nat) (ds3 : List Nat) (w : World) (ha1 : Rd w ao1 c1 xs1) (hd1 : Rd w ad1 d1 ds1) (ha2 : Rd w ao2 c2 xs2) (hd2 : Rd w ad2 d2 ds2) (ha3 : Rd w ao3 c3 xs3) (hd3 : Rd w ad3 d3 ds3) (hT : Tb w) :
    Calls Tryz.prog 7 #[.agg #[.bool b1, .slice ao1 xs1.length c1, .slice ad1 ds1.length d1], .agg #[.bool b2, .slice ao2 xs2.length c2, .slice ad2 ds2.length d2], .agg #[.bool b3, .slice ao3 xs3.length c3, .slice ad3 ds3.length d3]] w (RetB (.bool true) w) := by
  have hle1a := ha1.le
  have hle1b := ha1.cm
  have hle1c := hd1.le
  have hle1d := hd1.cm
  have hle2a := ha2.le
  have hle2b := ha2.cm
  have hle2c := hd2.le
  have hle2d := hd2.cm
  have hle3a := ha3.le
  have hle3b := ha3.cm
  have hle3c := hd3.le
  have hle3d := hd3.cm
  by_cases hx1 : xs1.length ≤ 4 ∧ ds1.length ≤ 4
  case neg =>
    have hB := A3_below w (.cells #[.bool b1, .slice ao1 xs1.length c1, .slice ad1 ds1.length d1] 26) (.cells #[.bool b2, .slice ao2 xs2.length c2, .slice ad2 ds2.length d2] 26) (.cells #[.bool b3, .slice ao3 xs3.length c3, .slice ad3 ds3.length d3] 26)
    have HH := hid (A3_heap w (.cells #[.bool b1, .slice ao1 xs1.length c1, .slice ad1 ds1.length d1] 26) (.cells #[.bool b2, .slice ao2 xs2.length c2, .slice ad2 ds2.length d2] 26) (.cells #[.bool b3, .slice ao3 xs3.length c3, .slice ad3 ds3.length d3] 26))
    have HSZ := hid (A3_size w (.cells #[.bool b1, .slice ao1 xs1.length c1, .slice ad1 ds1.length d1] 26) (.cells #[.bool b2, .slice ao2 xs2.length c2, .slice ad2 ds2.length d2] 26) (.cells #[.bool b3, .slice ao3 xs3.length c3, .slice ad3 ds3.length d3] 26))
    have HB := hid hB
    have HR := hid (And.intro (And.intro (ha1.below hB) (hd1.below hB)) (And.intro (And.intro (ha2.below hB) (hd2.below hB)) (And.intro (ha3.below hB) (hd3.below hB))))
    have HT := hid (hT.below hB)
    unfold A3 at HH HSZ HB HR HT
    clear ha1 hd1 ha2 hd2 ha3 hd3 hT hB
    have n01 : ¬ (w.heap.size = w.heap.size + 1 + 1) := by omega
    have n02 : ¬ (w.heap.size + 1 + 1 = w.heap.size) := by omega
    have n03 : ¬ (w.heap.size + 1 = w.heap.size + 1 + 1) := by omega
    have n04 : ¬ (w.heap.size + 1 + 1 = w.heap.size + 1) := by omega
    go_enter Tryz.func7, Tryz.ntmps7
    go_wp2_with fail
    obtain ⟨w0, hw0⟩ : ∃ x, x = ((w.alloc (.cells #[.bool b1, .slice ao1 xs1.length c1, .slice ad1 ds1.length d1] 26)).alloc (.cells #[.bool b2, .slice ao2 xs2.length c2, .slice ad2 ds2.length d2] 26)).alloc (.cells #[.bool b3, .slice ao3 xs3.length c3, .slice ad3 ds3.length d3] 26) := ⟨_, rfl⟩
    rw [← hw0] at HH HSZ HB HR HT ⊢
    clear hw0
    have k0 : Below w0.heap.size w0 w0 := Below.refl _ _
    obtain ⟨s1a, s1b, s1c, _⟩ := cells3 HH.out.1 k0; obtain ⟨s2a, s2b, s2c, _⟩ := cells3 HH.out.2.1 k0; obtain ⟨s3a, s3b, s3c, _⟩ := cells3 HH.out.2.2 k0
    have q1 := smallrat_any b1 ao1 ad1 xs1.length c1 ds1.length d1 false w0 (by omega) (by omega) (by simp; omega)
    refine q1.mono ?_
    rintro e w1 ⟨rfl, f1⟩
    clear s1a s1b s1c s2a s2b s2c s3a s3b s3c q1
    have k1 := k0.trans (f1.mono k0.size)
    obtain ⟨s1a, s1b, s1c, _⟩ := cells3 HH.out.1 k1; obtain ⟨s2a, s2b, s2c, _⟩ := cells3 HH.out.2.1 k1; obtain ⟨s3a, s3b, s3c, _⟩ := cells3 HH.out.2.2 k1
    clear f1 k0
    have hk := awake3_any w1 (HT.out.below k1)
    go_wp2_with fail
    refine hk.mono ?_
    rintro e wz ⟨rfl, fz⟩
    have kz := HB.out.trans ((k1.trans (fz.mono k1.size)).mono HB.out.size)
    clear hk fz k1 s1a s1b s1c s2a s2b s2c s3a s3b s3c
    go_wp2
    go_ret
    exact ⟨rfl, kz⟩
  by_cases hx2 : xs2.length ≤ 4 ∧ ds2.length ≤ 4
  case neg =>
    have hB := A3_below w (.cells #[.bool b1, .slice ao1 xs1.length c1, .slice ad1 ds1.length d1] 26) (.cells #[.bool b2, .slice ao2 xs2.length c2, .slice ad2 ds2.length d2] 26) (.cells #[.bool b3, .slice ao3 xs3.length c3, .slice ad3 ds3.length d3] 26)
    have HH := hid (A3_heap w (.cells #[.bool b1, .slice ao1 xs1.length c1, .slice ad1 ds1.length d1] 26) (.cells #[.bool b2, .slice ao2 xs2.length c2, .slice ad2 ds2.length d2] 26) (.cells #[.bool b3, .slice ao3 xs3.length c3, .slice ad3 ds3.length d3] 26))
    have HSZ := hid (A3_size w (.cells #[.bool b1, .slice ao1 xs1.length c1, .slice ad1 ds1.length d1] 26) (.cells #[.bool b2, .slice ao2 xs2.length c2, .slice ad2 ds2.length d2] 26) (.cells #[.bool b3, .slice ao3 xs3.length c3, .slice ad3 ds3.length d3] 26))
    have HB := hid hB
    have HR := hid (And.intro (And.intro (ha1.below hB) (hd1.below hB)) (And.intro (And.intro (ha2.below hB) (hd2.below hB)) (And.intro (ha3.below hB) (hd3.below hB))))
    have HT := hid (hT.below hB)
    unfold A3 at HH HSZ HB HR HT
    clear ha1 hd1 ha2 hd2 ha3 hd3 hT hB
    have n01 : ¬ (w.heap.size = w.heap.size + 1 + 1) := by omega
    have n02 : ¬ (w.heap.size + 1 + 1 = w.heap.size) := by omega
    have n03 : ¬ (w.heap.size + 1 = w.heap.size + 1 + 1) := by omega
    have n04 : ¬ (w.heap.size + 1 + 1 = w.heap.size + 1) := by omega
    go_enter Tryz.func7, Tryz.ntmps7
    go_wp2_with fail
    obtain ⟨w0, hw0⟩ : ∃ x, x = ((w.alloc (.cells #[.bool b1, .slice ao1 xs1.length c1, .slice ad1 ds1.length d1] 26)).alloc (.cells #[.bool b2, .slice ao2 xs2.length c2, .slice ad2 ds2.length d2] 26)).alloc (.cells #[.bool b3, .slice ao3 xs3.length c3, .slice ad3 ds3.length d3] 26) := ⟨_, rfl⟩
    rw [← hw0] at HH HSZ HB HR HT ⊢
    clear hw0
    have k0 : Below w0.heap.size w0 w0 := Below.refl _ _
    obtain ⟨s1a, s1b, s1c, _⟩ := cells3 HH.out.1 k0; obtain ⟨s2a, s2b, s2c, _⟩ := cells3 HH.out.2.1 k0; obtain ⟨s3a, s3b, s3c, _⟩ := cells3 HH.out.2.2 k0
    have q1 := smallrat_any b1 ao1 ad1 xs1.length c1 ds1.length d1 true w0 (by omega) (by omega) (by simp; omega)
    refine q1.mono ?_
    rintro e w1 ⟨rfl, f1⟩
    clear s1a s1b s1c s2a s2b s2c s3a s3b s3c q1
    have k1 := k0.trans (f1.mono k0.size)
    obtain ⟨s1a, s1b, s1c, _⟩ := cells3 HH.out.1 k1; obtain ⟨s2a, s2b, s2c, _⟩ := cells3 HH.out.2.1 k1; obtain ⟨s3a, s3b, s3c, _⟩ := cells3 HH.out.2.2 k1
    clear f1 k0
    have q2 := smallrat_any b2 ao2 ad2 xs2.length c2 ds2.length d2 false w1 (by omega) (by omega) (by simp; omega)
    go_wp2_with fail
    refine q2.mono ?_
    rintro e w2 ⟨rfl, f2⟩
    clear s1a s1b s1c s2a s2b s2c s3a s3b s3c q2
    have k2 := k1.trans (f2.mono k1.size)
    obtain ⟨s1a, s1b, s1c, _⟩ := cells3 HH.out.1 k2; obtain ⟨s2a, s2b, s2c, _⟩ := cells3 HH.out.2.1 k2; obtain ⟨s3a, s3b, s3c, _⟩ := cells3 HH.out.2.2 k2
    clear f2 k1
    have hk := awake3_any w2 (HT.out.below k2)
    go_wp2_with fail
    refine hk.mono ?_
    rintro e wz ⟨rfl, fz⟩
    have kz := HB.out.trans ((k2.trans (fz.mono k2.size)).mono HB.out.size)
    clear hk fz k2 s1a s1b s1c s2a s2b s2c s3a s3b s3c
    go_wp2
    go_ret
    exact ⟨rfl, kz⟩
  by_cases hx3 : xs3.length ≤ 4 ∧ ds3.length ≤ 4
  case neg =>
    have hB := A3_below w (.cells #[.bool b1, .slice ao1 xs1.length c1, .slice ad1 ds1.length d1] 26) (.cells #[.bool b2, .slice ao2 xs2.length c2, .slice ad2 ds2.length d2] 26) (.cells #[.bool b3, .slice ao3 xs3.length c3, .slice ad3 ds3.length d3] 26)
    have HH := hid (A3_heap w (.cells #[.bool b1, .slice ao1 xs1.length c1, .slice ad1 ds1.length d1] 26) (.cells #[.bool b2, .slice ao2 xs2.length c2, .slice ad2 ds2.length d2] 26) (.cells #[.bool b3, .slice ao3 xs3.length c3, .slice ad3 ds3.length d3] 26))
    have HSZ := hid (A3_size w (.cells #[.bool b1, .slice ao1 xs1.length c1, .slice ad1 ds1.length d1] 26) (.cells #[.bool b2, .slice ao2 xs2.length c2, .slice ad2 ds2.length d2] 26) (.cells #[.bool b3, .slice ao3 xs3.length c3, .slice ad3 ds3.length d3] 26))
    have HB := hid hB
    have HR := hid (And.intro (And.intro (ha1.below hB) (hd1.below hB)) (And.intro (And.intro (ha2.below hB) (hd2.below hB)) (And.intro (ha3.below hB) (hd3.below hB))))
    have HT := hid (hT.below hB)
    unfold A3 at HH HSZ HB HR HT
    clear ha1 hd1 ha2 hd2 ha3 hd3 hT hB
    have n01 : ¬ (w.heap.size = w.heap.size + 1 + 1) := by omega
    have n02 : ¬ (w.heap.size + 1 + 1 = w.heap.size) := by omega
    have n03 : ¬ (w.heap.size + 1 = w.heap.size + 1 + 1) := by omega
    have n04 : ¬ (w.heap.size + 1 + 1 = w.heap.size + 1) := by omega
    go_enter Tryz.func7, Tryz.ntmps7
    go_wp2_with fail
    obtain ⟨w0, hw0⟩ : ∃ x, x = ((w.alloc (.cells #[.bool b1, .slice ao1 xs1.length c1, .slice ad1 ds1.length d1] 26)).alloc (.cells #[.bool b2, .slice ao2 xs2.length c2, .slice ad2 ds2.length d2] 26)).alloc (.cells #[.bool b3, .slice ao3 xs3.length c3, .slice ad3 ds3.length d3] 26) := ⟨_, rfl⟩
    rw [← hw0] at HH HSZ HB HR HT ⊢
    clear hw0
    have k0 : Below w0.heap.size w0 w0 := Below.refl _ _
    obtain ⟨s1a, s1b, s1c, _⟩ := cells3 HH.out.1 k0; obtain ⟨s2a, s2b, s2c, _⟩ := cells3 HH.out.2.1 k0; obtain ⟨s3a, s3b, s3c, _⟩ := cells3 HH.out.2.2 k0
    have q1 := smallrat_any b1 ao1 ad1 xs1.length c1 ds1.length d1 true w0 (by omega) (by omega) (by simp; omega)
    refine q1.mono ?_
    rintro e w1 ⟨rfl, f1⟩
    clear s1a s1b s1c s2a s2b s2c s3a s3b s3c q1
    have k1 := k0.trans (f1.mono k0.size)
    obtain ⟨s1a, s1b, s1c, _⟩ := cells3 HH.out.1 k1; obtain ⟨s2a, s2b, s2c, _⟩ := cells3 HH.out.2.1 k1; obtain ⟨s3a, s3b, s3c, _⟩ := cells3 HH.out.2.2 k1
    clear f1 k0
    have q2 := smallrat_any b2 ao2 ad2 xs2.length c2 ds2.length d2 true w1 (by omega) (by omega) (by simp; omega)
    go_wp2_with fail
    refine q2.mono ?_
    rintro e w2 ⟨rfl, f2⟩
    clear s1a s1b s1c s2a s2b s2c s3a s3b s3c q2
    have k2 := k1.trans (f2.mono k1.size)
    obtain ⟨s1a, s1b, s1c, _⟩ := cells3 HH.out.1 k2; obtain ⟨s2a, s2b, s2c, _⟩ := cells3 HH.out.2.1 k2; obtain ⟨s3a, s3b, s3c, _⟩ := cells3 HH.out.2.2 k2
    clear f2 k1
    have q3 := smallrat_any b3 ao3 ad3 xs3.length c3 ds3.length d3 false w2 (by omega) (by omega) (by simp; omega)
    go_wp2_with fail
    refine q3.mono ?_
    rintro e w3 ⟨rfl, f3⟩
    clear s1a s1b s1c s2a s2b s2c s3a s3b s3c q3
    have k3 := k2.trans (f3.mono k2.size)
    obtain ⟨s1a, s1b, s1c, _⟩ := cells3 HH.out.1 k3; obtain ⟨s2a, s2b, s2c, _⟩ := cells3 HH.out.2.1 k3; obtain ⟨s3a, s3b, s3c, _⟩ := cells3 HH.out.2.2 k3
    clear f3 k2
    have hk := awake3_any w3 (HT.out.below k3)
    go_wp2_with fail
    refine hk.mono ?_
    rintro e wz ⟨rfl, fz⟩
    have kz := HB.out.trans ((k3.trans (fz.mono k3.size)).mono HB.out.size)
    clear hk fz k3 s1a s1b s1c s2a s2b s2c s3a s3b s3c
    go_wp2
    go_ret
    exact ⟨rfl, kz⟩
  have hR1 : Rq w b1 ao1 c1 xs1 ad1 d1 ds1 (rv b1 (val xs1) (val ds1)) 4 := ⟨ha1, hd1, rfl, hx1.1, hx1.2⟩
  obtain ⟨q1, hq1⟩ : ∃ q, q = rv b1 (val xs1) (val ds1) := ⟨_, rfl⟩
  rw [← hq1] at hR1
  clear hq1
  have hR2 : Rq w b2 ao2 c2 xs2 ad2 d2 ds2 (rv b2 (val xs2) (val ds2)) 4 := ⟨ha2, hd2, rfl, hx2.1, hx2.2⟩
  obtain ⟨q2, hq2⟩ : ∃ q, q = rv b2 (val xs2) (val ds2) := ⟨_, rfl⟩
  rw [← hq2] at hR2
  clear hq2
  have hR3 : Rq w b3 ao3 c3 xs3 ad3 d3 ds3 (rv b3 (val xs3) (val ds3)) 4 := ⟨ha3, hd3, rfl, hx3.1, hx3.2⟩
  obtain ⟨q3, hq3⟩ : ∃ q, q = rv b3 (val xs3) (val ds3) := ⟨_, rfl⟩
  rw [← hq3] at hR3
  clear hq3
  have hB := A3_below w (.cells #[.bool b1, .slice ao1 xs1.length c1, .slice ad1 ds1.length d1] 26) (.cells #[.bool b2, .slice ao2 xs2.length c2, .slice ad2 ds2.length d2] 26) (.cells #[.bool b3, .slice ao3 xs3.length c3, .slice ad3 ds3.length d3] 26)
  have HH := hid (A3_heap w (.cells #[.bool b1, .slice ao1 xs1.length c1, .slice ad1 ds1.length d1] 26) (.cells #[.bool b2, .slice ao2 xs2.length c2, .slice ad2 ds2.length d2] 26) (.cells #[.bool b3, .slice ao3 xs3.length c3, .slice ad3 ds3.length d3] 26))
  have HSZ := hid (A3_size w (.cells #[.bool b1, .slice ao1 xs1.length c1, .slice ad1 ds1.length d1] 26) (.cells #[.bool b2, .slice ao2 xs2.length c2, .slice ad2 ds2.length d2] 26) (.cells #[.bool b3, .slice ao3 xs3.length c3, .slice ad3 ds3.length d3] 26))
  have HB := hid hB
  have HR := hid (And.intro (And.intro (ha1.below hB) (hd1.below hB)) (And.intro (And.intro (ha2.below hB) (hd2.below hB)) (And.intro (ha3.below hB) (hd3.below hB))))
  have HT := hid (hT.below hB)
  unfold A3 at HH HSZ HB HR HT
  clear ha1 hd1 ha2 hd2 ha3 hd3 hT hB
  have n01 : ¬ (w.heap.size = w.heap.size + 1 + 1) := by omega
  have n02 : ¬ (w.heap.size + 1 + 1 = w.heap.size) := by omega
  have n03 : ¬ (w.heap.size + 1 = w.heap.size + 1 + 1) := by omega
  have n04 : ¬ (w.heap.size + 1 + 1 = w.heap.size + 1) := by omega
  go_enter Tryz.func7, Tryz.ntmps7
  go_wp2_with fail
  obtain ⟨w0, hw0⟩ : ∃ x, x = ((w.alloc (.cells #[.bool b1, .slice ao1 xs1.length c1, .slice ad1 ds1.length d1] 26)).alloc (.cells #[.bool b2, .slice ao2 xs2.length c2, .slice ad2 ds2.length d2] 26)).alloc (.cells #[.bool b3, .slice ao3 xs3.length c3, .slice ad3 ds3.length d3] 26) := ⟨_, rfl⟩
  rw [← hw0] at HH HSZ HB HR HT ⊢
  clear hw0
  have k0 : Below w0.heap.size w0 w0 := Below.refl _ _
  obtain ⟨s1a, s1b, s1c, _⟩ := cells3 HH.out.1 k0; obtain ⟨s2a, s2b, s2c, _⟩ := cells3 HH.out.2.1 k0; obtain ⟨s3a, s3b, s3c, _⟩ := cells3 HH.out.2.2 k0
  have q1 := smallrat_any b1 ao1 ad1 xs1.length c1 ds1.length d1 true w0 (by omega) (by omega) (by simp; omega)
  refine q1.mono ?_
  rintro e w1 ⟨rfl, f1⟩
  clear s1a s1b s1c s2a s2b s2c s3a s3b s3c q1
  have k1 := k0.trans (f1.mono k0.size)
  obtain ⟨s1a, s1b, s1c, _⟩ := cells3 HH.out.1 k1; obtain ⟨s2a, s2b, s2c, _⟩ := cells3 HH.out.2.1 k1; obtain ⟨s3a, s3b, s3c, _⟩ := cells3 HH.out.2.2 k1
  clear f1 k0
  have q2 := smallrat_any b2 ao2 ad2 xs2.length c2 ds2.length d2 true w1 (by omega) (by omega) (by simp; omega)
  go_wp2_with fail
  refine q2.mono ?_
  rintro e w2 ⟨rfl, f2⟩
  clear s1a s1b s1c s2a s2b s2c s3a s3b s3c q2
  have k2 := k1.trans (f2.mono k1.size)
  obtain ⟨s1a, s1b, s1c, _⟩ := cells3 HH.out.1 k2; obtain ⟨s2a, s2b, s2c, _⟩ := cells3 HH.out.2.1 k2; obtain ⟨s3a, s3b, s3c, _⟩ := cells3 HH.out.2.2 k2
  clear f2 k1
  have q3 := smallrat_any b3 ao3 ad3 xs3.length c3 ds3.length d3 true w2 (by omega) (by omega) (by simp; omega)
  go_wp2_with fail
  refine q3.mono ?_
  rintro e w3 ⟨rfl, f3⟩
  clear s1a s1b s1c s2a s2b s2c s3a s3b s3c q3
  have k3 := k2.trans (f3.mono k2.size)
  obtain ⟨s1a, s1b, s1c, _⟩ := cells3 HH.out.1 k3; obtain ⟨s2a, s2b, s2c, _⟩ := cells3 HH.out.2.1 k3; obtain ⟨s3a, s3b, s3c, _⟩ := cells3 HH.out.2.2 k3
  clear f3 k2
  have HRR := hid (And.intro (hR1.below HB.out) (And.intro (hR2.below HB.out) (hR3.below HB.out)))
  have z1 := hR1.sz
  have z2 := hR2.sz
  have z3 := hR3.sz
  clear hR1 hR2 hR3
  obtain ⟨S12, hS12⟩ : ∃ q, q = q1 + q2 := ⟨_, rfl⟩
  obtain ⟨S23, hS23⟩ : ∃ q, q = q2 + q3 := ⟨_, rfl⟩
  obtain ⟨T1, hT1⟩ : ∃ q, q = q1 + q2 + q3 := ⟨_, rfl⟩
  obtain ⟨P12, hP12⟩ : ∃ q, q = q1 * q2 := ⟨_, rfl⟩
  obtain ⟨P23, hP23⟩ : ∃ q, q = q2 * q3 := ⟨_, rfl⟩
  obtain ⟨P13, hP13⟩ : ∃ q, q = q1 * q3 := ⟨_, rfl⟩
  obtain ⟨T2, hT2⟩ : ∃ q, q = q1 * q2 * q3 := ⟨_, rfl⟩
  obtain ⟨T3, hT3⟩ : ∃ q, q = q1 * (q2 + q3) := ⟨_, rfl⟩
  obtain ⟨Zr, hZr⟩ : ∃ q, q = q1 - q1 := ⟨_, rfl⟩
  obtain ⟨Q, hQ⟩ : ∃ q, q = q1 / q2 := ⟨_, rfl⟩
  have s12 : Sz S12 100 := by rw [hS12]; exact (z1.add z2).mono (by omega)
  have s23 : Sz S23 100 := by rw [hS23]; exact (z2.add z3).mono (by omega)
  have t12 : Sz P12 100 := by rw [hP12]; exact (z1.mul z2).mono (by omega)
  have t23 : Sz P23 100 := by rw [hP23]; exact (z2.mul z3).mono (by omega)
  have t13 : Sz P13 100 := by rw [hP13]; exact (z1.mul z3).mono (by omega)
  have sZ : Sz Zr 100 := by rw [hZr]; exact (z1.sub z1).mono (by omega)
  have sQ : Sz Q 100 := by rw [hQ]; exact (z1.div z2).mono (by omega)
  have CA12 := hid (fun w' (h : Below w0.heap.size w0 w') => (add3_any (HRR.out.1.below h) (HRR.out.2.1.below h) (by omega) (by omega) (HT.out.below h)).mono fun _ _ r => RetRat.of r (show _ = S12 from hS12.symm))
  have CA23 := hid (fun w' (h : Below w0.heap.size w0 w') => (add3_any (HRR.out.2.1.below h) (HRR.out.2.2.below h) (by omega) (by omega) (HT.out.below h)).mono fun _ _ r => RetRat.of r (show _ = S23 from hS23.symm))
  have CM12 := hid (fun w' (h : Below w0.heap.size w0 w') => (mul3_any (HRR.out.1.below h) (HRR.out.2.1.below h) (by omega) (by omega) (HT.out.below h)).mono fun _ _ r => RetRat.of r (show _ = P12 from hP12.symm))
  have CM23 := hid (fun w' (h : Below w0.heap.size w0 w') => (mul3_any (HRR.out.2.1.below h) (HRR.out.2.2.below h) (by omega) (by omega) (HT.out.below h)).mono fun _ _ r => RetRat.of r (show _ = P23 from hP23.symm))
  have CM13 := hid (fun w' (h : Below w0.heap.size w0 w') => (mul3_any (HRR.out.1.below h) (HRR.out.2.2.below h) (by omega) (by omega) (HT.out.below h)).mono fun _ _ r => RetRat.of r (show _ = P13 from hP13.symm))
  have CSS := hid (fun w' (h : Below w0.heap.size w0 w') => (sub3_any (HRR.out.1.below h) (HRR.out.1.below h) (by omega) (by omega) (HT.out.below h)).mono fun _ _ r => RetRat.of r (show _ = Zr from hZr.symm))
  have DA1 := hid (fun w' B1 x1 x2 x3 x4 (o1 : Own B1 w' x1 x2 (nd S12.num.natAbs)) (u1 : Own B1 w' x3 x4 (nd S12.den)) (h : Below w0.heap.size w0 w') => (add3_any (Rq.own (q := S12) (n := 100) o1 u1 s12) (HRR.out.2.2.below h) (by omega) (by omega) (HT.out.below h)).mono fun _ _ r => RetRat.of r (show _ = T1 from by rw [hS12, hT1]))
  have DA2 := hid (fun w' B1 x1 x2 x3 x4 (o1 : Own B1 w' x1 x2 (nd S23.num.natAbs)) (u1 : Own B1 w' x3 x4 (nd S23.den)) (h : Below w0.heap.size w0 w') => (add3_any (HRR.out.1.below h) (Rq.own (q := S23) (n := 100) o1 u1 s23) (by omega) (by omega) (HT.out.below h)).mono fun _ _ r => RetRat.of r (show _ = T1 from by rw [hS23, hT1, Rat.add_assoc]))
  have DM1 := hid (fun w' B1 x1 x2 x3 x4 (o1 : Own B1 w' x1 x2 (nd P12.num.natAbs)) (u1 : Own B1 w' x3 x4 (nd P12.den)) (h : Below w0.heap.size w0 w') => (mul3_any (Rq.own (q := P12) (n := 100) o1 u1 t12) (HRR.out.2.2.below h) (by omega) (by omega) (HT.out.below h)).mono fun _ _ r => RetRat.of r (show _ = T2 from by rw [hP12, hT2]))
  have DM2 := hid (fun w' B1 x1 x2 x3 x4 (o1 : Own B1 w' x1 x2 (nd P23.num.natAbs)) (u1 : Own B1 w' x3 x4 (nd P23.den)) (h : Below w0.heap.size w0 w') => (mul3_any (HRR.out.1.below h) (Rq.own (q := P23) (n := 100) o1 u1 t23) (by omega) (by omega) (HT.out.below h)).mono fun _ _ r => RetRat.of r (show _ = T2 from by rw [hP23, hT2, Rat.mul_assoc]))
  have DM3 := hid (fun w' B1 x1 x2 x3 x4 (o1 : Own B1 w' x1 x2 (nd S23.num.natAbs)) (u1 : Own B1 w' x3 x4 (nd S23.den)) (h : Below w0.heap.size w0 w') => (mul3_any (HRR.out.1.below h) (Rq.own (q := S23) (n := 100) o1 u1 s23) (by omega) (by omega) (HT.out.below h)).mono fun _ _ r => RetRat.of r (show _ = T3 from by rw [hS23, hT3]))
  have DA3 := hid (fun w' B1 x1 x2 x3 x4 (o1 : Own B1 w' x1 x2 (nd P12.num.natAbs)) (u1 : Own B1 w' x3 x4 (nd P12.den)) B2 y1 y2 y3 y4 (o2 : Own B2 w' y1 y2 (nd P13.num.natAbs)) (u2 : Own B2 w' y3 y4 (nd P13.den)) (h : Below w0.heap.size w0 w') => (add3_any (Rq.own (q := P12) (n := 100) o1 u1 t12) (Rq.own (q := P13) (n := 100) o2 u2 t13) (by omega) (by omega) (HT.out.below h)).mono fun _ _ r => RetRat.of r (show _ = T3 from by rw [hP12, hP13, hT3, Rat.mul_add]))
  have DSG := hid (fun w' B1 x1 x2 x3 x4 (o1 : Own B1 w' x1 x2 (nd Zr.num.natAbs)) (u1 : Own B1 w' x3 x4 (nd Zr.den)) => show Calls Tryz.prog 21 #[.agg #[.bool (decide (Zr.num < 0)), .slice x1 (nd Zr.num.natAbs).length x2, .slice x3 (nd Zr.den).length x4]] w' (RetB (.int .i64 0) w') from by
    have h3 := sign3_any (Rq.own o1 u1 sZ) (by omega)
    rw [show sgnQ Zr = 0 by rw [hZr, cmpQ_sub]; exact cmpQ_self _] at h3
    exact h3)
  have S3 := hid (fun (q : Rat) w' a c d e a' c' d' e' (o1 : Rd w' a c (nd q.num.natAbs)) (o2 : Rd w' d e (nd q.den)) (o3 : Rd w' a' c' (nd q.num.natAbs)) (o4 : Rd w' d' e' (nd q.den)) => same3_any (decide (q.num < 0)) (decide (q.num < 0)) a d a' d' c e c' e' (nd q.num.natAbs) (nd q.den) (nd q.num.natAbs) (nd q.den) true w' o1 o2 o3 o4 (by simp))
  have CDV := hid (fun w' (h : Below w0.heap.size w0 w') => show Calls Tryz.prog 16 #[.agg #[.bool b1, .slice ao1 xs1.length c1, .slice ad1 ds1.length d1], .agg #[.bool b2, .slice ao2 xs2.length c2, .slice ad2 ds2.length d2]] w' (RetRatE Q (zeq q2) w') from by
    rw [hQ]; exact div3_any (HRR.out.1.below h) (HRR.out.2.1.below h) (by omega) (by omega) (HT.out.below h))
  have CSG := hid (fun w' (h : Below w0.heap.size w0 w') => sign3_any (HRR.out.2.1.below h) (by omega))
  have CQ := hid (fun (h0 : q2 ≠ 0) w' B1 x1 x2 x3 x4 (o1 : Own B1 w' x1 x2 (nd Q.num.natAbs)) (u1 : Own B1 w' x3 x4 (nd Q.den)) (h : Below w0.heap.size w0 w') => (mul3_any (Rq.own o1 u1 sQ) (HRR.out.2.1.below h) (by omega) (by omega) (HT.out.below h)).mono fun _ _ r => RetRat.of r (show _ = q1 from by rw [hQ]; exact Rat.div_mul_cancel h0))
  have CC := hid (fun w' B1 x1 x2 x3 x4 (o1 : Own B1 w' x1 x2 (nd q1.num.natAbs)) (u1 : Own B1 w' x3 x4 (nd q1.den)) (h : Below w0.heap.size w0 w') => show Calls Tryz.prog 23 #[.agg #[.bool (decide (q1.num < 0)), .slice x1 (nd q1.num.natAbs).length x2, .slice x3 (nd q1.den).length x4], .agg #[.bool b1, .slice ao1 xs1.length c1, .slice ad1 ds1.length d1]] w' (RetB (.int .i64 0) w') from by
    have h3 := cmp3_any (Rq.own o1 u1 z1) (HRR.out.1.below h) (by omega) (by omega) (HT.out.below h)
    rw [cmpQ_self] at h3
    exact h3)
  have HG := hid (show (q2 = 0 → sgnQ q2 = 0 ∧ zeq q2 = 3) ∧ (q2 ≠ 0 → (sgnQ q2 = 1 ∨ sgnQ q2 = -1) ∧ zeq q2 = 0) from by
    refine ⟨fun h => ⟨by rw [h]; rfl, if_pos h⟩, fun h => ⟨?_, if_neg h⟩⟩
    rw [sgnQ_eq]
    rcases cmpQ_in3 q2 0 with hc | hc | hc
    · exact .inr hc
    · exact absurd (cmpQ_zero.1 hc) h
    · exact .inl hc)
  obtain ⟨E, hE⟩ : ∃ e, e = zeq q2 := ⟨_, rfl⟩
  obtain ⟨G, hGG⟩ : ∃ e, e = sgnQ q2 := ⟨_, rfl⟩
  simp only [← hE] at CDV HG
  simp only [← hGG] at CSG HG
  clear hS12 hS23 hT1 hP12 hP23 hP13 hT2 hT3 hZr hQ hE hGG z1 z2 z3 s12 s23 t12 t23 t13 sZ sQ
  go_wp2_with fail
  refine (CDV.out w3 k3).mono ?_
  rintro e w4 ⟨a4, c4, d4, e4, rfl, o4, u4, f4⟩
  have hv1 := o4.rd.le
  have hv2 := o4.rd.cm
  have hv3 := u4.rd.le
  have hv4 := u4.rd.cm
  have k4 := below_al (k3.trans (f4.mono k3.size)) (.cells #[.bool (rsg Q E), .slice a4 (rnm Q E).length c4, .slice d4 (rdn Q E).length e4] 26)
  have QB := hid (heap_alloc_at w4 (.cells #[.bool (rsg Q E), .slice a4 (rnm Q E).length c4, .slice d4 (rdn Q E).length e4] 26))
  have OQ := hid (And.intro (own_al o4 (.cells #[.bool (rsg Q E), .slice a4 (rnm Q E).length c4, .slice d4 (rdn Q E).length e4] 26)) (own_al u4 (.cells #[.bool (rsg Q E), .slice a4 (rnm Q E).length c4, .slice d4 (rdn Q E).length e4] 26)))
  have ng1 : ¬ (w.heap.size = w4.heap.size) := by have := HSZ.out; have := k3.size; have := f4.size; omega
  have ng2 : ¬ (w4.heap.size = w.heap.size) := fun h => ng1 h.symm
  clear s1a s1b s1c s2a s2b s2c s3a s3b s3c o4 u4 f4 k3
  go_upto_region 4 with fail
  obtain ⟨w5, hw5⟩ : ∃ x, x = w4.alloc (.cells #[.bool (rsg Q E), .slice a4 (rnm Q E).length c4, .slice d4 (rdn Q E).length e4] 26) := ⟨_, rfl⟩
  rw [← hw5] at k4 QB OQ ⊢
  clear hw5
  have p0 : Below w0.heap.size w0 w5.drew := k4.trans (below_drewI w0.heap.size w5)
  have j0 : Below w5.heap.size w5 w5.drew := below_drewI _ _
  go_cut [46] from 29 to 46 (fun bv wx => bv = .bool false ∧ Hid (Below w0.heap.size w0 wx))
  case first =>
    obtain ⟨s1a, s1b, s1c, _⟩ := cells3 HH.out.1 k4; obtain ⟨s2a, s2b, s2c, _⟩ := cells3 HH.out.2.1 k4; obtain ⟨s3a, s3b, s3c, _⟩ := cells3 HH.out.2.2 k4
    by_cases hz : q2 = 0
    · obtain ⟨g1, g2⟩ := HG.out.1 hz
      subst g1 g2
      clear HG
      go_region_with (first
        | (go_at_call 21; (with_reducible refine (CSG.out w5.drew p0).mono ?_); rintro e y1 ⟨rfl, g1⟩; have p1 := p0.trans (g1.mono p0.size); obtain ⟨x1s1a, x1s1b, x1s1c, _⟩ := cells3 HH.out.1 p1; obtain ⟨x1s2a, x1s2b, x1s2c, _⟩ := cells3 HH.out.2.1 p1; obtain ⟨x1s3a, x1s3b, x1s3c, _⟩ := cells3 HH.out.2.2 p1))
      all_goals
        go_wp2
        go_meet
        exact ⟨rfl, p1⟩
    · obtain ⟨g1, g2⟩ := HG.out.2 hz
      subst g2
      have e1 : rnm Q 0 = nd Q.num.natAbs := rfl
      have e2 : rdn Q 0 = nd Q.den := rfl
      have e3 : rsg Q 0 = decide (Q.num < 0) := Bool.true_and _
      rw [e1, e2, e3] at QB ⊢
      rw [e1, e2] at OQ
      have CQ2 := hid (CQ.out hz)
      clear HG e1 e2 e3 hz
      obtain ⟨t0, t1, t2, _⟩ := cells3 QB.out (Below.refl _ _)
      rcases g1 with g1 | g1 <;> subst g1
      all_goals
        go_region_held3 (fun w' => w'.cell? ⟨w.heap.size, 0, none⟩ = some (.bool b1) ∧ w'.cell? ⟨w.heap.size, 1, none⟩ = some (.slice ao1 xs1.length c1) ∧ w'.cell? ⟨w.heap.size, 2, none⟩ = some (.slice ad1 ds1.length d1) ∧ w'.cell? ⟨w.heap.size + 1, 0, none⟩ = some (.bool b2) ∧ w'.cell? ⟨w.heap.size + 1, 1, none⟩ = some (.slice ao2 xs2.length c2) ∧ w'.cell? ⟨w.heap.size + 1, 2, none⟩ = some (.slice ad2 ds2.length d2) ∧ w'.cell? ⟨w.heap.size + 1 + 1, 0, none⟩ = some (.bool b3) ∧ w'.cell? ⟨w.heap.size + 1 + 1, 1, none⟩ = some (.slice ao3 xs3.length c3) ∧ w'.cell? ⟨w.heap.size + 1 + 1, 2, none⟩ = some (.slice ad3 ds3.length d3) ∧ w'.cell? ⟨w4.heap.size, 0, none⟩ = some (.bool (decide (Q.num < 0))) ∧ w'.cell? ⟨w4.heap.size, 1, none⟩ = some (.slice a4 (nd Q.num.natAbs).length c4) ∧ w'.cell? ⟨w4.heap.size, 2, none⟩ = some (.slice d4 (nd Q.den).length e4)) (go_keep) (first
          | (go_at_call 23; (with_reducible refine (CC.out y2 _ _ _ _ _ o2 u2 p2).mono ?_); rintro e y3 ⟨rfl, g3⟩; have p3 := p2.trans (g3.mono p2.size); have j3 := j2.trans (g3.mono j2.size); obtain ⟨x3s1a, x3s1b, x3s1c, _⟩ := cells3 HH.out.1 p3; obtain ⟨x3s2a, x3s2b, x3s2c, _⟩ := cells3 HH.out.2.1 p3; obtain ⟨x3s3a, x3s3b, x3s3c, _⟩ := cells3 HH.out.2.2 p3; obtain ⟨t6, t7, t8, _⟩ := cells3 QB.out j3)
          | (go_at_call 35; (with_reducible refine (CQ2.out y1 _ _ _ _ _ (OQ.out.1.below j1) (OQ.out.2.below j1) p1).mono ?_); rintro e y2 ⟨a20, e20, d20, g20, rfl, o2, u2, g2⟩; have p2 := p1.trans (g2.mono p1.size); have j2 := j1.trans (g2.mono j1.size); obtain ⟨x2s1a, x2s1b, x2s1c, _⟩ := cells3 HH.out.1 p2; obtain ⟨x2s2a, x2s2b, x2s2c, _⟩ := cells3 HH.out.2.1 p2; obtain ⟨x2s3a, x2s3b, x2s3c, _⟩ := cells3 HH.out.2.2 p2; obtain ⟨t3, t4, t5, _⟩ := cells3 QB.out j2)
          | (go_at_call 21; (with_reducible refine (CSG.out w5.drew p0).mono ?_); rintro e y1 ⟨rfl, g1x⟩; have p1 := p0.trans (g1x.mono p0.size); have j1 := j0.trans (g1x.mono j0.size); obtain ⟨x1s1a, x1s1b, x1s1c, _⟩ := cells3 HH.out.1 p1; obtain ⟨x1s2a, x1s2b, x1s2c, _⟩ := cells3 HH.out.2.1 p1; obtain ⟨x1s3a, x1s3b, x1s3c, _⟩ := cells3 HH.out.2.2 p1; obtain ⟨t9, t10, t11, _⟩ := cells3 QB.out j1))
        all_goals
          go_wp2
          go_meet
          exact ⟨rfl, p3⟩
  case rest =>
    obtain ⟨rfl, HK⟩ := hcut
    obtain ⟨s1a, s1b, s1c, _⟩ := cells3 HH.out.1 HK.out; obtain ⟨s2a, s2b, s2c, _⟩ := cells3 HH.out.2.1 HK.out; obtain ⟨s3a, s3b, s3c, _⟩ := cells3 HH.out.2.2 HK.out
    have r0 : Below w0.heap.size w0 wc.drew := HK.out.trans (below_drewI w0.heap.size wc)
    clear CQ CC CSG QB OQ k4 p0 j0
    go_wp2_with fail
    go_region_held3 (fun w' => w'.cell? ⟨w.heap.size, 0, none⟩ = some (.bool b1) ∧ w'.cell? ⟨w.heap.size, 1, none⟩ = some (.slice ao1 xs1.length c1) ∧ w'.cell? ⟨w.heap.size, 2, none⟩ = some (.slice ad1 ds1.length d1) ∧ w'.cell? ⟨w.heap.size + 1, 0, none⟩ = some (.bool b2) ∧ w'.cell? ⟨w.heap.size + 1, 1, none⟩ = some (.slice ao2 xs2.length c2) ∧ w'.cell? ⟨w.heap.size + 1, 2, none⟩ = some (.slice ad2 ds2.length d2) ∧ w'.cell? ⟨w.heap.size + 1 + 1, 0, none⟩ = some (.bool b3) ∧ w'.cell? ⟨w.heap.size + 1 + 1, 1, none⟩ = some (.slice ao3 xs3.length c3) ∧ w'.cell? ⟨w.heap.size + 1 + 1, 2, none⟩ = some (.slice ad3 ds3.length d3)) (go_keep) (first
      | (go_at_call 21; (with_reducible refine (DSG.out y18 _ _ _ _ _ o18 u18).mono ?_); rintro e y19 ⟨rfl, g19⟩; have r19 := r18.trans (g19.mono r18.size); obtain ⟨z19s1a, z19s1b, z19s1c, _⟩ := cells3 HH.out.1 r19; obtain ⟨z19s2a, z19s2b, z19s2c, _⟩ := cells3 HH.out.2.1 r19; obtain ⟨z19s3a, z19s3b, z19s3c, _⟩ := cells3 HH.out.2.2 r19)
      | (go_at_call 33; (with_reducible refine (CSS.out y17 r17).mono ?_); rintro e y18 ⟨a180, e180, d180, g180, rfl, o18, u18, g18⟩; have r18 := r17.trans (g18.mono r17.size); obtain ⟨z18s1a, z18s1b, z18s1c, _⟩ := cells3 HH.out.1 r18; obtain ⟨z18s2a, z18s2b, z18s2c, _⟩ := cells3 HH.out.2.1 r18; obtain ⟨z18s3a, z18s3b, z18s3c, _⟩ := cells3 HH.out.2.2 r18)
      | (go_at_call 18; (with_reducible refine (S3.out T3 y16 a130 e130 d130 g130 a160 e160 d160 g160 (((o13.below g14).below g15).below g16).rd (((u13.below g14).below g15).below g16).rd o16.rd u16.rd).mono ?_); rintro e y17 ⟨rfl, g17⟩; have r17 := r16.trans (g17.mono r16.size); obtain ⟨z17s1a, z17s1b, z17s1c, _⟩ := cells3 HH.out.1 r17; obtain ⟨z17s2a, z17s2b, z17s2c, _⟩ := cells3 HH.out.2.1 r17; obtain ⟨z17s3a, z17s3b, z17s3c, _⟩ := cells3 HH.out.2.2 r17)
      | (go_at_call 31; (with_reducible refine (DA3.out y15 _ _ _ _ _ (o14.below g15) (u14.below g15) _ _ _ _ _ o15 u15 r15).mono ?_); rintro e y16 ⟨a160, e160, d160, g160, rfl, o16, u16, g16⟩; have r16 := r15.trans (g16.mono r15.size); obtain ⟨z16s1a, z16s1b, z16s1c, _⟩ := cells3 HH.out.1 r16; obtain ⟨z16s2a, z16s2b, z16s2c, _⟩ := cells3 HH.out.2.1 r16; obtain ⟨z16s3a, z16s3b, z16s3c, _⟩ := cells3 HH.out.2.2 r16)
      | (go_at_call 35; (with_reducible refine (CM13.out y14 r14).mono ?_); rintro e y15 ⟨a150, e150, d150, g150, rfl, o15, u15, g15⟩; have r15 := r14.trans (g15.mono r14.size); obtain ⟨z15s1a, z15s1b, z15s1c, _⟩ := cells3 HH.out.1 r15; obtain ⟨z15s2a, z15s2b, z15s2c, _⟩ := cells3 HH.out.2.1 r15; obtain ⟨z15s3a, z15s3b, z15s3c, _⟩ := cells3 HH.out.2.2 r15)
      | (go_at_call 35; (with_reducible refine (CM12.out y13 r13).mono ?_); rintro e y14 ⟨a140, e140, d140, g140, rfl, o14, u14, g14⟩; have r14 := r13.trans (g14.mono r13.size); obtain ⟨z14s1a, z14s1b, z14s1c, _⟩ := cells3 HH.out.1 r14; obtain ⟨z14s2a, z14s2b, z14s2c, _⟩ := cells3 HH.out.2.1 r14; obtain ⟨z14s3a, z14s3b, z14s3c, _⟩ := cells3 HH.out.2.2 r14)
      | (go_at_call 35; (with_reducible refine (DM3.out y12 _ _ _ _ _ o12 u12 r12).mono ?_); rintro e y13 ⟨a130, e130, d130, g130, rfl, o13, u13, g13⟩; have r13 := r12.trans (g13.mono r12.size); obtain ⟨z13s1a, z13s1b, z13s1c, _⟩ := cells3 HH.out.1 r13; obtain ⟨z13s2a, z13s2b, z13s2c, _⟩ := cells3 HH.out.2.1 r13; obtain ⟨z13s3a, z13s3b, z13s3c, _⟩ := cells3 HH.out.2.2 r13)
      | (go_at_call 31; (with_reducible refine (CA23.out y11 r11).mono ?_); rintro e y12 ⟨a120, e120, d120, g120, rfl, o12, u12, g12⟩; have r12 := r11.trans (g12.mono r11.size); obtain ⟨z12s1a, z12s1b, z12s1c, _⟩ := cells3 HH.out.1 r12; obtain ⟨z12s2a, z12s2b, z12s2c, _⟩ := cells3 HH.out.2.1 r12; obtain ⟨z12s3a, z12s3b, z12s3c, _⟩ := cells3 HH.out.2.2 r12)
      | (go_at_call 18; (with_reducible refine (S3.out T2 y10 a80 e80 d80 g80 a100 e100 d100 g100 ((o8.below g9).below g10).rd ((u8.below g9).below g10).rd o10.rd u10.rd).mono ?_); rintro e y11 ⟨rfl, g11⟩; have r11 := r10.trans (g11.mono r10.size); obtain ⟨z11s1a, z11s1b, z11s1c, _⟩ := cells3 HH.out.1 r11; obtain ⟨z11s2a, z11s2b, z11s2c, _⟩ := cells3 HH.out.2.1 r11; obtain ⟨z11s3a, z11s3b, z11s3c, _⟩ := cells3 HH.out.2.2 r11)
      | (go_at_call 35; (with_reducible refine (DM2.out y9 _ _ _ _ _ o9 u9 r9).mono ?_); rintro e y10 ⟨a100, e100, d100, g100, rfl, o10, u10, g10⟩; have r10 := r9.trans (g10.mono r9.size); obtain ⟨z10s1a, z10s1b, z10s1c, _⟩ := cells3 HH.out.1 r10; obtain ⟨z10s2a, z10s2b, z10s2c, _⟩ := cells3 HH.out.2.1 r10; obtain ⟨z10s3a, z10s3b, z10s3c, _⟩ := cells3 HH.out.2.2 r10)
      | (go_at_call 35; (with_reducible refine (CM23.out y8 r8).mono ?_); rintro e y9 ⟨a90, e90, d90, g90, rfl, o9, u9, g9⟩; have r9 := r8.trans (g9.mono r8.size); obtain ⟨z9s1a, z9s1b, z9s1c, _⟩ := cells3 HH.out.1 r9; obtain ⟨z9s2a, z9s2b, z9s2c, _⟩ := cells3 HH.out.2.1 r9; obtain ⟨z9s3a, z9s3b, z9s3c, _⟩ := cells3 HH.out.2.2 r9)
      | (go_at_call 35; (with_reducible refine (DM1.out y7 _ _ _ _ _ o7 u7 r7).mono ?_); rintro e y8 ⟨a80, e80, d80, g80, rfl, o8, u8, g8⟩; have r8 := r7.trans (g8.mono r7.size); obtain ⟨z8s1a, z8s1b, z8s1c, _⟩ := cells3 HH.out.1 r8; obtain ⟨z8s2a, z8s2b, z8s2c, _⟩ := cells3 HH.out.2.1 r8; obtain ⟨z8s3a, z8s3b, z8s3c, _⟩ := cells3 HH.out.2.2 r8)
      | (go_at_call 35; (with_reducible refine (CM12.out y6 r6).mono ?_); rintro e y7 ⟨a70, e70, d70, g70, rfl, o7, u7, g7⟩; have r7 := r6.trans (g7.mono r6.size); obtain ⟨z7s1a, z7s1b, z7s1c, _⟩ := cells3 HH.out.1 r7; obtain ⟨z7s2a, z7s2b, z7s2c, _⟩ := cells3 HH.out.2.1 r7; obtain ⟨z7s3a, z7s3b, z7s3c, _⟩ := cells3 HH.out.2.2 r7)
      | (go_at_call 18; (with_reducible refine (S3.out T1 y5 a30 e30 d30 g30 a50 e50 d50 g50 ((o3.below g4).below g5).rd ((u3.below g4).below g5).rd o5.rd u5.rd).mono ?_); rintro e y6 ⟨rfl, g6⟩; have r6 := r5.trans (g6.mono r5.size); obtain ⟨z6s1a, z6s1b, z6s1c, _⟩ := cells3 HH.out.1 r6; obtain ⟨z6s2a, z6s2b, z6s2c, _⟩ := cells3 HH.out.2.1 r6; obtain ⟨z6s3a, z6s3b, z6s3c, _⟩ := cells3 HH.out.2.2 r6)
      | (go_at_call 31; (with_reducible refine (DA2.out y4 _ _ _ _ _ o4 u4 r4).mono ?_); rintro e y5 ⟨a50, e50, d50, g50, rfl, o5, u5, g5⟩; have r5 := r4.trans (g5.mono r4.size); obtain ⟨z5s1a, z5s1b, z5s1c, _⟩ := cells3 HH.out.1 r5; obtain ⟨z5s2a, z5s2b, z5s2c, _⟩ := cells3 HH.out.2.1 r5; obtain ⟨z5s3a, z5s3b, z5s3c, _⟩ := cells3 HH.out.2.2 r5)
      | (go_at_call 31; (with_reducible refine (CA23.out y3 r3).mono ?_); rintro e y4 ⟨a40, e40, d40, g40, rfl, o4, u4, g4⟩; have r4 := r3.trans (g4.mono r3.size); obtain ⟨z4s1a, z4s1b, z4s1c, _⟩ := cells3 HH.out.1 r4; obtain ⟨z4s2a, z4s2b, z4s2c, _⟩ := cells3 HH.out.2.1 r4; obtain ⟨z4s3a, z4s3b, z4s3c, _⟩ := cells3 HH.out.2.2 r4)
      | (go_at_call 31; (with_reducible refine (DA1.out y2 _ _ _ _ _ o2 u2 r2).mono ?_); rintro e y3 ⟨a30, e30, d30, g30, rfl, o3, u3, g3⟩; have r3 := r2.trans (g3.mono r2.size); obtain ⟨z3s1a, z3s1b, z3s1c, _⟩ := cells3 HH.out.1 r3; obtain ⟨z3s2a, z3s2b, z3s2c, _⟩ := cells3 HH.out.2.1 r3; obtain ⟨z3s3a, z3s3b, z3s3c, _⟩ := cells3 HH.out.2.2 r3)
      | (go_at_call 31; (with_reducible refine (CA12.out y1 r1).mono ?_); rintro e y2 ⟨a20, e20, d20, g20, rfl, o2, u2, g2⟩; have r2 := r1.trans (g2.mono r1.size); obtain ⟨z2s1a, z2s1b, z2s1c, _⟩ := cells3 HH.out.1 r2; obtain ⟨z2s2a, z2s2b, z2s2c, _⟩ := cells3 HH.out.2.1 r2; obtain ⟨z2s3a, z2s3b, z2s3c, _⟩ := cells3 HH.out.2.2 r2)
      | (go_at_call 15; (with_reducible refine (awake3_any wc.drew (HT.out.below r0)).mono ?_); rintro e y1 ⟨rfl, g1⟩; have r1 := r0.trans (g1.mono r0.size); obtain ⟨z1s1a, z1s1b, z1s1c, _⟩ := cells3 HH.out.1 r1; obtain ⟨z1s2a, z1s2b, z1s2c, _⟩ := cells3 HH.out.2.1 r1; obtain ⟨z1s3a, z1s3b, z1s3c, _⟩ := cells3 HH.out.2.2 r1))
    all_goals
      go_wp2
      go_ret
      exact ⟨rfl, HB.out.trans (r19.mono HB.out.size)⟩
end Go.Proofs.YtibfeceainemjaaGreatDoor
