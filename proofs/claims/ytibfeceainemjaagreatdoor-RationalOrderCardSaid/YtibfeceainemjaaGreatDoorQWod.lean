/- The walk of RationalOrder. -/
import Derived.Test.YtibfeceainemjaaGreatDoorQ7
import Derived.Test.YtibfeceainemjaaGreatDoorQ3
import Derived.Test.YtibfeceainemjaaGreatDoorQRp3
import Derived.Test.YtibfeceainemjaaGreatDoorQRp4
import Derived.Test.YtibfeceainemjaaGreatDoorQ4

set_option linter.unusedVariables false
set_option linter.unusedSimpArgs false
set_option linter.unusedSectionVars false

namespace Go.Proofs.YtibfeceainemjaaGreatDoor
open Go.RowKit Num

theorem beqI (a b : Int) (h : a = b) : (a == b) = true := by rw [h]; simp
theorem cmpQ_in (a b : Rat) : cmpQ a b = -1 ∨ cmpQ a b = 0 ∨ cmpQ a b = 1 := by
  unfold cmpQ
  by_cases h1 : a < b
  · simp [h1]
  · by_cases h2 : b < a <;> simp [h1, h2]

set_option maxRecDepth 100000 in
set_option maxHeartbeats 25600000 in
theorem walkRationalOrder (b1 b2 b3 : Bool) (ao1 : Option Addr) (c1 : Nat) (xs1 : List Nat) (ad1 : Option Addr) (d1 : Nat) (ds1 : List Nat) (ao2 : Option Addr) (c2 : Nat) (xs2 : List Nat) (ad2 : Option Addr) (d2 : Nat) (ds2 : List Nat) (ao3 : Option Addr) (c3 : Nat) (xs3 : List Nat) (ad3 : Option Addr) (d3 : Nat) (ds3 : List Nat) (w : World) (ha1 : Rd w ao1 c1 xs1) (hd1 : Rd w ad1 d1 ds1) (ha2 : Rd w ao2 c2 xs2) (hd2 : Rd w ad2 d2 ds2) (ha3 : Rd w ao3 c3 xs3) (hd3 : Rd w ad3 d3 ds3) (hT : Tb w) :
    Calls Tryz.prog 8 #[.agg #[.bool b1, .slice ao1 xs1.length c1, .slice ad1 ds1.length d1], .agg #[.bool b2, .slice ao2 xs2.length c2, .slice ad2 ds2.length d2], .agg #[.bool b3, .slice ao3 xs3.length c3, .slice ad3 ds3.length d3]] w (RetB (.bool true) w) := by
  have hle1a := ha1.le
  have hle1b := ha1.cm
  have hle1c := hd1.le
  have hle1d := hd1.cm
  have hle2a := ha2.le
  have hle2b := ha2.cm
  have hle2c := hd2.le
  have hle2d := hd2.cm
  have hle3a := ha3.le
  have hle3b := ha3.cm
  have hle3c := hd3.le
  have hle3d := hd3.cm
  by_cases hx1 : xs1.length ≤ 4 ∧ ds1.length ≤ 4
  case neg =>
    have hB := A3_below w (.cells #[.bool b1, .slice ao1 xs1.length c1, .slice ad1 ds1.length d1] 26) (.cells #[.bool b2, .slice ao2 xs2.length c2, .slice ad2 ds2.length d2] 26) (.cells #[.bool b3, .slice ao3 xs3.length c3, .slice ad3 ds3.length d3] 26)
    have HH := hid (A3_heap w (.cells #[.bool b1, .slice ao1 xs1.length c1, .slice ad1 ds1.length d1] 26) (.cells #[.bool b2, .slice ao2 xs2.length c2, .slice ad2 ds2.length d2] 26) (.cells #[.bool b3, .slice ao3 xs3.length c3, .slice ad3 ds3.length d3] 26))
    have HSZ := hid (A3_size w (.cells #[.bool b1, .slice ao1 xs1.length c1, .slice ad1 ds1.length d1] 26) (.cells #[.bool b2, .slice ao2 xs2.length c2, .slice ad2 ds2.length d2] 26) (.cells #[.bool b3, .slice ao3 xs3.length c3, .slice ad3 ds3.length d3] 26))
    have HB := hid hB
    have HR := hid (And.intro (And.intro (ha1.below hB) (hd1.below hB)) (And.intro (And.intro (ha2.below hB) (hd2.below hB)) (And.intro (ha3.below hB) (hd3.below hB))))
    have HT := hid (hT.below hB)
    unfold A3 at HH HSZ HB HR HT
    clear ha1 hd1 ha2 hd2 ha3 hd3 hT hB
    have n01 : ¬ (w.heap.size = w.heap.size + 1 + 1) := by omega
    have n02 : ¬ (w.heap.size + 1 + 1 = w.heap.size) := by omega
    have n03 : ¬ (w.heap.size + 1 = w.heap.size + 1 + 1) := by omega
    have n04 : ¬ (w.heap.size + 1 + 1 = w.heap.size + 1) := by omega
    go_enter Tryz.func8, Tryz.ntmps8
    go_wp2_with fail
    obtain ⟨w0, hw0⟩ : ∃ x, x = ((w.alloc (.cells #[.bool b1, .slice ao1 xs1.length c1, .slice ad1 ds1.length d1] 26)).alloc (.cells #[.bool b2, .slice ao2 xs2.length c2, .slice ad2 ds2.length d2] 26)).alloc (.cells #[.bool b3, .slice ao3 xs3.length c3, .slice ad3 ds3.length d3] 26) := ⟨_, rfl⟩
    rw [← hw0] at HH HSZ HB HR HT ⊢
    clear hw0
    have k0 : Below w0.heap.size w0 w0 := Below.refl _ _
    obtain ⟨s1a, s1b, s1c, _⟩ := cells3 HH.out.1 k0; obtain ⟨s2a, s2b, s2c, _⟩ := cells3 HH.out.2.1 k0; obtain ⟨s3a, s3b, s3c, _⟩ := cells3 HH.out.2.2 k0
    have q1 := smallrat_any b1 ao1 ad1 xs1.length c1 ds1.length d1 false w0 (by omega) (by omega) (by simp; omega)
    refine q1.mono ?_
    rintro e w1 ⟨rfl, f1⟩
    clear s1a s1b s1c s2a s2b s2c s3a s3b s3c q1
    have k1 := k0.trans (f1.mono k0.size)
    obtain ⟨s1a, s1b, s1c, _⟩ := cells3 HH.out.1 k1; obtain ⟨s2a, s2b, s2c, _⟩ := cells3 HH.out.2.1 k1; obtain ⟨s3a, s3b, s3c, _⟩ := cells3 HH.out.2.2 k1
    clear f1 k0
    have hk := awake3_any w1 (HT.out.below k1)
    go_wp2_with fail
    refine hk.mono ?_
    rintro e wz ⟨rfl, fz⟩
    have kz := HB.out.trans ((k1.trans (fz.mono k1.size)).mono HB.out.size)
    clear hk fz k1 s1a s1b s1c s2a s2b s2c s3a s3b s3c
    go_wp2
    go_ret
    exact ⟨rfl, kz⟩
  by_cases hx2 : xs2.length ≤ 4 ∧ ds2.length ≤ 4
  case neg =>
    have hB := A3_below w (.cells #[.bool b1, .slice ao1 xs1.length c1, .slice ad1 ds1.length d1] 26) (.cells #[.bool b2, .slice ao2 xs2.length c2, .slice ad2 ds2.length d2] 26) (.cells #[.bool b3, .slice ao3 xs3.length c3, .slice ad3 ds3.length d3] 26)
    have HH := hid (A3_heap w (.cells #[.bool b1, .slice ao1 xs1.length c1, .slice ad1 ds1.length d1] 26) (.cells #[.bool b2, .slice ao2 xs2.length c2, .slice ad2 ds2.length d2] 26) (.cells #[.bool b3, .slice ao3 xs3.length c3, .slice ad3 ds3.length d3] 26))
    have HSZ := hid (A3_size w (.cells #[.bool b1, .slice ao1 xs1.length c1, .slice ad1 ds1.length d1] 26) (.cells #[.bool b2, .slice ao2 xs2.length c2, .slice ad2 ds2.length d2] 26) (.cells #[.bool b3, .slice ao3 xs3.length c3, .slice ad3 ds3.length d3] 26))
    have HB := hid hB
    have HR := hid (And.intro (And.intro (ha1.below hB) (hd1.below hB)) (And.intro (And.intro (ha2.below hB) (hd2.below hB)) (And.intro (ha3.below hB) (hd3.below hB))))
    have HT := hid (hT.below hB)
    unfold A3 at HH HSZ HB HR HT
    clear ha1 hd1 ha2 hd2 ha3 hd3 hT hB
    have n01 : ¬ (w.heap.size = w.heap.size + 1 + 1) := by omega
    have n02 : ¬ (w.heap.size + 1 + 1 = w.heap.size) := by omega
    have n03 : ¬ (w.heap.size + 1 = w.heap.size + 1 + 1) := by omega
    have n04 : ¬ (w.heap.size + 1 + 1 = w.heap.size + 1) := by omega
    go_enter Tryz.func8, Tryz.ntmps8
    go_wp2_with fail
    obtain ⟨w0, hw0⟩ : ∃ x, x = ((w.alloc (.cells #[.bool b1, .slice ao1 xs1.length c1, .slice ad1 ds1.length d1] 26)).alloc (.cells #[.bool b2, .slice ao2 xs2.length c2, .slice ad2 ds2.length d2] 26)).alloc (.cells #[.bool b3, .slice ao3 xs3.length c3, .slice ad3 ds3.length d3] 26) := ⟨_, rfl⟩
    rw [← hw0] at HH HSZ HB HR HT ⊢
    clear hw0
    have k0 : Below w0.heap.size w0 w0 := Below.refl _ _
    obtain ⟨s1a, s1b, s1c, _⟩ := cells3 HH.out.1 k0; obtain ⟨s2a, s2b, s2c, _⟩ := cells3 HH.out.2.1 k0; obtain ⟨s3a, s3b, s3c, _⟩ := cells3 HH.out.2.2 k0
    have q1 := smallrat_any b1 ao1 ad1 xs1.length c1 ds1.length d1 true w0 (by omega) (by omega) (by simp; omega)
    refine q1.mono ?_
    rintro e w1 ⟨rfl, f1⟩
    clear s1a s1b s1c s2a s2b s2c s3a s3b s3c q1
    have k1 := k0.trans (f1.mono k0.size)
    obtain ⟨s1a, s1b, s1c, _⟩ := cells3 HH.out.1 k1; obtain ⟨s2a, s2b, s2c, _⟩ := cells3 HH.out.2.1 k1; obtain ⟨s3a, s3b, s3c, _⟩ := cells3 HH.out.2.2 k1
    clear f1 k0
    have q2 := smallrat_any b2 ao2 ad2 xs2.length c2 ds2.length d2 false w1 (by omega) (by omega) (by simp; omega)
    go_wp2_with fail
    refine q2.mono ?_
    rintro e w2 ⟨rfl, f2⟩
    clear s1a s1b s1c s2a s2b s2c s3a s3b s3c q2
    have k2 := k1.trans (f2.mono k1.size)
    obtain ⟨s1a, s1b, s1c, _⟩ := cells3 HH.out.1 k2; obtain ⟨s2a, s2b, s2c, _⟩ := cells3 HH.out.2.1 k2; obtain ⟨s3a, s3b, s3c, _⟩ := cells3 HH.out.2.2 k2
    clear f2 k1
    have hk := awake3_any w2 (HT.out.below k2)
    go_wp2_with fail
    refine hk.mono ?_
    rintro e wz ⟨rfl, fz⟩
    have kz := HB.out.trans ((k2.trans (fz.mono k2.size)).mono HB.out.size)
    clear hk fz k2 s1a s1b s1c s2a s2b s2c s3a s3b s3c
    go_wp2
    go_ret
    exact ⟨rfl, kz⟩
  by_cases hx3 : xs3.length ≤ 4 ∧ ds3.length ≤ 4
  case neg =>
    have hB := A3_below w (.cells #[.bool b1, .slice ao1 xs1.length c1, .slice ad1 ds1.length d1] 26) (.cells #[.bool b2, .slice ao2 xs2.length c2, .slice ad2 ds2.length d2] 26) (.cells #[.bool b3, .slice ao3 xs3.length c3, .slice ad3 ds3.length d3] 26)
    have HH := hid (A3_heap w (.cells #[.bool b1, .slice ao1 xs1.length c1, .slice ad1 ds1.length d1] 26) (.cells #[.bool b2, .slice ao2 xs2.length c2, .slice ad2 ds2.length d2] 26) (.cells #[.bool b3, .slice ao3 xs3.length c3, .slice ad3 ds3.length d3] 26))
    have HSZ := hid (A3_size w (.cells #[.bool b1, .slice ao1 xs1.length c1, .slice ad1 ds1.length d1] 26) (.cells #[.bool b2, .slice ao2 xs2.length c2, .slice ad2 ds2.length d2] 26) (.cells #[.bool b3, .slice ao3 xs3.length c3, .slice ad3 ds3.length d3] 26))
    have HB := hid hB
    have HR := hid (And.intro (And.intro (ha1.below hB) (hd1.below hB)) (And.intro (And.intro (ha2.below hB) (hd2.below hB)) (And.intro (ha3.below hB) (hd3.below hB))))
    have HT := hid (hT.below hB)
    unfold A3 at HH HSZ HB HR HT
    clear ha1 hd1 ha2 hd2 ha3 hd3 hT hB
    have n01 : ¬ (w.heap.size = w.heap.size + 1 + 1) := by omega
    have n02 : ¬ (w.heap.size + 1 + 1 = w.heap.size) := by omega
    have n03 : ¬ (w.heap.size + 1 = w.heap.size + 1 + 1) := by omega
    have n04 : ¬ (w.heap.size + 1 + 1 = w.heap.size + 1) := by omega
    go_enter Tryz.func8, Tryz.ntmps8
    go_wp2_with fail
    obtain ⟨w0, hw0⟩ : ∃ x, x = ((w.alloc (.cells #[.bool b1, .slice ao1 xs1.length c1, .slice ad1 ds1.length d1] 26)).alloc (.cells #[.bool b2, .slice ao2 xs2.length c2, .slice ad2 ds2.length d2] 26)).alloc (.cells #[.bool b3, .slice ao3 xs3.length c3, .slice ad3 ds3.length d3] 26) := ⟨_, rfl⟩
    rw [← hw0] at HH HSZ HB HR HT ⊢
    clear hw0
    have k0 : Below w0.heap.size w0 w0 := Below.refl _ _
    obtain ⟨s1a, s1b, s1c, _⟩ := cells3 HH.out.1 k0; obtain ⟨s2a, s2b, s2c, _⟩ := cells3 HH.out.2.1 k0; obtain ⟨s3a, s3b, s3c, _⟩ := cells3 HH.out.2.2 k0
    have q1 := smallrat_any b1 ao1 ad1 xs1.length c1 ds1.length d1 true w0 (by omega) (by omega) (by simp; omega)
    refine q1.mono ?_
    rintro e w1 ⟨rfl, f1⟩
    clear s1a s1b s1c s2a s2b s2c s3a s3b s3c q1
    have k1 := k0.trans (f1.mono k0.size)
    obtain ⟨s1a, s1b, s1c, _⟩ := cells3 HH.out.1 k1; obtain ⟨s2a, s2b, s2c, _⟩ := cells3 HH.out.2.1 k1; obtain ⟨s3a, s3b, s3c, _⟩ := cells3 HH.out.2.2 k1
    clear f1 k0
    have q2 := smallrat_any b2 ao2 ad2 xs2.length c2 ds2.length d2 true w1 (by omega) (by omega) (by simp; omega)
    go_wp2_with fail
    refine q2.mono ?_
    rintro e w2 ⟨rfl, f2⟩
    clear s1a s1b s1c s2a s2b s2c s3a s3b s3c q2
    have k2 := k1.trans (f2.mono k1.size)
    obtain ⟨s1a, s1b, s1c, _⟩ := cells3 HH.out.1 k2; obtain ⟨s2a, s2b, s2c, _⟩ := cells3 HH.out.2.1 k2; obtain ⟨s3a, s3b, s3c, _⟩ := cells3 HH.out.2.2 k2
    clear f2 k1
    have q3 := smallrat_any b3 ao3 ad3 xs3.length c3 ds3.length d3 false w2 (by omega) (by omega) (by simp; omega)
    go_wp2_with fail
    refine q3.mono ?_
    rintro e w3 ⟨rfl, f3⟩
    clear s1a s1b s1c s2a s2b s2c s3a s3b s3c q3
    have k3 := k2.trans (f3.mono k2.size)
    obtain ⟨s1a, s1b, s1c, _⟩ := cells3 HH.out.1 k3; obtain ⟨s2a, s2b, s2c, _⟩ := cells3 HH.out.2.1 k3; obtain ⟨s3a, s3b, s3c, _⟩ := cells3 HH.out.2.2 k3
    clear f3 k2
    have hk := awake3_any w3 (HT.out.below k3)
    go_wp2_with fail
    refine hk.mono ?_
    rintro e wz ⟨rfl, fz⟩
    have kz := HB.out.trans ((k3.trans (fz.mono k3.size)).mono HB.out.size)
    clear hk fz k3 s1a s1b s1c s2a s2b s2c s3a s3b s3c
    go_wp2
    go_ret
    exact ⟨rfl, kz⟩
  have hR1 : Rq w b1 ao1 c1 xs1 ad1 d1 ds1 (rv b1 (val xs1) (val ds1)) 4 := ⟨ha1, hd1, rfl, hx1.1, hx1.2⟩
  obtain ⟨q1, hq1⟩ : ∃ q, q = rv b1 (val xs1) (val ds1) := ⟨_, rfl⟩
  rw [← hq1] at hR1
  clear hq1
  have hR2 : Rq w b2 ao2 c2 xs2 ad2 d2 ds2 (rv b2 (val xs2) (val ds2)) 4 := ⟨ha2, hd2, rfl, hx2.1, hx2.2⟩
  obtain ⟨q2, hq2⟩ : ∃ q, q = rv b2 (val xs2) (val ds2) := ⟨_, rfl⟩
  rw [← hq2] at hR2
  clear hq2
  have hR3 : Rq w b3 ao3 c3 xs3 ad3 d3 ds3 (rv b3 (val xs3) (val ds3)) 4 := ⟨ha3, hd3, rfl, hx3.1, hx3.2⟩
  obtain ⟨q3, hq3⟩ : ∃ q, q = rv b3 (val xs3) (val ds3) := ⟨_, rfl⟩
  rw [← hq3] at hR3
  clear hq3
  have hB := A3_below w (.cells #[.bool b1, .slice ao1 xs1.length c1, .slice ad1 ds1.length d1] 26) (.cells #[.bool b2, .slice ao2 xs2.length c2, .slice ad2 ds2.length d2] 26) (.cells #[.bool b3, .slice ao3 xs3.length c3, .slice ad3 ds3.length d3] 26)
  have HH := hid (A3_heap w (.cells #[.bool b1, .slice ao1 xs1.length c1, .slice ad1 ds1.length d1] 26) (.cells #[.bool b2, .slice ao2 xs2.length c2, .slice ad2 ds2.length d2] 26) (.cells #[.bool b3, .slice ao3 xs3.length c3, .slice ad3 ds3.length d3] 26))
  have HSZ := hid (A3_size w (.cells #[.bool b1, .slice ao1 xs1.length c1, .slice ad1 ds1.length d1] 26) (.cells #[.bool b2, .slice ao2 xs2.length c2, .slice ad2 ds2.length d2] 26) (.cells #[.bool b3, .slice ao3 xs3.length c3, .slice ad3 ds3.length d3] 26))
  have HB := hid hB
  have HR := hid (And.intro (And.intro (ha1.below hB) (hd1.below hB)) (And.intro (And.intro (ha2.below hB) (hd2.below hB)) (And.intro (ha3.below hB) (hd3.below hB))))
  have HT := hid (hT.below hB)
  unfold A3 at HH HSZ HB HR HT
  clear ha1 hd1 ha2 hd2 ha3 hd3 hT hB
  have n01 : ¬ (w.heap.size = w.heap.size + 1 + 1) := by omega
  have n02 : ¬ (w.heap.size + 1 + 1 = w.heap.size) := by omega
  have n03 : ¬ (w.heap.size + 1 = w.heap.size + 1 + 1) := by omega
  have n04 : ¬ (w.heap.size + 1 + 1 = w.heap.size + 1) := by omega
  go_enter Tryz.func8, Tryz.ntmps8
  go_wp2_with fail
  obtain ⟨w0, hw0⟩ : ∃ x, x = ((w.alloc (.cells #[.bool b1, .slice ao1 xs1.length c1, .slice ad1 ds1.length d1] 26)).alloc (.cells #[.bool b2, .slice ao2 xs2.length c2, .slice ad2 ds2.length d2] 26)).alloc (.cells #[.bool b3, .slice ao3 xs3.length c3, .slice ad3 ds3.length d3] 26) := ⟨_, rfl⟩
  rw [← hw0] at HH HSZ HB HR HT ⊢
  clear hw0
  have k0 : Below w0.heap.size w0 w0 := Below.refl _ _
  obtain ⟨s1a, s1b, s1c, _⟩ := cells3 HH.out.1 k0; obtain ⟨s2a, s2b, s2c, _⟩ := cells3 HH.out.2.1 k0; obtain ⟨s3a, s3b, s3c, _⟩ := cells3 HH.out.2.2 k0
  have q1 := smallrat_any b1 ao1 ad1 xs1.length c1 ds1.length d1 true w0 (by omega) (by omega) (by simp; omega)
  refine q1.mono ?_
  rintro e w1 ⟨rfl, f1⟩
  clear s1a s1b s1c s2a s2b s2c s3a s3b s3c q1
  have k1 := k0.trans (f1.mono k0.size)
  obtain ⟨s1a, s1b, s1c, _⟩ := cells3 HH.out.1 k1; obtain ⟨s2a, s2b, s2c, _⟩ := cells3 HH.out.2.1 k1; obtain ⟨s3a, s3b, s3c, _⟩ := cells3 HH.out.2.2 k1
  clear f1 k0
  have q2 := smallrat_any b2 ao2 ad2 xs2.length c2 ds2.length d2 true w1 (by omega) (by omega) (by simp; omega)
  go_wp2_with fail
  refine q2.mono ?_
  rintro e w2 ⟨rfl, f2⟩
  clear s1a s1b s1c s2a s2b s2c s3a s3b s3c q2
  have k2 := k1.trans (f2.mono k1.size)
  obtain ⟨s1a, s1b, s1c, _⟩ := cells3 HH.out.1 k2; obtain ⟨s2a, s2b, s2c, _⟩ := cells3 HH.out.2.1 k2; obtain ⟨s3a, s3b, s3c, _⟩ := cells3 HH.out.2.2 k2
  clear f2 k1
  have q3 := smallrat_any b3 ao3 ad3 xs3.length c3 ds3.length d3 true w2 (by omega) (by omega) (by simp; omega)
  go_wp2_with fail
  refine q3.mono ?_
  rintro e w3 ⟨rfl, f3⟩
  clear s1a s1b s1c s2a s2b s2c s3a s3b s3c q3
  have k3 := k2.trans (f3.mono k2.size)
  obtain ⟨s1a, s1b, s1c, _⟩ := cells3 HH.out.1 k3; obtain ⟨s2a, s2b, s2c, _⟩ := cells3 HH.out.2.1 k3; obtain ⟨s3a, s3b, s3c, _⟩ := cells3 HH.out.2.2 k3
  clear f3 k2
  have HRR := hid (And.intro (hR1.below HB.out) (And.intro (hR2.below HB.out) (hR3.below HB.out)))
  have z1 := hR1.sz
  have z2 := hR2.sz
  have z3 := hR3.sz
  clear hR1 hR2 hR3
  have SZZZ := hid (And.intro (z1.add z3) (And.intro (z2.add z3) (And.intro (z1.mul z3) (And.intro (z2.mul z3) (z1.sub z2)))))
  clear z1 z2 z3
  have CA := hid (fun w' (h : Below w0.heap.size w0 w') => add3_any (HRR.out.1.below h) (HRR.out.2.2.below h) (by omega) (by omega) (HT.out.below h))
  have CB := hid (fun w' (h : Below w0.heap.size w0 w') => add3_any (HRR.out.2.1.below h) (HRR.out.2.2.below h) (by omega) (by omega) (HT.out.below h))
  have CM := hid (fun w' (h : Below w0.heap.size w0 w') => mul3_any (HRR.out.1.below h) (HRR.out.2.2.below h) (by omega) (by omega) (HT.out.below h))
  have CN := hid (fun w' (h : Below w0.heap.size w0 w') => mul3_any (HRR.out.2.1.below h) (HRR.out.2.2.below h) (by omega) (by omega) (HT.out.below h))
  have CS := hid (fun w' (h : Below w0.heap.size w0 w') => sub3_any (HRR.out.1.below h) (HRR.out.2.1.below h) (by omega) (by omega) (HT.out.below h))
  have CG := hid (fun w' (h : Below w0.heap.size w0 w') => sign3_any (HRR.out.2.2.below h) (by omega))
  have CC := hid (fun w' (h : Below w0.heap.size w0 w') => cmp3_any (HRR.out.1.below h) (HRR.out.2.1.below h) (by omega) (by omega) (HT.out.below h))
  have CD := hid (fun w' (h : Below w0.heap.size w0 w') => cmp3_any (HRR.out.2.1.below h) (HRR.out.1.below h) (by omega) (by omega) (HT.out.below h))
  have DC := hid (fun (p q : Rat) (n m : Nat) (hn : n ≤ 1000) (hm : m ≤ 1000) (sp : Sz p n) (sq : Sz q m) w' B1 B2 a c d e a' c' d' e' (o1 : Own B1 w' a c (nd p.num.natAbs)) (o2 : Own B1 w' d e (nd p.den)) (o3 : Own B2 w' a' c' (nd q.num.natAbs)) (o4 : Own B2 w' d' e' (nd q.den)) (hT : Tb w') => cmp3_any (Rq.own o1 o2 sp) (Rq.own o3 o4 sq) (by omega) (by omega) hT)
  have DG := hid (fun (p : Rat) (n : Nat) (hn : n ≤ 1000) (sp : Sz p n) w' B1 a c d e (o1 : Own B1 w' a c (nd p.num.natAbs)) (o2 : Own B1 w' d e (nd p.den)) => sign3_any (Rq.own o1 o2 sp) (by omega))
  obtain ⟨m1, hm1⟩ : ∃ m, m = q1 + q3 := ⟨_, rfl⟩
  obtain ⟨m2, hm2⟩ : ∃ m, m = q2 + q3 := ⟨_, rfl⟩
  obtain ⟨m3, hm3⟩ : ∃ m, m = q1 * q3 := ⟨_, rfl⟩
  obtain ⟨m4, hm4⟩ : ∃ m, m = q2 * q3 := ⟨_, rfl⟩
  obtain ⟨m5, hm5⟩ : ∃ m, m = q1 - q2 := ⟨_, rfl⟩
  have E1 : cmpQ q2 q1 = -cmpQ q1 q2 := cmpQ_swap q1 q2
  have E2 : cmpQ m1 m2 = cmpQ q1 q2 := by rw [hm1, hm2]; exact cmpQ_add q1 q2 q3
  have E3 : cmpQ m3 m4 = cmpQ q1 q2 * sgnQ q3 := by rw [hm3, hm4]; exact cmpQ_mul q1 q2 q3
  have E4 : sgnQ m5 = cmpQ q1 q2 := by rw [hm5]; exact cmpQ_sub q1 q2
  have hRi := cmpQ_in q1 q2
  have hGi : sgnQ q3 = -1 ∨ sgnQ q3 = 0 ∨ sgnQ q3 = 1 := by rw [sgnQ_eq]; exact cmpQ_in q3 0
  rw [← hm1, ← hm2, ← hm3, ← hm4, ← hm5] at SZZZ
  simp only [← hm1] at CA
  simp only [← hm2] at CB
  simp only [← hm3] at CM
  simp only [← hm4] at CN
  simp only [← hm5] at CS
  have D1 := DC.out m1 m2 _ _ (by omega) (by omega) SZZZ.out.1 SZZZ.out.2.1
  have D2 := DC.out m3 m4 _ _ (by omega) (by omega) SZZZ.out.2.2.1 SZZZ.out.2.2.2.1
  have D3 := DG.out m5 _ (by omega) SZZZ.out.2.2.2.2
  obtain ⟨R, hR⟩ : ∃ R, R = cmpQ q1 q2 := ⟨_, rfl⟩
  obtain ⟨G, hG⟩ : ∃ G, G = sgnQ q3 := ⟨_, rfl⟩
  rw [← hR] at E1 E2 E3 E4 hRi
  rw [← hG] at E3 hGi
  simp only [E1] at CD
  simp only [← hR] at CC
  simp only [← hG] at CG
  rw [E2] at D1
  rw [E3] at D2
  rw [E4] at D3
  have HD1 := hid D1
  have HD2 := hid D2
  have HD3 := hid D3
  have RG : R * G = -1 ∨ R * G = 0 ∨ R * G = 1 := by rcases hRi with h | h | h <;> rcases hGi with g | g | g <;> rw [h, g] <;> decide
  have w1n : IntKind.i64.wrap (-R) = -R := IntWalk.i64_in _ (by omega)
  have w2n : IntKind.i64.wrap (R * G) = R * G := IntWalk.i64_in _ (by omega)
  clear hm1 hm2 hm3 hm4 hm5 E1 E2 E3 E4 hR hG D1 D2 D3 DC DG SZZZ hRi hGi RG
  go_wp2_with fail
  refine (CC.out w3 k3).mono ?_
  rintro e w4 ⟨rfl, f4⟩
  clear s1a s1b s1c s2a s2b s2c s3a s3b s3c
  have k4 := k3.trans (f4.mono k3.size)
  obtain ⟨s1a, s1b, s1c, _⟩ := cells3 HH.out.1 k4; obtain ⟨s2a, s2b, s2c, _⟩ := cells3 HH.out.2.1 k4; obtain ⟨s3a, s3b, s3c, _⟩ := cells3 HH.out.2.2 k4
  clear f4 k3
  have p0 := k4.trans (below_drewI w0.heap.size w4)
  go_wp2_with fail
  go_region_held3 (fun w' => w'.cell? ⟨w.heap.size, 0, none⟩ = some (.bool b1) ∧ w'.cell? ⟨w.heap.size, 1, none⟩ = some (.slice ao1 xs1.length c1) ∧ w'.cell? ⟨w.heap.size, 2, none⟩ = some (.slice ad1 ds1.length d1) ∧ w'.cell? ⟨w.heap.size + 1, 0, none⟩ = some (.bool b2) ∧ w'.cell? ⟨w.heap.size + 1, 1, none⟩ = some (.slice ao2 xs2.length c2) ∧ w'.cell? ⟨w.heap.size + 1, 2, none⟩ = some (.slice ad2 ds2.length d2) ∧ w'.cell? ⟨w.heap.size + 1 + 1, 0, none⟩ = some (.bool b3) ∧ w'.cell? ⟨w.heap.size + 1 + 1, 1, none⟩ = some (.slice ao3 xs3.length c3) ∧ w'.cell? ⟨w.heap.size + 1 + 1, 2, none⟩ = some (.slice ad3 ds3.length d3)) (go_keep) (first
    | (go_at_call 21; (with_reducible refine (HD3.out y10 _ a100 e100 d100 g100 o10 u10).mono ?_); rintro e y11 ⟨rfl, g11⟩; have p11 := p10.trans (g11.mono p10.size); obtain ⟨z11s1a, z11s1b, z11s1c, _⟩ := cells3 HH.out.1 p11; obtain ⟨z11s2a, z11s2b, z11s2c, _⟩ := cells3 HH.out.2.1 p11; obtain ⟨z11s3a, z11s3b, z11s3c, _⟩ := cells3 HH.out.2.2 p11)
    | (go_at_call 33; (with_reducible refine (CS.out y9 p9).mono ?_); rintro e y10 ⟨a100, e100, d100, g100, rfl, o10, u10, g10⟩; have p10 := p9.trans (g10.mono p9.size); obtain ⟨z10s1a, z10s1b, z10s1c, _⟩ := cells3 HH.out.1 p10; obtain ⟨z10s2a, z10s2b, z10s2c, _⟩ := cells3 HH.out.2.1 p10; obtain ⟨z10s3a, z10s3b, z10s3c, _⟩ := cells3 HH.out.2.2 p10)
    | (go_at_call 21; (with_reducible refine (CG.out y8 p8).mono ?_); rintro e y9 ⟨rfl, g9⟩; have p9 := p8.trans (g9.mono p8.size); obtain ⟨z9s1a, z9s1b, z9s1c, _⟩ := cells3 HH.out.1 p9; obtain ⟨z9s2a, z9s2b, z9s2c, _⟩ := cells3 HH.out.2.1 p9; obtain ⟨z9s3a, z9s3b, z9s3c, _⟩ := cells3 HH.out.2.2 p9)
    | (go_at_call 23; (with_reducible refine (HD2.out y7 _ _ a60 e60 d60 g60 a70 e70 d70 g70 (o6.below g7) (u6.below g7) o7 u7 (HT.out.below p7)).mono ?_); rintro e y8 ⟨rfl, g8⟩; have p8 := p7.trans (g8.mono p7.size); obtain ⟨z8s1a, z8s1b, z8s1c, _⟩ := cells3 HH.out.1 p8; obtain ⟨z8s2a, z8s2b, z8s2c, _⟩ := cells3 HH.out.2.1 p8; obtain ⟨z8s3a, z8s3b, z8s3c, _⟩ := cells3 HH.out.2.2 p8)
    | (go_at_call 35; (with_reducible refine (CN.out y6 p6).mono ?_); rintro e y7 ⟨a70, e70, d70, g70, rfl, o7, u7, g7⟩; have p7 := p6.trans (g7.mono p6.size); obtain ⟨z7s1a, z7s1b, z7s1c, _⟩ := cells3 HH.out.1 p7; obtain ⟨z7s2a, z7s2b, z7s2c, _⟩ := cells3 HH.out.2.1 p7; obtain ⟨z7s3a, z7s3b, z7s3c, _⟩ := cells3 HH.out.2.2 p7)
    | (go_at_call 35; (with_reducible refine (CM.out y5 p5).mono ?_); rintro e y6 ⟨a60, e60, d60, g60, rfl, o6, u6, g6⟩; have p6 := p5.trans (g6.mono p5.size); obtain ⟨z6s1a, z6s1b, z6s1c, _⟩ := cells3 HH.out.1 p6; obtain ⟨z6s2a, z6s2b, z6s2c, _⟩ := cells3 HH.out.2.1 p6; obtain ⟨z6s3a, z6s3b, z6s3c, _⟩ := cells3 HH.out.2.2 p6)
    | (go_at_call 23; (with_reducible refine (HD1.out y4 _ _ a30 e30 d30 g30 a40 e40 d40 g40 (o3.below g4) (u3.below g4) o4 u4 (HT.out.below p4)).mono ?_); rintro e y5 ⟨rfl, g5⟩; have p5 := p4.trans (g5.mono p4.size); obtain ⟨z5s1a, z5s1b, z5s1c, _⟩ := cells3 HH.out.1 p5; obtain ⟨z5s2a, z5s2b, z5s2c, _⟩ := cells3 HH.out.2.1 p5; obtain ⟨z5s3a, z5s3b, z5s3c, _⟩ := cells3 HH.out.2.2 p5)
    | (go_at_call 31; (with_reducible refine (CB.out y3 p3).mono ?_); rintro e y4 ⟨a40, e40, d40, g40, rfl, o4, u4, g4⟩; have p4 := p3.trans (g4.mono p3.size); obtain ⟨z4s1a, z4s1b, z4s1c, _⟩ := cells3 HH.out.1 p4; obtain ⟨z4s2a, z4s2b, z4s2c, _⟩ := cells3 HH.out.2.1 p4; obtain ⟨z4s3a, z4s3b, z4s3c, _⟩ := cells3 HH.out.2.2 p4)
    | (go_at_call 31; (with_reducible refine (CA.out y2 p2).mono ?_); rintro e y3 ⟨a30, e30, d30, g30, rfl, o3, u3, g3⟩; have p3 := p2.trans (g3.mono p2.size); obtain ⟨z3s1a, z3s1b, z3s1c, _⟩ := cells3 HH.out.1 p3; obtain ⟨z3s2a, z3s2b, z3s2c, _⟩ := cells3 HH.out.2.1 p3; obtain ⟨z3s3a, z3s3b, z3s3c, _⟩ := cells3 HH.out.2.2 p3)
    | (go_at_call 23; (with_reducible refine (CD.out y1 p1).mono ?_); rintro e y2 ⟨rfl, g2⟩; have p2 := p1.trans (g2.mono p1.size); obtain ⟨z2s1a, z2s1b, z2s1c, _⟩ := cells3 HH.out.1 p2; obtain ⟨z2s2a, z2s2b, z2s2c, _⟩ := cells3 HH.out.2.1 p2; obtain ⟨z2s3a, z2s3b, z2s3c, _⟩ := cells3 HH.out.2.2 p2)
    | (go_at_call 15; (with_reducible refine (awake3_any w4.drew (HT.out.below p0)).mono ?_); rintro e y1 ⟨rfl, g1⟩; have p1 := p0.trans (g1.mono p0.size); obtain ⟨z1s1a, z1s1b, z1s1c, _⟩ := cells3 HH.out.1 p1; obtain ⟨z1s2a, z1s2b, z1s2c, _⟩ := cells3 HH.out.2.1 p1; obtain ⟨z1s3a, z1s3b, z1s3c, _⟩ := cells3 HH.out.2.2 p1))
  all_goals
    go_wp2
    go_ret
    exact ⟨rfl, HB.out.trans (p11.mono HB.out.size)⟩
end Go.Proofs.YtibfeceainemjaaGreatDoor
