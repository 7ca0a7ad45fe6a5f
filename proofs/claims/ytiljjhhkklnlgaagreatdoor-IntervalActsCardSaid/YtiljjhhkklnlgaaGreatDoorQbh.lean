/-  -/
import Derived.Test.YtiljjhhkklnlgaaGreatDoorQbd
import Derived.Test.YtiljjhhkklnlgaaGreatDoorQbe

set_option linter.unusedVariables false
set_option linter.unusedSimpArgs false
set_option linter.unusedSectionVars false
set_option maxRecDepth 100000
set_option maxHeartbeats 3200000

namespace Go.Proofs.YtiljjhhkklnlgaaGreatDoor
open Go.RowKit Num

theorem rless3_any {b1 : Bool} {ao1 : Option Addr} {c1 : Nat} {xs1 : List Nat} {ad1 : Option Addr} {d1 : Nat} {ds1 : List Nat} {q1 : Rat} {n1 : Nat} {b2 : Bool} {ao2 : Option Addr} {c2 : Nat} {xs2 : List Nat} {ad2 : Option Addr} {d2 : Nat} {ds2 : List Nat} {q2 : Rat} {n2 : Nat} {w : World} (h1 : Rq w b1 ao1 c1 xs1 ad1 d1 ds1 q1 n1) (h2 : Rq w b2 ao2 c2 xs2 ad2 d2 ds2 q2 n2) (hn1 : n1 ≤ 999999999999) (hn2 : n2 ≤ 999999999999) :
  Calls Tryz.prog 135 #[.agg #[.bool b1, .slice ao1 xs1.length c1, .slice ad1 ds1.length d1], .agg #[.bool b2, .slice ao2 xs2.length c2, .slice ad2 ds2.length d2]] w (RetB (.bool (decide (q1 < q2))) w) := by
 have hle1a := h1.rn.le
 have hcm1b := h1.rn.cm
 have hle1c := h1.rd.le
 have hcm1d := h1.rd.cm
 have hle2a := h2.rn.le
 have hcm2b := h2.rn.cm
 have hle2c := h2.rd.le
 have hcm2d := h2.rd.cm
 have hB := A2_below w (.cells #[.bool b1, .slice ao1 xs1.length c1, .slice ad1 ds1.length d1] 26) (.cells #[.bool b2, .slice ao2 xs2.length c2, .slice ad2 ds2.length d2] 26)
 have HB := hid hB
 have hc := rcmp3_any (h1.below hB) (h2.below hB) hn1 hn2
 have hv : decide (cmpQ q1 q2 < 0) = decide (q1 < q2) := by
  unfold cmpQ
  by_cases h : q1 < q2
  ·simp [h]
  ·by_cases k : q2 < q1 <;> simp [h, k]
 obtain ⟨R, hR⟩ : ∃ R, R = cmpQ q1 q2 := ⟨_, rfl⟩
 rw [← hR] at hc hv
 rw [← hv]
 unfold A2 at HB hc
 clear h1 h2 hB hR hv
 go_enter Tryz.func135, Tryz.ntmps135
 go_wp2_with fail
 refine hc.mono ?_
 rintro e w1 ⟨rfl, f1⟩
 have H1 := hid (HB.out.trans (f1.mono HB.out.size))
 clear hc f1
 go_wp2
 go_ret
 exact ⟨rfl, H1.out⟩

end Go.Proofs.YtiljjhhkklnlgaaGreatDoor

namespace Go.Proofs.YtiljjhhkklnlgaaGreatDoor
open Go.RowKit Num

theorem over3_main {b1 : Bool} {ao1 : Option Addr} {c1 : Nat} {xs1 : List Nat} {ad1 : Option Addr} {d1 : Nat} {ds1 : List Nat} {q1 : Rat} {n1 : Nat} {b2 : Bool} {ao2 : Option Addr} {c2 : Nat} {xs2 : List Nat} {ad2 : Option Addr} {d2 : Nat} {ds2 : List Nat} {q2 : Rat} {n2 : Nat} {w : World} (h1 : Rq w b1 ao1 c1 xs1 ad1 d1 ds1 q1 n1) (h2 : Rq w b2 ao2 c2 xs2 ad2 d2 ds2 q2 n2) (hz : q2 ≠ 0) (hn1 : n1 ≤ 999999999999) (hn2 : n2 ≤ 999999999999) :
  Calls Tryz.prog 128 #[.agg #[.bool b1, .slice ao1 xs1.length c1, .slice ad1 ds1.length d1], .agg #[.bool b2, .slice ao2 xs2.length c2, .slice ad2 ds2.length d2]] w (RetRat (q1 / q2) w) := by
 have hle1a := h1.rn.le
 have hcm1b := h1.rn.cm
 have hle1c := h1.rd.le
 have hcm1d := h1.rd.cm
 have hle2a := h2.rn.le
 have hcm2b := h2.rn.cm
 have hle2c := h2.rd.le
 have hcm2d := h2.rd.cm
 have hB := A3_below w (.cells #[.bool b1, .slice ao1 xs1.length c1, .slice ad1 ds1.length d1] 26) (.cells #[.bool b2, .slice ao2 xs2.length c2, .slice ad2 ds2.length d2] 26) (.cells #[.bool false, .slice none 0 0, .slice none 0 0] 26)
 have HH := hid (A3_heap w (.cells #[.bool b1, .slice ao1 xs1.length c1, .slice ad1 ds1.length d1] 26) (.cells #[.bool b2, .slice ao2 xs2.length c2, .slice ad2 ds2.length d2] 26) (.cells #[.bool false, .slice none 0 0, .slice none 0 0] 26))
 have HSZ := hid (A3_size w (.cells #[.bool b1, .slice ao1 xs1.length c1, .slice ad1 ds1.length d1] 26) (.cells #[.bool b2, .slice ao2 xs2.length c2, .slice ad2 ds2.length d2] 26) (.cells #[.bool false, .slice none 0 0, .slice none 0 0] 26))
 have HB := hid hB
 have hd := rdiv3_any (h1.below hB) (h2.below hB) hn1 hn2
 rw [show zeq q2 = 0 from if_neg hz] at hd
 unfold A3 at HH HSZ HB hd
 clear h1 h2 hB hz
 have n01 : ¬ (w.heap.size = w.heap.size + 1 + 1) := by omega
 have n02 : ¬ (w.heap.size + 1 + 1 = w.heap.size) := by omega
 have n03 : ¬ (w.heap.size + 1 = w.heap.size + 1 + 1) := by omega
 have n04 : ¬ (w.heap.size + 1 + 1 = w.heap.size + 1) := by omega
 have n05 : ¬ (w.heap.size = w.heap.size + 1) := by omega
 have n06 : ¬ (w.heap.size + 1 = w.heap.size) := by omega
 go_enter Tryz.func128, Tryz.ntmps128
 go_wp2_with fail
 obtain ⟨w0, hw0⟩ : ∃ x, x = (((w.alloc (.cells #[.bool b1, .slice ao1 xs1.length c1, .slice ad1 ds1.length d1] 26)).alloc (.cells #[.bool b2, .slice ao2 xs2.length c2, .slice ad2 ds2.length d2] 26)).alloc (.cells #[.bool false, .slice none 0 0, .slice none 0 0] 26)) := ⟨_, rfl⟩
 rw [← hw0] at HH HSZ HB hd ⊢
 clear hw0
 refine hd.mono ?_
 intro e w4 hE
 obtain ⟨a4, c4, d4, e4, rfl, o4, u4, f4⟩ := hE.ok
 have p4 := f4
 clear hd hE
 have hx1 := o4.rd.le
 have hx2 := o4.rd.cm
 have hx3 := u4.rd.le
 have hx4 := u4.rd.cm
 obtain ⟨k0, k1, k2, k3, k4, k5⟩ := cells3 HH.out.2.2 p4
 have K1 := hid ((p4.block (w.heap.size + 1 + 1) (by have := HSZ.out; omega)).trans HH.out.2.2)
 have H4 := hid (And.intro o4 (And.intro u4 p4))
 have nl0 : w.heap.size < w4.heap.size := by have := HSZ.out; have := p4.size; omega
 have nl1 : w.heap.size + 1 + 1 < w4.heap.size := by have := HSZ.out; have := p4.size; omega
 have nl2 : w.heap.size + 1 < w4.heap.size := by have := HSZ.out; have := p4.size; omega
 have nn0 : ¬ (w.heap.size + 1 + 1 = w4.heap.size) := by omega
 have nn1 : ¬ (w4.heap.size = w.heap.size + 1 + 1) := by omega
 clear o4 u4 f4 p4
 go_wp2
 obtain ⟨W, hW⟩ : ∃ W, W = ((((w4.setCell ⟨w.heap.size + 1 + 1, 0, none⟩ (.bool (decide ((q1 / q2).num < 0)))).setCell ⟨w.heap.size + 1 + 1, 1, none⟩ (.slice a4 (nd (q1 / q2).num.natAbs).length c4)).setCell ⟨w.heap.size + 1 + 1, 2, none⟩ (.slice d4 (nd (q1 / q2).den).length e4)).alloc (.cells #[.bool (decide ((q1 / q2).num < 0)), .slice a4 (nd (q1 / q2).num.natAbs).length c4, .slice d4 (nd (q1 / q2).den).length e4] 26)) := ⟨_, rfl⟩
 have B1 : W.heap[w.heap.size + 1 + 1]? = some (.cells #[.bool (decide ((q1 / q2).num < 0)), .slice a4 (nd (q1 / q2).num.natAbs).length c4, .slice d4 (nd (q1 / q2).den).length e4] 26) := by
  rw [hW]
  (repeat (first | (with_reducible refine heap_at' _ _ _ ?_; (first | omega | (simp only [alloc_size, drew_size, setCell_size]; done) | (simp only [alloc_size, drew_size, setCell_size]; omega))) | (with_reducible apply box2) | (with_reducible apply box3) | (with_reducible refine (heap_set _ _ _ _ _ ?_).trans ?_; (· (first | omega | (simp only [alloc_size, drew_size, setCell_size]; done) | (simp only [alloc_size, drew_size, setCell_size]; omega)))) | (with_reducible refine (Below.heap_alloc _ _ _ ?_).trans ?_; (· (first | omega | (simp only [alloc_size, drew_size, setCell_size]; done) | (simp only [alloc_size, drew_size, setCell_size]; omega)))) | (with_reducible refine (drew_at _ _).trans ?_)))
  exact K1.out
 have B3 : Below w.heap.size w W := by
  rw [hW]
  have := HB.out.trans (H4.out.2.2.mono HB.out.size)
  (repeat (first | with_reducible assumption | with_reducible exact Below.refl _ _ | with_reducible apply Below.drew | with_reducible apply below_al | (with_reducible refine below_set _ _ ?_ ?_; (· (first | omega | (simp only [alloc_size, drew_size, setCell_size]; done) | (simp only [alloc_size, drew_size, setCell_size]; omega))))))
 have B4 : Own w.heap.size W a4 c4 (nd (q1 / q2).num.natAbs) := by
  rw [hW]
  have := HSZ.out
  refine own_al (Own.mono (B := w0.heap.size) ?_ (by omega)) _
  repeat refine Own.setOld ?_ (by omega) _
  exact H4.out.1
 have B5 : Own w.heap.size W d4 e4 (nd (q1 / q2).den) := by
  rw [hW]
  have := HSZ.out
  refine own_al (Own.mono (B := w0.heap.size) ?_ (by omega)) _
  repeat refine Own.setOld ?_ (by omega) _
  exact H4.out.2.1
 rw [← hW]
 clear hW
 obtain ⟨u0, u1, u2, _⟩ := cells3 B1 (Below.refl _ _)
 refine bodyPost_ret (v := .agg #[.bool (decide ((q1 / q2).num < 0)), .slice a4 (nd (q1 / q2).num.natAbs).length c4, .slice d4 (nd (q1 / q2).den).length e4]) (by simp [results, Tryz.results128, go_sem, u0, u1, u2]) rfl ?_
 exact ⟨a4, c4, d4, e4, rfl, B4, B5, B3⟩

theorem over3_zero {b1 : Bool} {ao1 : Option Addr} {c1 : Nat} {xs1 : List Nat} {ad1 : Option Addr} {d1 : Nat} {ds1 : List Nat} {q1 : Rat} {n1 : Nat} {b2 : Bool} {ao2 : Option Addr} {c2 : Nat} {xs2 : List Nat} {ad2 : Option Addr} {d2 : Nat} {ds2 : List Nat} {q2 : Rat} {n2 : Nat} {w : World} (h1 : Rq w b1 ao1 c1 xs1 ad1 d1 ds1 q1 n1) (h2 : Rq w b2 ao2 c2 xs2 ad2 d2 ds2 q2 n2) (hz : q2 = 0) (hn1 : n1 ≤ 999999999999) (hn2 : n2 ≤ 999999999999) :
  Calls Tryz.prog 128 #[.agg #[.bool b1, .slice ao1 xs1.length c1, .slice ad1 ds1.length d1], .agg #[.bool b2, .slice ao2 xs2.length c2, .slice ad2 ds2.length d2]] w (RetRat 0 w) := by
 have hle1a := h1.rn.le
 have hcm1b := h1.rn.cm
 have hle1c := h1.rd.le
 have hcm1d := h1.rd.cm
 have hle2a := h2.rn.le
 have hcm2b := h2.rn.cm
 have hle2c := h2.rd.le
 have hcm2d := h2.rd.cm
 have hB := A3_below w (.cells #[.bool b1, .slice ao1 xs1.length c1, .slice ad1 ds1.length d1] 26) (.cells #[.bool b2, .slice ao2 xs2.length c2, .slice ad2 ds2.length d2] 26) (.cells #[.bool false, .slice none 0 0, .slice none 0 0] 26)
 have HH := hid (A3_heap w (.cells #[.bool b1, .slice ao1 xs1.length c1, .slice ad1 ds1.length d1] 26) (.cells #[.bool b2, .slice ao2 xs2.length c2, .slice ad2 ds2.length d2] 26) (.cells #[.bool false, .slice none 0 0, .slice none 0 0] 26))
 have HSZ := hid (A3_size w (.cells #[.bool b1, .slice ao1 xs1.length c1, .slice ad1 ds1.length d1] 26) (.cells #[.bool b2, .slice ao2 xs2.length c2, .slice ad2 ds2.length d2] 26) (.cells #[.bool false, .slice none 0 0, .slice none 0 0] 26))
 have HB := hid hB
 have hd := rdiv3_any (h1.below hB) (h2.below hB) hn1 hn2
 rw [show zeq q2 = 3 from if_pos hz] at hd
 unfold A3 at HH HSZ HB hd
 clear h1 h2 hB hz
 have n01 : ¬ (w.heap.size = w.heap.size + 1 + 1) := by omega
 have n02 : ¬ (w.heap.size + 1 + 1 = w.heap.size) := by omega
 have n03 : ¬ (w.heap.size + 1 = w.heap.size + 1 + 1) := by omega
 have n04 : ¬ (w.heap.size + 1 + 1 = w.heap.size + 1) := by omega
 have n05 : ¬ (w.heap.size = w.heap.size + 1) := by omega
 have n06 : ¬ (w.heap.size + 1 = w.heap.size) := by omega
 go_enter Tryz.func128, Tryz.ntmps128
 go_wp2_with fail
 obtain ⟨w0, hw0⟩ : ∃ x, x = (((w.alloc (.cells #[.bool b1, .slice ao1 xs1.length c1, .slice ad1 ds1.length d1] 26)).alloc (.cells #[.bool b2, .slice ao2 xs2.length c2, .slice ad2 ds2.length d2] 26)).alloc (.cells #[.bool false, .slice none 0 0, .slice none 0 0] 26)) := ⟨_, rfl⟩
 rw [← hw0] at HH HSZ HB hd ⊢
 clear hw0
 refine hd.mono ?_
 intro e w4 hE
 obtain ⟨a4, c4, d4, e4, rfl, hc4, he4, f4⟩ := hE.bad (by decide)
 have p4 := f4
 clear hE
 have K1 := hid HH.out.2.2
 have b5 := below_al p4 (.cells #[.bool false, .slice a4 0 c4, .slice d4 0 e4] 26)
 have hof := rof3_any 0 (w4.alloc (.cells #[.bool false, .slice a4 0 c4, .slice d4 0 e4] 26)) (by omega) (by omega)
 rw [show ((0 : Int) : Rat) = 0 from rfl] at hof
 have H5 := hid b5
 clear b5 hd p4 f4
 go_wp2_with fail
 obtain ⟨wy, hwy⟩ : ∃ x, x = w4.alloc (.cells #[.bool false, .slice a4 0 c4, .slice d4 0 e4] 26) := ⟨_, rfl⟩
 rw [← hwy] at H5 hof ⊢
 clear hwy
 refine hof.mono ?_
 rintro e w6 ⟨a6, c6, d6, e6, rfl, o6, u6, f6⟩
 have p6 := H5.out.trans (f6.mono H5.out.size)
 obtain ⟨k0, k1, k2, k3, k4, k5⟩ := cells3 K1.out p6
 have H6 := hid (And.intro o6 (And.intro u6 p6))
 clear hof o6 u6 f6 p6
 go_wp2
 have hsz := HSZ.out
 have hs5 := H5.out.size
 refine bodyPost_ret (v := .agg #[.bool (decide ((0 : Rat).num < 0)), .slice a6 (nd (0 : Rat).num.natAbs).length c6, .slice d6 (nd (0 : Rat).den).length e6]) (by simp [results, Tryz.results128, go_sem, k0, k1, k2]) rfl ?_
 exact RetRat.fin H6.out.1 H6.out.2.1 (by omega) (HB.out.trans (H6.out.2.2.mono HB.out.size)) (by omega) _ _ _

theorem over3_any {b1 : Bool} {ao1 : Option Addr} {c1 : Nat} {xs1 : List Nat} {ad1 : Option Addr} {d1 : Nat} {ds1 : List Nat} {q1 : Rat} {n1 : Nat} {b2 : Bool} {ao2 : Option Addr} {c2 : Nat} {xs2 : List Nat} {ad2 : Option Addr} {d2 : Nat} {ds2 : List Nat} {q2 : Rat} {n2 : Nat} {w : World} (h1 : Rq w b1 ao1 c1 xs1 ad1 d1 ds1 q1 n1) (h2 : Rq w b2 ao2 c2 xs2 ad2 d2 ds2 q2 n2) (hn1 : n1 ≤ 999999999999) (hn2 : n2 ≤ 999999999999) :
  Calls Tryz.prog 128 #[.agg #[.bool b1, .slice ao1 xs1.length c1, .slice ad1 ds1.length d1], .agg #[.bool b2, .slice ao2 xs2.length c2, .slice ad2 ds2.length d2]] w (RetRat (q1 / q2) w) := by
 by_cases hz : q2 = 0
 ·have h3 := over3_zero h1 h2 hz hn1 hn2
  rw [hz, Rat.div_def, Rat.inv_zero, Rat.mul_zero]
  exact h3
 ·exact over3_main h1 h2 hz hn1 hn2
end Go.Proofs.YtiljjhhkklnlgaaGreatDoor
