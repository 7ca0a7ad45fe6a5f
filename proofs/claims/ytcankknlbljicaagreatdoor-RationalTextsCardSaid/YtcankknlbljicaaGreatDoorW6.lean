/-  -/
import Derived.Test.YtcankknlbljicaaGreatDoorW5

set_option linter.unusedVariables false
set_option linter.unusedSimpArgs false
set_option linter.unusedSectionVars false
set_option maxRecDepth 100000
set_option maxHeartbeats 3200000

namespace Go.Proofs.YtcankknlbljicaaGreatDoor
open Go.RowKit Num

theorem nd_int {n : Int} (h1 : -9223372036854775808 ≤ n) (h2 : n ≤ 9223372036854775807) : (nd n.natAbs).length ≤ 2 := nd_length_le (by omega)

theorem rfrac3_any (n m : Int) (w : World) (h1 : -9223372036854775808 ≤ n) (h2 : n ≤ 9223372036854775807) (h3 : -9223372036854775808 ≤ m) (h4 : m ≤ 9223372036854775807) : Calls Tryz.prog 70 #[.int .i64 n, .int .i64 m] w (RetRat (Rat.divInt n m) w) := by
 have hB := below_alloc w (.cells #[.bool false, .slice none 0 0, .slice none 0 0] 26)
 have HH := hid (heap_alloc_at w (.cells #[.bool false, .slice none 0 0, .slice none 0 0] 26))
 have HSZ := hid (show (w.alloc (.cells #[.bool false, .slice none 0 0, .slice none 0 0] 26)).heap.size = w.heap.size + 1 by simp)
 have HB := hid hB
 have l1 := nd_int h1 h2
 have l2 := nd_int h3 h4
 have hc := riof_any n (w.alloc (.cells #[.bool false, .slice none 0 0, .slice none 0 0] 26)) h1 h2
 have HC2 := hid (fun w' => riof_any m w' h3 h4)
 have HRD := hid (fun w' a7 c7 a8 c8 (r1 : Rd w' a7 c7 (nd n.natAbs)) (r2 : Rd w' a8 c8 (nd m.natAbs)) => show Calls Tryz.prog 95 #[.agg #[.bool (decide (n < 0)), .slice a7 (nd n.natAbs).length c7], .agg #[.bool (decide (m < 0)), .slice a8 (nd m.natAbs).length c8]] w' (RetRat (Rat.divInt n m) w') from
  reduce_q r1 r2 (by omega) (by omega) (by rw [val_nd, val_nd, iv_self, iv_self]))
 obtain ⟨q, hq⟩ : ∃ q, q = Rat.divInt n m := ⟨_, rfl⟩
 rw [← hq]
 simp only [← hq] at HRD
 clear hB hq
 go_enter Tryz.func70, Tryz.ntmps70
 go_wp2_with fail
 obtain ⟨w0, hw0⟩ : ∃ x, x = (w.alloc (.cells #[.bool false, .slice none 0 0, .slice none 0 0] 26)) := ⟨_, rfl⟩
 rw [← hw0] at HH HSZ HB hc ⊢
 clear hw0
 refine hc.mono ?_
 rintro e w1 ⟨a1, c1, rfl, o1, f1⟩
 clear hc
 go_wp2_with fail
 refine (HC2.out w1).mono ?_
 rintro e w2 ⟨a2, c2, rfl, o2, f2⟩
 have p2 := f1.trans (f2.mono f1.size)
 have hr := HRD.out w2 a1 c1 a2 c2 (o1.below f2).rd o2.rd
 have H2 := hid p2
 clear o1 o2 f1 f2 p2
 go_wp2_with fail
 refine hr.mono ?_
 rintro e w4 ⟨a4, c4, d4, e4, rfl, o4, u4, f4⟩
 have p4 := H2.out.trans (f4.mono H2.out.size)
 obtain ⟨k0, k1, k2, k3, k4, k5⟩ := cells3 HH.out p4
 have H4 := hid (And.intro o4 (And.intro u4 p4))
 clear hr o4 u4 f4 p4
 go_wp2
 have hsz := HSZ.out
 have hs1 := H2.out.size
 refine bodyPost_ret (v := .agg #[.bool (decide (q.num < 0)), .slice a4 (nd q.num.natAbs).length c4, .slice d4 (nd q.den).length e4]) (by simp [results, Tryz.results70, go_sem, k0, k1, k2]) rfl ?_
 exact RetRat.fin H4.out.1 H4.out.2.1 (by omega) (HB.out.trans (H4.out.2.2.mono HB.out.size)) (by omega) _ _ _

end Go.Proofs.YtcankknlbljicaaGreatDoor

namespace Go.Proofs.YtcankknlbljicaaGreatDoor
open Go.RowKit Num

theorem frac3_main (n m : Int) (w : World) (h1 : -9223372036854775808 ≤ n) (h2 : n ≤ 9223372036854775807) (h3 : -9223372036854775808 ≤ m) (h4 : m ≤ 9223372036854775807) (hT : Tb w) (h0 : m ≠ 0) : Calls Tryz.prog 73 #[.int .i64 n, .int .i64 m] w (RetRat (Rat.divInt n m) w) := by
 have hB := below_alloc w (.cells #[.bool false, .slice none 0 0, .slice none 0 0] 26)
 have HH := hid (heap_alloc_at w (.cells #[.bool false, .slice none 0 0, .slice none 0 0] 26))
 have HSZ := hid (show (w.alloc (.cells #[.bool false, .slice none 0 0, .slice none 0 0] 26)).heap.size = w.heap.size + 1 by simp)
 have HB := hid hB
 have HT := hid (hT.below hB)
 have l1 := nd_int h1 h2
 have l2 := nd_int h3 h4
 have hc := iof_any n (w.alloc (.cells #[.bool false, .slice none 0 0, .slice none 0 0] 26)) h1 h2
 have HC2 := hid (fun w' => iof_any m w' h3 h4)
 have HMK := hid (fun w' a7 c7 a8 c8 (r1 : Rd w' a7 c7 (nd n.natAbs)) (r2 : Rd w' a8 c8 (nd m.natAbs)) (hT : Tb w') => show Calls Tryz.prog 136 #[.agg #[.bool (decide (n < 0)), .slice a7 (nd n.natAbs).length c7], .agg #[.bool (decide (m < 0)), .slice a8 (nd m.natAbs).length c8]] w' (fun e w'' => ∃ ao c ad d, e = .returned (.tuple #[.agg #[.bool (decide ((Rat.divInt n m).num < 0)), .slice ao (nd (Rat.divInt n m).num.natAbs).length c, .slice ad (nd (Rat.divInt n m).den).length d], .int .i64 0]) ∧ Own w'.heap.size w'' ao c (nd (Rat.divInt n m).num.natAbs) ∧ Own w'.heap.size w'' ad d (nd (Rat.divInt n m).den) ∧ Below w'.heap.size w' w'') from by
  have h5 := make_any (decide (n < 0)) (decide (m < 0)) a7 a8 c7 c8 (nd n.natAbs) (nd m.natAbs) w' r1 r2 (by omega) (by omega) hT
  rw [val_nd, val_nd, iv_self, iv_self, show zer m = 0 from if_neg h0] at h5
  refine h5.mono ?_
  rintro e w'' ⟨ao, c, ad, d, h6, h7, h8, h9⟩
  simp only [rsg, rnm, rdn, if_true, decide_true, Bool.true_and] at h6 h7 h8
  exact ⟨ao, c, ad, d, h6, h7, h8, h9⟩)
 obtain ⟨q, hq⟩ : ∃ q, q = Rat.divInt n m := ⟨_, rfl⟩
 rw [← hq]
 simp only [← hq] at HMK
 clear hB hq hT h0
 go_enter Tryz.func73, Tryz.ntmps73
 go_wp2_with fail
 obtain ⟨w0, hw0⟩ : ∃ x, x = (w.alloc (.cells #[.bool false, .slice none 0 0, .slice none 0 0] 26)) := ⟨_, rfl⟩
 rw [← hw0] at HH HSZ HB hc HT ⊢
 clear hw0
 refine hc.mono ?_
 rintro e w1 ⟨a1, c1, rfl, o1, f1⟩
 clear hc
 go_wp2_with fail
 refine (HC2.out w1).mono ?_
 rintro e w2 ⟨a2, c2, rfl, o2, f2⟩
 have p2 := f1.trans (f2.mono f1.size)
 have hr := HMK.out w2 a1 c1 a2 c2 (o1.below f2).rd o2.rd (HT.out.below p2)
 have H2 := hid p2
 clear o1 o2 f1 f2 p2
 go_wp2_with fail
 refine hr.mono ?_
 rintro e w4 ⟨a4, c4, d4, e4, rfl, o4, u4, f4⟩
 have hx1 := o4.rd.le
 have hx2 := o4.rd.cm
 have hx3 := u4.rd.le
 have hx4 := u4.rd.cm
 have p4 := H2.out.trans (f4.mono H2.out.size)
 obtain ⟨k0, k1, k2, k3, k4, k5⟩ := cells3 HH.out p4
 have K1 := hid ((p4.block w.heap.size (by have := HSZ.out; omega)).trans HH.out)
 have H4 := hid (And.intro o4 (And.intro u4 p4))
 have nl0 : w.heap.size < w4.heap.size := by have := HSZ.out; have := p4.size; omega
 have nn0 : ¬ (w.heap.size = w4.heap.size) := by omega
 have nn1 : ¬ (w4.heap.size = w.heap.size) := by omega
 clear hr o4 u4 f4 p4
 go_wp2
 obtain ⟨W, hW⟩ : ∃ W, W = ((((w4.setCell ⟨w.heap.size, 0, none⟩ (.bool (decide (q.num < 0)))).setCell ⟨w.heap.size, 1, none⟩ (.slice a4 (nd q.num.natAbs).length c4)).setCell ⟨w.heap.size, 2, none⟩ (.slice d4 (nd q.den).length e4)).alloc (.cells #[.bool (decide (q.num < 0)), .slice a4 (nd q.num.natAbs).length c4, .slice d4 (nd q.den).length e4] 26)) := ⟨_, rfl⟩
 have B1 : W.heap[w.heap.size]? = some (.cells #[.bool (decide (q.num < 0)), .slice a4 (nd q.num.natAbs).length c4, .slice d4 (nd q.den).length e4] 26) := by
  rw [hW]
  (repeat (first | (with_reducible refine heap_at' _ _ _ ?_; (first | omega | (simp only [alloc_size, drew_size, setCell_size]; done) | (simp only [alloc_size, drew_size, setCell_size]; omega))) | (with_reducible apply box2) | (with_reducible apply box3) | (with_reducible refine (heap_set _ _ _ _ _ ?_).trans ?_; (· (first | omega | (simp only [alloc_size, drew_size, setCell_size]; done) | (simp only [alloc_size, drew_size, setCell_size]; omega)))) | (with_reducible refine (Below.heap_alloc _ _ _ ?_).trans ?_; (· (first | omega | (simp only [alloc_size, drew_size, setCell_size]; done) | (simp only [alloc_size, drew_size, setCell_size]; omega)))) | (with_reducible refine (drew_at _ _).trans ?_)))
  exact K1.out
 have B3 : Below w.heap.size w W := by
  rw [hW]
  have := HB.out.trans (H4.out.2.2.mono HB.out.size)
  (repeat (first | with_reducible assumption | with_reducible exact Below.refl _ _ | with_reducible apply Below.drew | with_reducible apply below_al | (with_reducible refine below_set _ _ ?_ ?_; (· (first | omega | (simp only [alloc_size, drew_size, setCell_size]; done) | (simp only [alloc_size, drew_size, setCell_size]; omega))))))
 have B4 : Own w.heap.size W a4 c4 (nd q.num.natAbs) := by
  rw [hW]
  have := HSZ.out
  have := H2.out.size
  refine own_al (Own.mono (B := w2.heap.size) ?_ (by omega)) _
  repeat refine Own.setOld ?_ (by omega) _
  exact H4.out.1
 have B5 : Own w.heap.size W d4 e4 (nd q.den) := by
  rw [hW]
  have := HSZ.out
  have := H2.out.size
  refine own_al (Own.mono (B := w2.heap.size) ?_ (by omega)) _
  repeat refine Own.setOld ?_ (by omega) _
  exact H4.out.2.1
 rw [← hW]
 clear hW
 obtain ⟨u0, u1, u2, _⟩ := cells3 B1 (Below.refl _ _)
 refine bodyPost_ret (v := .agg #[.bool (decide (q.num < 0)), .slice a4 (nd q.num.natAbs).length c4, .slice d4 (nd q.den).length e4]) (by simp [results, Tryz.results73, go_sem, u0, u1, u2]) rfl ?_
 exact ⟨a4, c4, d4, e4, rfl, B4, B5, B3⟩

end Go.Proofs.YtcankknlbljicaaGreatDoor

namespace Go.Proofs.YtcankknlbljicaaGreatDoor
open Go.RowKit Num

theorem frac3_zero (n m : Int) (w : World) (h1 : -9223372036854775808 ≤ n) (h2 : n ≤ 9223372036854775807) (h3 : -9223372036854775808 ≤ m) (h4 : m ≤ 9223372036854775807) (hm : m = 0) : Calls Tryz.prog 73 #[.int .i64 n, .int .i64 m] w (RetRat 0 w) := by
 have hB := below_alloc w (.cells #[.bool false, .slice none 0 0, .slice none 0 0] 26)
 have HH := hid (heap_alloc_at w (.cells #[.bool false, .slice none 0 0, .slice none 0 0] 26))
 have HSZ := hid (show (w.alloc (.cells #[.bool false, .slice none 0 0, .slice none 0 0] 26)).heap.size = w.heap.size + 1 by simp)
 have HB := hid hB
 have l1 := nd_int h1 h2
 have l2 := nd_int h3 h4
 have hc := iof_any n (w.alloc (.cells #[.bool false, .slice none 0 0, .slice none 0 0] 26)) h1 h2
 have HC2 := hid (fun w' => iof_any m w' h3 h4)
 have HMK := hid (fun w' a7 c7 a8 c8 (r1 : Rd w' a7 c7 (nd n.natAbs)) (r2 : Rd w' a8 c8 (nd m.natAbs)) => show Calls Tryz.prog 136 #[.agg #[.bool (decide (n < 0)), .slice a7 (nd n.natAbs).length c7], .agg #[.bool (decide (m < 0)), .slice a8 (nd m.natAbs).length c8]] w' (RetRatE 0 3 w') from
  make_zero (decide (n < 0)) (decide (m < 0)) a7 a8 c7 c8 (nd n.natAbs) (nd m.natAbs) w' r1 r2 (by omega) (by omega) (by rw [val_nd, iv_self]; exact hm) 0)
 clear hB hm
 go_enter Tryz.func73, Tryz.ntmps73
 go_wp2_with fail
 obtain ⟨w0, hw0⟩ : ∃ x, x = (w.alloc (.cells #[.bool false, .slice none 0 0, .slice none 0 0] 26)) := ⟨_, rfl⟩
 rw [← hw0] at HH HSZ HB hc ⊢
 clear hw0
 refine hc.mono ?_
 rintro e w1 ⟨a1, c1, rfl, o1, f1⟩
 clear hc
 go_wp2_with fail
 refine (HC2.out w1).mono ?_
 rintro e w2 ⟨a2, c2, rfl, o2, f2⟩
 have p2 := f1.trans (f2.mono f1.size)
 have hr := HMK.out w2 a1 c1 a2 c2 (o1.below f2).rd o2.rd
 have H2 := hid p2
 clear o1 o2 f1 f2 p2
 go_wp2_with fail
 refine hr.mono ?_
 intro e w4 hE
 obtain ⟨a4, c4, d4, e4, rfl, hc4, he4, f4⟩ := hE.bad (by decide)
 have p4 := H2.out.trans (f4.mono H2.out.size)
 clear hE
 have K1 := hid HH.out
 have b5 := below_al p4 (.cells #[.bool false, .slice a4 0 c4, .slice d4 0 e4] 26)
 have hof := of3_any 0 (w4.alloc (.cells #[.bool false, .slice a4 0 c4, .slice d4 0 e4] 26)) (by omega) (by omega)
 rw [show ((0 : Int) : Rat) = 0 from rfl] at hof
 have H5 := hid b5
 clear b5 hr p4 f4
 go_wp2_with fail
 obtain ⟨wy, hwy⟩ : ∃ x, x = w4.alloc (.cells #[.bool false, .slice a4 0 c4, .slice d4 0 e4] 26) := ⟨_, rfl⟩
 rw [← hwy] at H5 hof ⊢
 clear hwy
 refine hof.mono ?_
 rintro e w6 ⟨a6, c6, d6, e6, rfl, o6, u6, f6⟩
 have p6 := H5.out.trans (f6.mono H5.out.size)
 obtain ⟨k0, k1, k2, k3, k4, k5⟩ := cells3 K1.out p6
 have H6 := hid (And.intro o6 (And.intro u6 p6))
 clear hof o6 u6 f6 p6
 go_wp2
 have hsz := HSZ.out
 have hs5 := H5.out.size
 refine bodyPost_ret (v := .agg #[.bool (decide ((0 : Rat).num < 0)), .slice a6 (nd (0 : Rat).num.natAbs).length c6, .slice d6 (nd (0 : Rat).den).length e6]) (by simp [results, Tryz.results73, go_sem, k0, k1, k2]) rfl ?_
 exact RetRat.fin H6.out.1 H6.out.2.1 (by omega) (HB.out.trans (H6.out.2.2.mono HB.out.size)) (by omega) _ _ _

theorem frac3_any (n m : Int) (w : World) (h1 : -9223372036854775808 ≤ n) (h2 : n ≤ 9223372036854775807) (h3 : -9223372036854775808 ≤ m) (h4 : m ≤ 9223372036854775807) (hT : Tb w) : Calls Tryz.prog 73 #[.int .i64 n, .int .i64 m] w (RetRat (Rat.divInt n m) w) := by
 by_cases h0 : m = 0
 ·have h5 := frac3_zero n m w h1 h2 h3 h4 h0
  rw [h0, Rat.divInt_zero]
  rw [h0] at h5
  exact h5
 ·exact frac3_main n m w h1 h2 h3 h4 hT h0
end Go.Proofs.YtcankknlbljicaaGreatDoor

namespace Go.Proofs.YtcankknlbljicaaGreatDoor
open Go.RowKit Num

def R2 (w : World) (b1 b2 : Bool) (aa da ab db : Option Addr) (n1 c1 m1 e1 n2 c2 m2 e2 : Nat) : World :=
 (w.alloc (.cells #[.bool b1, .slice aa n1 c1, .slice da m1 e1] 26)).alloc (.cells #[.bool b2, .slice ab n2 c2, .slice db m2 e2] 26)
theorem R2_below (w : World) (b1 b2 : Bool) (aa da ab db : Option Addr) (n1 c1 m1 e1 n2 c2 m2 e2 : Nat) : Below w.heap.size w (R2 w b1 b2 aa da ab db n1 c1 m1 e1 n2 c2 m2 e2) := by
 have h1 := below_alloc w (.cells #[.bool b1, .slice aa n1 c1, .slice da m1 e1] 26)
 exact h1.trans ((below_alloc _ (.cells #[.bool b2, .slice ab n2 c2, .slice db m2 e2] 26)).mono h1.size)
theorem R2_heap (w : World) (b1 b2 : Bool) (aa da ab db : Option Addr) (n1 c1 m1 e1 n2 c2 m2 e2 : Nat) :
  (R2 w b1 b2 aa da ab db n1 c1 m1 e1 n2 c2 m2 e2).heap[w.heap.size]? = some (.cells #[.bool b1, .slice aa n1 c1, .slice da m1 e1] 26 (0, 0)) ∧ (R2 w b1 b2 aa da ab db n1 c1 m1 e1 n2 c2 m2 e2).heap[w.heap.size + 1]? = some (.cells #[.bool b2, .slice ab n2 c2, .slice db m2 e2] 26 (0, 0)) := by
 have x1 := heap_alloc_at w (.cells #[.bool b1, .slice aa n1 c1, .slice da m1 e1] 26)
 have z1 : (w.alloc (.cells #[.bool b1, .slice aa n1 c1, .slice da m1 e1] 26)).heap.size = w.heap.size + 1 := by simp
 have x2 := heap_alloc_at (w.alloc (.cells #[.bool b1, .slice aa n1 c1, .slice da m1 e1] 26)) (.cells #[.bool b2, .slice ab n2 c2, .slice db m2 e2] 26)
 rw [z1] at x2
 have y2 := (below_alloc (w.alloc (.cells #[.bool b1, .slice aa n1 c1, .slice da m1 e1] 26)) (.cells #[.bool b2, .slice ab n2 c2, .slice db m2 e2] 26)).block w.heap.size (by omega)
 exact ⟨y2.trans x1, x2⟩

theorem same3_any (b1 b2 : Bool) (aa da ab db : Option Addr) (c1 e1 c2 e2 : Nat) (xs ds ys es : List Nat) (r : Bool) (w : World) (hx : Rd w aa c1 xs) (hd : Rd w da e1 ds) (hy : Rd w ab c2 ys) (he : Rd w db e2 es) (hr : r = true ↔ (b1 = b2 ∧ xs = ys) ∧ ds = es) :
  Calls Tryz.prog 17 #[.agg #[.bool b1, .slice aa xs.length c1, .slice da ds.length e1], .agg #[.bool b2, .slice ab ys.length c2, .slice db es.length e2]] w (RetB (.bool r) w) := by
 have hB := R2_below w b1 b2 aa da ab db xs.length c1 ds.length e1 ys.length c2 es.length e2
 obtain ⟨h1, h2⟩ := R2_heap w b1 b2 aa da ab db xs.length c1 ds.length e1 ys.length c2 es.length e2
 have HC := hid (fun w' hb => And.intro (rat_cells (w' := w') h1 hb) (rat_cells h2 hb))
 obtain ⟨v, hv⟩ : ∃ v : Bool, v = true ↔ b1 = b2 ∧ xs = ys := by
  by_cases h : b1 = b2 ∧ xs = ys
  ·exact ⟨true, by simp [h]⟩
  ·exact ⟨false, by simp only [Bool.false_eq_true, false_iff]; exact h⟩
 have hs := same2_any b1 b2 aa ab c1 c2 xs ys v _ (hx.below hB) (hy.below hB) hv
 have HB := hid hB
 have HR := hid (And.intro (hd.below hB) (he.below hB))
 unfold R2 at HC hs HB HR
 obtain ⟨⟨⟨s0, s1, s2⟩, _⟩, ⟨t0, t1, t2⟩, _⟩ := HC.out _ (Below.refl _ _)
 clear hx hd hy he hB h1 h2
 cases v
 ·obtain rfl : r = false := by
   cases r with
   | false => rfl
   | true => exact absurd (hv.2 (hr.1 rfl).1) (by simp)
  clear hr hv
  go_enter Tryz.func17, Tryz.ntmps17
  go_wp2_with fail
  refine hs.mono ?_
  rintro e w1 ⟨rfl, f1⟩
  have H1 := hid (HB.out.trans (f1.mono HB.out.size))
  clear s0 s1 s2 t0 t1 t2 hs f1
  go_wp2
  go_ret
  exact ⟨rfl, H1.out⟩
 ·have hr2 : r = true ↔ ds = es := by rw [hr]; exact ⟨fun h => h.2, fun h => ⟨hv.1 rfl, h⟩⟩
  have HS := hid (fun w1 (h1 : Rd w1 da e1 ds) (h2 : Rd w1 db e2 es) => same_any da db e1 e2 ds es r w1 h1 h2 hr2)
  clear hr hv hr2
  go_enter Tryz.func17, Tryz.ntmps17
  go_wp2_with fail
  refine hs.mono ?_
  rintro e w1 ⟨rfl, f1⟩
  clear s0 s1 s2 t0 t1 t2 hs
  obtain ⟨⟨⟨s0, s1, s2⟩, _⟩, ⟨t0, t1, t2⟩, _⟩ := HC.out w1 f1
  have hs2 := HS.out w1 (HR.out.1.below f1) (HR.out.2.below f1)
  have H1 := hid (HB.out.trans (f1.mono HB.out.size))
  clear f1
  go_wp2_with fail
  refine hs2.mono ?_
  rintro e w2 ⟨rfl, q, rfl⟩
  have H2 := hid (H1.out.trans ((below_drewN w1 q).mono H1.out.size))
  clear s0 s1 s2 t0 t1 t2 hs2
  go_wp2
  go_ret
  exact ⟨rfl, H2.out⟩
end Go.Proofs.YtcankknlbljicaaGreatDoor
