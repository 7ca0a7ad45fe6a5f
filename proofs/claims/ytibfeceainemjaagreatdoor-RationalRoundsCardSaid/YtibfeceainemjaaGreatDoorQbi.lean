/- Rationals: round to the nearest. · Rationals: Nearest. -/
import Derived.Test.YtibfeceainemjaaGreatDoorQ4

set_option linter.unusedVariables false
set_option linter.unusedSimpArgs false
set_option linter.unusedSectionVars false

namespace Go.Proofs.YtibfeceainemjaaGreatDoor
open Go.RowKit Num

set_option maxRecDepth 100000 in
set_option maxHeartbeats 6400000 in
theorem round_nearest {w : World} {b : Bool} {ao : Option Addr} {c : Nat} {xs : List Nat} {ad : Option Addr} {d : Nat} {ds : List Nat} {q : Rat} {n : Nat} (h : Rq w b ao c xs ad d ds q n) (hn : n ≤ 999999999980) (hT : Tb w) (k : Nat) (hk : k ≤ 256) :
    Calls Tryz.prog 124 #[.agg #[.bool b, .slice ao xs.length c, .slice ad ds.length d], .int .i64 (k : Int), .func (.func 129) #[] #[]] w (RetRatE (neQ q k) 0 w) := by
  have hle1 := h.rn.le
  have hcm1 := h.rn.cm
  have hle2 := h.rd.le
  have hcm2 := h.rd.cm
  have hB := A2_below w (.cells #[.bool b, .slice ao xs.length c, .slice ad ds.length d] 26) (.cells #[.bool false, .slice none 0 0, .slice none 0 0] 26)
  have HH := hid (A2_heap w (.cells #[.bool b, .slice ao xs.length c, .slice ad ds.length d] 26) (.cells #[.bool false, .slice none 0 0, .slice none 0 0] 26))
  have HSZ := hid (A2_size w (.cells #[.bool b, .slice ao xs.length c, .slice ad ds.length d] 26) (.cells #[.bool false, .slice none 0 0, .slice none 0 0] 26))
  have HB := hid hB
  have HT := hid (hT.below hB)
  have hr := read_r (h.below hB) (show n ≤ 4398046511103 by omega)
  have hk1 : ¬ ((k : Int) < 0) := by omega
  have hk2 : ¬ ((256 : Int) < (k : Int)) := by omega
  unfold A2 at HH HSZ HB HT hr
  clear h hB hT
  go_enter Tryz.func124, Tryz.ntmps124
  go_wp2_with fail
  obtain ⟨w0, hw0⟩ : ∃ x, x = ((w.alloc (.cells #[.bool b, .slice ao xs.length c, .slice ad ds.length d] 26)).alloc (.cells #[.bool false, .slice none 0 0, .slice none 0 0] 26)) := ⟨_, rfl⟩
  rw [← hw0] at HH HSZ HB HT hr ⊢
  clear hw0
  refine hr.mono ?_
  rintro e w1 ⟨b1, a1, c1, x1, d1, e1, y1, rfl, F1, f1⟩
  have hl3 := F1.ln
  have hv3 := F1.rn.le
  have hv4 := F1.rd.le
  have hw3 := F1.rn.cm
  have hw4 := F1.rd.cm
  have gb := below_alloc w1 (.cells #[.bool b1, .slice a1 x1.length c1, .slice d1 y1.length e1] 75)
  have QF := hid (heap_alloc_at w1 (.cells #[.bool b1, .slice a1 x1.length c1, .slice d1 y1.length e1] 75))
  have hsf := shift_any a1 c1 (k : Int) x1 _ (F1.rn.below gb) (by omega) (by omega) (by omega)
  rw [shiftN_k hk] at hsf
  have HF := hid F1
  have H1 := hid (And.intro f1 (And.intro gb (show (w1.alloc (.cells #[.bool b1, .slice a1 x1.length c1, .slice d1 y1.length e1] 75)).heap.size = w1.heap.size + 1 by simp)))
  clear hr F1 f1 gb
  go_wp2_with fail
  obtain ⟨wf, hwf⟩ : ∃ x, x = w1.alloc (.cells #[.bool b1, .slice a1 x1.length c1, .slice d1 y1.length e1] 75) := ⟨_, rfl⟩
  rw [← hwf] at QF hsf H1 ⊢
  clear hwf
  obtain ⟨X3, hX3⟩ : ∃ X, X = nd (val x1 * 2 ^ k) := ⟨_, rfl⟩
  have hFS := hid (fun (W : World) (a3 : Option Addr) (c3 : Nat) (h3 : Rd W a3 c3 (nd (val x1 * 2 ^ k))) (hw : Below w1.heap.size w1 W) => (HF.out.below hw).shift hk h3)
  rw [← hX3] at hsf
  simp only [← hX3] at hFS
  clear hX3
  refine hsf.mono ?_
  rintro e w3 ⟨a3, c3, rfl, o3, f3⟩
  have hv5 := o3.rd.le
  have hw5 := o3.rd.cm
  obtain ⟨s0, s1, s2, s3, s4, s5⟩ := cells3 QF.out f3
  have p3 := H1.out.2.1.trans (f3.mono H1.out.2.1.size)
  have B4 := hid (below_set (u := w1) 1 (.slice a3 X3.length c3) (Nat.le_refl _) p3)
  have O4 := hid (show Own wf.heap.size (w3.setCell ⟨w1.heap.size, 1, none⟩ (.slice a3 X3.length c3)) a3 c3 X3 from o3.setOld (by have := H1.out.2.2; omega) _)
  have K3 := hid ((f3.block (w.heap.size + 1) (by have := HSZ.out; have := H1.out; have := H1.out.1.size; omega)).trans ((H1.out.2.1.block (w.heap.size + 1) (by have := HSZ.out; have := H1.out.1.size; omega)).trans ((H1.out.1.block (w.heap.size + 1) (by have := HSZ.out; omega)).trans HH.out.2)))
  have Z3 := hid f3.size
  clear hsf o3 f3 p3
  go_wp2_with fail
  obtain ⟨w4, hw4e⟩ : ∃ x, x = w3.setCell ⟨w1.heap.size, 1, none⟩ (.slice a3 X3.length c3) := ⟨_, rfl⟩
  have K4 := hid (show w4.heap[w.heap.size + 1]? = some (.cells #[.bool false, .slice none 0 0, .slice none 0 0] 26) from by rw [hw4e, heap_set _ _ _ _ _ (by have := HSZ.out; have := H1.out.1.size; omega)]; exact K3.out)
  have Z4 := hid (show wf.heap.size ≤ w4.heap.size from by rw [hw4e, setCell_size]; exact Z3.out)
  rw [← hw4e] at B4 O4 ⊢
  clear hw4e s0 s1 s2 s3 s4 s5 K3 Z3
  have F4 := hFS.out w4 a3 c3 O4.out.rd B4.out
  have PW := hid (HB.out.trans ((H1.out.1.trans (B4.out.mono H1.out.1.size)).mono HB.out.size))
  have T4 := hid (HT.out.below (H1.out.1.trans (B4.out.mono H1.out.1.size)))
  have hf := nearest_r F4 (by omega) T4.out
  have hs4 := F4.sz
  have lZ : (nd (((q * mkRat (2 ^ k : Nat) 1) + mkRat 1 2).floor).natAbs).length ≤ n + 1 + 9 + 3 := Nat.le_trans (floor_size (hs4.add half_size)) (by omega)
  have hval : mkRat (((q * mkRat (2 ^ k : Nat) 1) + mkRat 1 2).floor) (2 ^ k) = neQ q k := by unfold neQ dnQ; rw [Rat.add_mul, half_p2]
  obtain ⟨Z, hZ⟩ : ∃ Z, Z = (((q * mkRat (2 ^ k : Nat) 1) + mkRat 1 2).floor) := ⟨_, rfl⟩
  rw [← hZ] at hf lZ hval
  clear hZ F4 hs4
  refine hf.mono ?_
  rintro e w5 ⟨a5, c5, rfl, o5, f5⟩
  have hv6 := o5.rd.le
  have hw6 := o5.rd.cm
  have gb6 := below_alloc w5 (.cells #[.int .u32 1] 52)
  have hs6 := shift_any (some ⟨w5.heap.size, 0, none⟩) 1 (k : Int) [1] (w5.alloc (.cells #[.int .u32 1] 52)) (rd_lit (x := 1) (heap_alloc_at w5 _) (by omega)) (by simp) (by omega) (by omega)
  rw [shiftN_k hk, show val [1] * 2 ^ k = 2 ^ k by simp [val], show ([1] : List Nat).length = 1 from rfl] at hs6
  have H5 := hid (And.intro (f5.trans (gb6.mono f5.size)) (own_al o5 (.cells #[.int .u32 1] 52)))
  clear hf o5 f5 gb6
  go_wp2_with fail
  obtain ⟨w6, hw6e⟩ : ∃ x, x = w5.alloc (.cells #[.int .u32 1] 52) := ⟨_, rfl⟩
  rw [← hw6e] at hs6 H5 ⊢
  clear hw6e
  have hp2 : 2 ^ k ≠ 0 := p2_ne k
  have lp : (nd (2 ^ k)).length ≤ n + 1 + 9 + 3 := Nat.le_trans (nd_length_le (p2_lt hk)) (by omega)
  obtain ⟨P, hP⟩ : ∃ P, P = 2 ^ k := ⟨_, rfl⟩
  rw [← hP] at hs6 hp2 lp hval
  clear hP
  refine hs6.mono ?_
  rintro e w7 ⟨a7, c7, rfl, o7, f7⟩
  have hv7 := o7.rd.le
  have hw7 := o7.rd.cm
  have ho := over_any (decide (Z < 0)) a5 a7 (nd Z.natAbs).length c5 (nd P).length c7 w7
  have H7 := hid (And.intro (H5.out.1.trans (f7.mono H5.out.1.size)) (And.intro (H5.out.2.below f7) o7))
  clear hs6 o7 f7
  go_wp2_with fail
  refine ho.mono ?_
  rintro e w8 ⟨rfl, f8⟩
  have p8 := H7.out.1.trans (f8.mono H7.out.1.size)
  have F8 : Fr w8 (decide (Z < 0)) a5 c5 (nd Z.natAbs) a7 c7 (nd P) (neQ q k) (n + 1 + 9 + 3) := ⟨(H7.out.2.1.below f8).rd, (H7.out.2.2.below f8).rd, by rw [val_nd]; exact hp2, by rw [val_nd, val_nd, iv_self]; exact hval, lZ, lp⟩
  have hl := lowest_r F8 (by omega) (T4.out.below p8)
  have H8 := hid (And.intro p8 p8.size)
  clear ho f8 p8 F8 hval hp2 lp lZ
  obtain ⟨r, hr⟩ : ∃ r, r = neQ q k := ⟨_, rfl⟩
  rw [← hr] at hl
  go_wp2_with fail
  refine hl.mono ?_
  rintro e w9 ⟨a9, c9, d9, e9, rfl, o9, u9, f9⟩
  have p9 := H8.out.1.trans (f9.mono H8.out.1.size)
  obtain ⟨k0, k1, k2, k3, k4, k5⟩ := cells3 K4.out p9
  have H9 := hid (And.intro o9 (And.intro u9 p9))
  clear hl o9 u9 f9 p9
  have HRR := hid hr
  clear hr
  go_wp2
  have hsz := HSZ.out
  have hz4 := Z4.out
  have hz1 := H1.out.1.size
  have hz8 := H8.out.2
  refine bodyPost_ret (v := .tuple #[.agg #[.bool (decide (r.num < 0)), .slice a9 (nd r.num.natAbs).length c9, .slice d9 (nd r.den).length e9], .int .i64 0]) (by simp [results, Tryz.results124, go_sem, k0, k1, k2]) rfl ?_
  rw [← HRR.out]
  exact RetRatE.fin H9.out.1 H9.out.2.1 (by have := H1.out.2.2; omega) (PW.out.trans (H9.out.2.2.mono PW.out.size)) (by omega) _ _ _

end Go.Proofs.YtibfeceainemjaaGreatDoor

namespace Go.Proofs.YtibfeceainemjaaGreatDoor
open Go.RowKit Num

set_option maxRecDepth 100000 in
set_option maxHeartbeats 3200000 in
theorem near3_ok {w : World} {b : Bool} {ao : Option Addr} {c : Nat} {xs : List Nat} {ad : Option Addr} {d : Nat} {ds : List Nat} {q : Rat} {n : Nat} (h : Rq w b ao c xs ad d ds q n) (hn : n ≤ 999999999980) (hT : Tb w) (k : Nat) (hk : k ≤ 256) :
    Calls Tryz.prog 50 #[.agg #[.bool b, .slice ao xs.length c, .slice ad ds.length d], .int .i64 (k : Int)] w (RetRatE (neQ q k) 0 w) := by
  have hle1 := h.rn.le
  have hcm1 := h.rn.cm
  have hle2 := h.rd.le
  have hcm2 := h.rd.cm
  have hB := A2_below w (.cells #[.bool b, .slice ao xs.length c, .slice ad ds.length d] 26) (.cells #[.bool false, .slice none 0 0, .slice none 0 0] 26)
  have HH := hid (A2_heap w (.cells #[.bool b, .slice ao xs.length c, .slice ad ds.length d] 26) (.cells #[.bool false, .slice none 0 0, .slice none 0 0] 26))
  have HSZ := hid (A2_size w (.cells #[.bool b, .slice ao xs.length c, .slice ad ds.length d] 26) (.cells #[.bool false, .slice none 0 0, .slice none 0 0] 26))
  have HB := hid hB
  have hr := round_nearest (h.below hB) hn (hT.below hB) k hk
  obtain ⟨r, hrr⟩ : ∃ r, r = neQ q k := ⟨_, rfl⟩
  rw [← hrr] at hr ⊢
  unfold A2 at HH HSZ HB hr
  clear h hB hT hrr
  go_enter Tryz.func50, Tryz.ntmps50
  go_wp2_with fail
  obtain ⟨w0, hw0⟩ : ∃ x, x = ((w.alloc (.cells #[.bool b, .slice ao xs.length c, .slice ad ds.length d] 26)).alloc (.cells #[.bool false, .slice none 0 0, .slice none 0 0] 26)) := ⟨_, rfl⟩
  rw [← hw0] at HH HSZ HB hr ⊢
  clear hw0
  refine hr.mono ?_
  rintro e w1 ⟨a1, c1, d1, e1, rfl, o1, u1, f1⟩
  obtain ⟨k0, k1, k2, k3, k4, k5⟩ := cells3 HH.out.2 f1
  have H1 := hid (And.intro o1 (And.intro u1 f1))
  clear hr o1 u1 f1
  go_wp2
  have hsz := HSZ.out
  refine bodyPost_ret (v := .tuple #[.agg #[.bool (rsg r 0), .slice a1 (rnm r 0).length c1, .slice d1 (rdn r 0).length e1], .int .i64 0]) (by simp [results, Tryz.results50, go_sem, k0, k1, k2]) rfl ?_
  exact RetRatE.fin2 H1.out.1 H1.out.2.1 (by omega) (HB.out.trans (H1.out.2.2.mono HB.out.size)) (by omega) _ _ _

set_option maxRecDepth 100000 in
set_option maxHeartbeats 3200000 in
theorem near3_err {w : World} {b : Bool} {ao : Option Addr} {c : Nat} {xs : List Nat} {ad : Option Addr} {d : Nat} {ds : List Nat} {q : Rat} {n : Nat} (h : Rq w b ao c xs ad d ds q n) (k : Int) (hk : k < 0 ∨ 256 < k) (p : Rat) :
    Calls Tryz.prog 50 #[.agg #[.bool b, .slice ao xs.length c, .slice ad ds.length d], .int .i64 k] w (RetRatE p 1 w) := by
  have hle1 := h.rn.le
  have hcm1 := h.rn.cm
  have hle2 := h.rd.le
  have hcm2 := h.rd.cm
  have hB := A2_below w (.cells #[.bool b, .slice ao xs.length c, .slice ad ds.length d] 26) (.cells #[.bool false, .slice none 0 0, .slice none 0 0] 26)
  have HH := hid (A2_heap w (.cells #[.bool b, .slice ao xs.length c, .slice ad ds.length d] 26) (.cells #[.bool false, .slice none 0 0, .slice none 0 0] 26))
  have HSZ := hid (A2_size w (.cells #[.bool b, .slice ao xs.length c, .slice ad ds.length d] 26) (.cells #[.bool false, .slice none 0 0, .slice none 0 0] 26))
  have HB := hid hB
  have hr := round_err (h.below hB) (.func (.func 129) #[] #[]) k hk p
  unfold A2 at HH HSZ HB hr
  clear h hB
  go_enter Tryz.func50, Tryz.ntmps50
  go_wp2_with fail
  obtain ⟨w0, hw0⟩ : ∃ x, x = ((w.alloc (.cells #[.bool b, .slice ao xs.length c, .slice ad ds.length d] 26)).alloc (.cells #[.bool false, .slice none 0 0, .slice none 0 0] 26)) := ⟨_, rfl⟩
  rw [← hw0] at HH HSZ HB hr ⊢
  clear hw0
  refine hr.mono ?_
  rintro e w1 ⟨a1, c1, d1, e1, rfl, o1, u1, f1⟩
  obtain ⟨k0, k1, k2, k3, k4, k5⟩ := cells3 HH.out.2 f1
  have H1 := hid (And.intro o1 (And.intro u1 f1))
  clear hr o1 u1 f1
  go_wp2
  have hsz := HSZ.out
  refine bodyPost_ret (v := .tuple #[.agg #[.bool (rsg p 1), .slice a1 (rnm p 1).length c1, .slice d1 (rdn p 1).length e1], .int .i64 1]) (by simp [results, Tryz.results50, go_sem, k0, k1, k2]) rfl ?_
  exact RetRatE.fin2 H1.out.1 H1.out.2.1 (by omega) (HB.out.trans (H1.out.2.2.mono HB.out.size)) (by omega) _ _ _

end Go.Proofs.YtibfeceainemjaaGreatDoor
