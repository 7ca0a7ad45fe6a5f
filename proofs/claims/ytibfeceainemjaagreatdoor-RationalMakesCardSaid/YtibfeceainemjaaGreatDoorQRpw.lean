/- Rationals: the reference's Pow. -/
import Derived.Test.YtibfeceainemjaaGreatDoorQbc
import Derived.Test.YtibfeceainemjaaGreatDoorQ1

set_option linter.unusedVariables false
set_option linter.unusedSimpArgs false
set_option linter.unusedSectionVars false

namespace Go.Proofs.YtibfeceainemjaaGreatDoor
open Go.RowKit Num

theorem RetRatE.errB {q : Rat} {er : Int} {w w4 : World} (he : er ≠ 0) (hb : Below w.heap.size w w4) :
    RetRatE q er w (.returned (.tuple #[.agg #[.bool false, .slice none 0 0, .slice none 0 0], .int .i64 er])) w4 := by
  have e1 : rnm q er = [] := if_neg he
  have e2 : rdn q er = [] := if_neg he
  have e3 : rsg q er = false := by simp [rsg, he]
  refine ⟨none, 0, none, 0, ?_, ?_, ?_, hb⟩
  · rw [e1, e2, e3]; rfl
  · rw [e1]; exact Own.nil _ _
  · rw [e2]; exact Own.nil _ _
theorem pow_sz {q : Rat} {n : Nat} (h : Sz q n) (k : Nat) : Sz (q ^ k) (k * n + 1) := by
  induction k with
  | zero =>
    rw [Rat.pow_zero]
    refine ⟨?_, ?_⟩
    · exact nd_length_le (by rw [Nat.zero_mul]; exact (by decide : (1 : Nat) < 4294967296 ^ (0 + 1)))
    · exact nd_length_le (by rw [Nat.zero_mul]; exact (by decide : (1 : Nat) < 4294967296 ^ (0 + 1)))
  | succ k ih =>
    rw [Rat.pow_succ]
    exact (ih.mul h).mono (by rw [Nat.succ_mul]; omega)
theorem one_pow0 (q : Rat) : ((1 : Int) : Rat) = q ^ 0 := by rw [Rat.pow_zero]; rfl

set_option maxRecDepth 100000 in
set_option maxHeartbeats 3200000 in
theorem rpw3_err {w : World} {b : Bool} {ao : Option Addr} {c : Nat} {xs : List Nat} {ad : Option Addr} {d : Nat} {ds : List Nat} {q : Rat} {n : Nat} (h : Rq w b ao c xs ad d ds q n) (k : Int) (hk : k < 0 ∨ 64 < k) (Q : Rat) :
    Calls Tryz.prog 42 #[.agg #[.bool b, .slice ao xs.length c, .slice ad ds.length d], .int .i64 k] w (RetRatE Q 1 w) := by
  have hle1 := h.rn.le
  have hcm1 := h.rn.cm
  have hle2 := h.rd.le
  have hcm2 := h.rd.cm
  have hB := A2_below w (.cells #[.bool b, .slice ao xs.length c, .slice ad ds.length d] 26) (.cells #[.bool false, .slice none 0 0, .slice none 0 0] 26)
  have HH := hid (A2_heap w (.cells #[.bool b, .slice ao xs.length c, .slice ad ds.length d] 26) (.cells #[.bool false, .slice none 0 0, .slice none 0 0] 26))
  have HSZ := hid (A2_size w (.cells #[.bool b, .slice ao xs.length c, .slice ad ds.length d] 26) (.cells #[.bool false, .slice none 0 0, .slice none 0 0] 26))
  have HB := hid hB
  unfold A2 at HH HSZ HB
  clear h hB
  have n01 : ¬ (w.heap.size = w.heap.size + 1 + 1) := by omega
  have n02 : ¬ (w.heap.size + 1 + 1 = w.heap.size) := by omega
  have n03 : ¬ (w.heap.size + 1 = w.heap.size + 1 + 1) := by omega
  have n04 : ¬ (w.heap.size + 1 + 1 = w.heap.size + 1) := by omega
  have n05 : ¬ (w.heap.size = w.heap.size + 1) := by omega
  have n06 : ¬ (w.heap.size + 1 = w.heap.size) := by omega
  rcases hk with hk | hk
  · go_enter Tryz.func42, Tryz.ntmps42
    go_wp2
    refine bodyPost_ret (v := .tuple #[.agg #[.bool false, .slice none 0 0, .slice none 0 0], .int .i64 1]) (by simp [results, Tryz.results42, go_sem]) rfl ?_
    exact RetRatE.errB (by decide) HB.out
  · have hk' : ¬ k < 0 := by omega
    go_enter Tryz.func42, Tryz.ntmps42
    go_wp2
    refine bodyPost_ret (v := .tuple #[.agg #[.bool false, .slice none 0 0, .slice none 0 0], .int .i64 1]) (by simp [results, Tryz.results42, go_sem]) rfl ?_
    exact RetRatE.errB (by decide) HB.out

set_option maxRecDepth 100000 in
set_option maxHeartbeats 6400000 in
theorem rpw3_ok {w : World} {b : Bool} {ao : Option Addr} {c : Nat} {xs : List Nat} {ad : Option Addr} {d : Nat} {ds : List Nat} {q : Rat} {n : Nat} (h : Rq w b ao c xs ad d ds q n) (hn : n ≤ 999999999) (k : Nat) (hk : k ≤ 64) :
    Calls Tryz.prog 42 #[.agg #[.bool b, .slice ao xs.length c, .slice ad ds.length d], .int .i64 (k : Int)] w (RetRatE (q ^ k) 0 w) := by
  have hle1 := h.rn.le
  have hcm1 := h.rn.cm
  have hle2 := h.rd.le
  have hcm2 := h.rd.cm
  have hB := A2_below w (.cells #[.bool b, .slice ao xs.length c, .slice ad ds.length d] 26) (.cells #[.bool false, .slice none 0 0, .slice none 0 0] 26)
  have HH := hid (A2_heap w (.cells #[.bool b, .slice ao xs.length c, .slice ad ds.length d] 26) (.cells #[.bool false, .slice none 0 0, .slice none 0 0] 26))
  have HSZ := hid (A2_size w (.cells #[.bool b, .slice ao xs.length c, .slice ad ds.length d] 26) (.cells #[.bool false, .slice none 0 0, .slice none 0 0] 26))
  have HB := hid hB
  have HZ := hid (fun i => pow_sz h.sz i)
  have HR := hid (h.below hB)
  have HOF := hid (fun w' => show Calls Tryz.prog 44 #[.int .i64 1] w' (RetRat (q ^ 0) w') from by
    rw [← one_pow0 q]; exact rof3_any 1 w' (by omega) (by omega))
  obtain ⟨Z, hZ⟩ : ∃ Z, Z = q ^ 0 := ⟨_, rfl⟩
  obtain ⟨Q, hQ⟩ : ∃ Q, Q = q ^ k := ⟨_, rfl⟩
  simp only [← hZ] at HOF
  rw [← hQ]
  have HZ0 := hid hZ
  have HQ0 := hid hQ
  have hk1 : ¬ ((k : Int) < 0) := by omega
  have hk2 : ¬ (64 < (k : Int)) := by omega
  unfold A2 at HH HSZ HB HR
  clear h hB hZ hQ
  have n01 : ¬ (w.heap.size = w.heap.size + 1 + 1) := by omega
  have n02 : ¬ (w.heap.size + 1 + 1 = w.heap.size) := by omega
  have n03 : ¬ (w.heap.size + 1 = w.heap.size + 1 + 1) := by omega
  have n04 : ¬ (w.heap.size + 1 + 1 = w.heap.size + 1) := by omega
  have n05 : ¬ (w.heap.size = w.heap.size + 1) := by omega
  have n06 : ¬ (w.heap.size + 1 = w.heap.size) := by omega
  go_enter Tryz.func42, Tryz.ntmps42
  go_wp2_with fail
  obtain ⟨w0, hw0⟩ : ∃ x, x = ((w.alloc (.cells #[.bool b, .slice ao xs.length c, .slice ad ds.length d] 26)).alloc (.cells #[.bool false, .slice none 0 0, .slice none 0 0] 26)) := ⟨_, rfl⟩
  rw [← hw0] at HH HSZ HB HR ⊢
  clear hw0
  refine (HOF.out w0).mono ?_
  rintro e w1 ⟨a1, c1, d1, e1, rfl, o1, u1, f1⟩
  have hv1 := o1.rd.le
  have hv2 := o1.rd.cm
  have hv3 := u1.rd.le
  have hv4 := u1.rd.cm
  have HI0 := hid (And.intro HZ0.out (And.intro (heap_alloc_at w1 (.cells #[.bool (decide (Z.num < 0)), .slice a1 (nd Z.num.natAbs).length c1, .slice d1 (nd Z.den).length e1] 26)) (And.intro (own_al o1 (.cells #[.bool (decide (Z.num < 0)), .slice a1 (nd Z.num.natAbs).length c1, .slice d1 (nd Z.den).length e1] 26)) (And.intro (own_al u1 (.cells #[.bool (decide (Z.num < 0)), .slice a1 (nd Z.num.natAbs).length c1, .slice d1 (nd Z.den).length e1] 26)) (below_al f1 (.cells #[.bool (decide (Z.num < 0)), .slice a1 (nd Z.num.natAbs).length c1, .slice d1 (nd Z.den).length e1] 26))))))
  have HG := hid f1.size
  have ng1 : ¬ (w.heap.size = w1.heap.size) := by have := HSZ.out; have := f1.size; omega
  have ng2 : ¬ (w1.heap.size = w.heap.size) := fun h => ng1 h.symm
  have ng3 : ¬ (w.heap.size + 1 = w1.heap.size) := by have := HSZ.out; have := f1.size; omega
  have ng4 : ¬ (w1.heap.size = w.heap.size + 1) := fun h => ng3 h.symm
  clear o1 u1 f1
  go_wp2
  go_loopw [1] (fun nv wr => ∃ (i : Nat) (V : Rat) (a3 : Option Addr) (c3 : Nat) (d3 : Option Addr) (e3 : Nat), i ≤ k ∧ nv = .int .i64 ((k : Int) - (i : Int)) ∧ Hid (V = q ^ i ∧ wr.heap[w1.heap.size]? = some (.cells #[.bool (decide (V.num < 0)), .slice a3 (nd V.num.natAbs).length c3, .slice d3 (nd V.den).length e3] 26 (0, 0)) ∧ Own w0.heap.size wr a3 c3 (nd V.num.natAbs) ∧ Own w0.heap.size wr d3 e3 (nd V.den) ∧ Below w0.heap.size w0 wr)) (fun nv _ => (intOf nv).toNat)
  case atStart =>
    exact ⟨0, Z, a1, c1, d1, e1, Nat.zero_le _, int_eq (by omega), HI0⟩
  case round =>
    obtain ⟨i, V, a3, c3, d3, e3, hi, rfl, HI⟩ := hrel
    have hx1 := HI.out.2.2.1.rd.le
    have hx2 := HI.out.2.2.1.rd.cm
    have hx3 := HI.out.2.2.2.1.rd.le
    have hx4 := HI.out.2.2.2.1.rd.cm
    obtain ⟨r0, r1, r2, _⟩ := cells3 HI.out.2.1 (Below.refl _ _)
    by_cases hlt : i < k
    · obtain ⟨t0, t1, t2, _⟩ := cells3 HH.out.1 HI.out.2.2.2.2
      have hsz : Sz V (64 * 1000000000 + 1) := by
        rw [HI.out.1]
        exact (HZ.out i).mono (Nat.add_le_add_right (Nat.mul_le_mul (show i ≤ 64 by omega) (show n + 1 ≤ 1000000000 by omega)) 1)
      have hmul := rmul3_any (Rq.own HI.out.2.2.1 HI.out.2.2.2.1 hsz) (HR.out.below HI.out.2.2.2.2) (by omega) (by omega)
      obtain ⟨U, hU⟩ : ∃ U, U = V * q := ⟨_, rfl⟩
      rw [← hU] at hmul
      have HU := hid hU
      have hpos : (k : Int) - (i : Int) > 0 := by omega
      clear hU HI0
      go_wp2_with fail
      refine hmul.mono ?_
      rintro e w3 ⟨a4, c4, d4, e4, rfl, o4, u4, f4⟩
      have hg := (Array.getElem?_eq_some_iff.1 HI.out.2.1).1
      have hG := HG.out
      have hwr := HI.out.2.2.2.2.size
      have hb4 := HI.out.2.2.2.2.trans (f4.mono HI.out.2.2.2.2.size)
      obtain ⟨y0, y1, y2, y3, y4, y5⟩ := cells3 HI.out.2.1 f4
      have hh4 := (f4.block w1.heap.size hg).trans HI.out.2.1
      have ho : ∀ a, a4 = some a → a.block ≠ w1.heap.size := fun a ha => by have := own_block o4 a ha; omega
      have hu : ∀ a, d4 = some a → a.block ≠ w1.heap.size := fun a ha => by have := own_block u4 a ha; omega
      have H5 := hid (And.intro (show U = q ^ (i + 1) by rw [HU.out, HI.out.1, Rat.pow_succ]) (And.intro (fun v0 v1 v2 => box3 (v0 := v0) (v1 := v1) (v2 := v2) hh4) (And.intro (fun v0 v1 v2 => own_set 2 v2 ho (own_set 1 v1 ho (own_set 0 v0 ho (o4.mono hwr)))) (And.intro (fun v0 v1 v2 => own_set 2 v2 hu (own_set 1 v1 hu (own_set 0 v0 hu (u4.mono hwr)))) (fun v0 v1 v2 => below_set 2 v2 hG (below_set 1 v1 hG (below_set 0 v0 hG hb4)))))))
      clear hmul o4 u4 f4 hb4 hh4 ho hu hg hG hwr r0 r1 r2 t0 t1 t2
      go_wp2
      refine ⟨⟨i + 1, U, a4, c4, d4, e4, by omega, int_eq (by omega), hid ⟨H5.out.1, H5.out.2.1 _ _ _, H5.out.2.2.1 _ _ _, H5.out.2.2.2.1 _ _ _, H5.out.2.2.2.2 _ _ _⟩⟩, by simp [intOf]; omega⟩
    · obtain rfl : i = k := by omega
      have hVQ : V = Q := by rw [HI.out.1, HQ0.out]
      subst hVQ
      obtain ⟨k0, k1, k2, k3, k4, k5⟩ := cells3 HH.out.2 HI.out.2.2.2.2
      clear HI0
      go_wp2
      have hsz := HSZ.out
      refine bodyPost_ret (v := .tuple #[.agg #[.bool (decide (V.num < 0)), .slice a3 (nd V.num.natAbs).length c3, .slice d3 (nd V.den).length e3], .int .i64 0]) (by simp [results, Tryz.results42, go_sem, k0, k1, k2]) rfl ?_
      exact RetRatE.fin HI.out.2.2.1 HI.out.2.2.2.1 (by omega) (HB.out.trans (HI.out.2.2.2.2.mono HB.out.size)) (by omega) _ _ _
end Go.Proofs.YtibfeceainemjaaGreatDoor
