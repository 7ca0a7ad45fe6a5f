/- Rationals: the reference's Pow. · Rationals: the reference's Down, Up. · Rationals: the reference's Nearest. · Rationals: Down, Up, Nearest of both sides, every number of bits, as the walk of RationalRounds wants them. -/
import Derived.Test.YtibfeceainemjaaGreatDoorQbc
import Derived.Test.YtibfeceainemjaaGreatDoorQ1
import Derived.Test.YtibfeceainemjaaGreatDoorQbf
import Derived.Test.YtibfeceainemjaaGreatDoorQbd
import Derived.Test.YtibfeceainemjaaGreatDoorQbi
import Derived.Test.YtibfeceainemjaaGreatDoorQbh

set_option linter.unusedVariables false
set_option linter.unusedSimpArgs false
set_option linter.unusedSectionVars false

namespace Go.Proofs.YtibfeceainemjaaGreatDoor
open Go.RowKit Num

theorem RetRatE.errB {q : Rat} {er : Int} {w w4 : World} (he : er ≠ 0) (hb : Below w.heap.size w w4) :
    RetRatE q er w (.returned (.tuple #[.agg #[.bool false, .slice none 0 0, .slice none 0 0], .int .i64 er])) w4 := by
  have e1 : rnm q er = [] := if_neg he
  have e2 : rdn q er = [] := if_neg he
  have e3 : rsg q er = false := by simp [rsg, he]
  refine ⟨none, 0, none, 0, ?_, ?_, ?_, hb⟩
  · rw [e1, e2, e3]; rfl
  · rw [e1]; exact Own.nil _ _
  · rw [e2]; exact Own.nil _ _
theorem pow_sz {q : Rat} {n : Nat} (h : Sz q n) (k : Nat) : Sz (q ^ k) (k * n + 1) := by
  induction k with
  | zero =>
    rw [Rat.pow_zero]
    refine ⟨?_, ?_⟩
    · exact nd_length_le (by rw [Nat.zero_mul]; exact (by decide : (1 : Nat) < 4294967296 ^ (0 + 1)))
    · exact nd_length_le (by rw [Nat.zero_mul]; exact (by decide : (1 : Nat) < 4294967296 ^ (0 + 1)))
  | succ k ih =>
    rw [Rat.pow_succ]
    exact (ih.mul h).mono (by rw [Nat.succ_mul]; omega)
theorem one_pow0 (q : Rat) : ((1 : Int) : Rat) = q ^ 0 := by rw [Rat.pow_zero]; rfl

set_option maxRecDepth 100000 in
set_option maxHeartbeats 3200000 in
theorem rpw3_err {w : World} {b : Bool} {ao : Option Addr} {c : Nat} {xs : List Nat} {ad : Option Addr} {d : Nat} {ds : List Nat} {q : Rat} {n : Nat} (h : Rq w b ao c xs ad d ds q n) (k : Int) (hk : k < 0 ∨ 64 < k) (Q : Rat) :
    Calls Tryz.prog 42 #[.agg #[.bool b, .slice ao xs.length c, .slice ad ds.length d], .int .i64 k] w (RetRatE Q 1 w) := by
  have hle1 := h.rn.le
  have hcm1 := h.rn.cm
  have hle2 := h.rd.le
  have hcm2 := h.rd.cm
  have hB := A2_below w (.cells #[.bool b, .slice ao xs.length c, .slice ad ds.length d] 26) (.cells #[.bool false, .slice none 0 0, .slice none 0 0] 26)
  have HH := hid (A2_heap w (.cells #[.bool b, .slice ao xs.length c, .slice ad ds.length d] 26) (.cells #[.bool false, .slice none 0 0, .slice none 0 0] 26))
  have HSZ := hid (A2_size w (.cells #[.bool b, .slice ao xs.length c, .slice ad ds.length d] 26) (.cells #[.bool false, .slice none 0 0, .slice none 0 0] 26))
  have HB := hid hB
  unfold A2 at HH HSZ HB
  clear h hB
  have n01 : ¬ (w.heap.size = w.heap.size + 1 + 1) := by omega
  have n02 : ¬ (w.heap.size + 1 + 1 = w.heap.size) := by omega
  have n03 : ¬ (w.heap.size + 1 = w.heap.size + 1 + 1) := by omega
  have n04 : ¬ (w.heap.size + 1 + 1 = w.heap.size + 1) := by omega
  have n05 : ¬ (w.heap.size = w.heap.size + 1) := by omega
  have n06 : ¬ (w.heap.size + 1 = w.heap.size) := by omega
  rcases hk with hk | hk
  · go_enter Tryz.func42, Tryz.ntmps42
    go_wp2
    refine bodyPost_ret (v := .tuple #[.agg #[.bool false, .slice none 0 0, .slice none 0 0], .int .i64 1]) (by simp [results, Tryz.results42, go_sem]) rfl ?_
    exact RetRatE.errB (by decide) HB.out
  · have hk' : ¬ k < 0 := by omega
    go_enter Tryz.func42, Tryz.ntmps42
    go_wp2
    refine bodyPost_ret (v := .tuple #[.agg #[.bool false, .slice none 0 0, .slice none 0 0], .int .i64 1]) (by simp [results, Tryz.results42, go_sem]) rfl ?_
    exact RetRatE.errB (by decide) HB.out

set_option maxRecDepth 100000 in
set_option maxHeartbeats 6400000 in
theorem rpw3_ok {w : World} {b : Bool} {ao : Option Addr} {c : Nat} {xs : List Nat} {ad : Option Addr} {d : Nat} {ds : List Nat} {q : Rat} {n : Nat} (h : Rq w b ao c xs ad d ds q n) (hn : n ≤ 999999999) (k : Nat) (hk : k ≤ 64) :
    Calls Tryz.prog 42 #[.agg #[.bool b, .slice ao xs.length c, .slice ad ds.length d], .int .i64 (k : Int)] w (RetRatE (q ^ k) 0 w) := by
  have hle1 := h.rn.le
  have hcm1 := h.rn.cm
  have hle2 := h.rd.le
  have hcm2 := h.rd.cm
  have hB := A2_below w (.cells #[.bool b, .slice ao xs.length c, .slice ad ds.length d] 26) (.cells #[.bool false, .slice none 0 0, .slice none 0 0] 26)
  have HH := hid (A2_heap w (.cells #[.bool b, .slice ao xs.length c, .slice ad ds.length d] 26) (.cells #[.bool false, .slice none 0 0, .slice none 0 0] 26))
  have HSZ := hid (A2_size w (.cells #[.bool b, .slice ao xs.length c, .slice ad ds.length d] 26) (.cells #[.bool false, .slice none 0 0, .slice none 0 0] 26))
  have HB := hid hB
  have HZ := hid (fun i => pow_sz h.sz i)
  have HR := hid (h.below hB)
  have HOF := hid (fun w' => show Calls Tryz.prog 44 #[.int .i64 1] w' (RetRat (q ^ 0) w') from by
    rw [← one_pow0 q]; exact rof3_any 1 w' (by omega) (by omega))
  obtain ⟨Z, hZ⟩ : ∃ Z, Z = q ^ 0 := ⟨_, rfl⟩
  obtain ⟨Q, hQ⟩ : ∃ Q, Q = q ^ k := ⟨_, rfl⟩
  simp only [← hZ] at HOF
  rw [← hQ]
  have HZ0 := hid hZ
  have HQ0 := hid hQ
  have hk1 : ¬ ((k : Int) < 0) := by omega
  have hk2 : ¬ (64 < (k : Int)) := by omega
  unfold A2 at HH HSZ HB HR
  clear h hB hZ hQ
  have n01 : ¬ (w.heap.size = w.heap.size + 1 + 1) := by omega
  have n02 : ¬ (w.heap.size + 1 + 1 = w.heap.size) := by omega
  have n03 : ¬ (w.heap.size + 1 = w.heap.size + 1 + 1) := by omega
  have n04 : ¬ (w.heap.size + 1 + 1 = w.heap.size + 1) := by omega
  have n05 : ¬ (w.heap.size = w.heap.size + 1) := by omega
  have n06 : ¬ (w.heap.size + 1 = w.heap.size) := by omega
  go_enter Tryz.func42, Tryz.ntmps42
  go_wp2_with fail
  obtain ⟨w0, hw0⟩ : ∃ x, x = ((w.alloc (.cells #[.bool b, .slice ao xs.length c, .slice ad ds.length d] 26)).alloc (.cells #[.bool false, .slice none 0 0, .slice none 0 0] 26)) := ⟨_, rfl⟩
  rw [← hw0] at HH HSZ HB HR ⊢
  clear hw0
  refine (HOF.out w0).mono ?_
  rintro e w1 ⟨a1, c1, d1, e1, rfl, o1, u1, f1⟩
  have hv1 := o1.rd.le
  have hv2 := o1.rd.cm
  have hv3 := u1.rd.le
  have hv4 := u1.rd.cm
  have HI0 := hid (And.intro HZ0.out (And.intro (heap_alloc_at w1 (.cells #[.bool (decide (Z.num < 0)), .slice a1 (nd Z.num.natAbs).length c1, .slice d1 (nd Z.den).length e1] 26)) (And.intro (own_al o1 (.cells #[.bool (decide (Z.num < 0)), .slice a1 (nd Z.num.natAbs).length c1, .slice d1 (nd Z.den).length e1] 26)) (And.intro (own_al u1 (.cells #[.bool (decide (Z.num < 0)), .slice a1 (nd Z.num.natAbs).length c1, .slice d1 (nd Z.den).length e1] 26)) (below_al f1 (.cells #[.bool (decide (Z.num < 0)), .slice a1 (nd Z.num.natAbs).length c1, .slice d1 (nd Z.den).length e1] 26))))))
  have HG := hid f1.size
  have ng1 : ¬ (w.heap.size = w1.heap.size) := by have := HSZ.out; have := f1.size; omega
  have ng2 : ¬ (w1.heap.size = w.heap.size) := fun h => ng1 h.symm
  have ng3 : ¬ (w.heap.size + 1 = w1.heap.size) := by have := HSZ.out; have := f1.size; omega
  have ng4 : ¬ (w1.heap.size = w.heap.size + 1) := fun h => ng3 h.symm
  clear o1 u1 f1
  go_wp2
  go_loopw [1] (fun nv wr => ∃ (i : Nat) (V : Rat) (a3 : Option Addr) (c3 : Nat) (d3 : Option Addr) (e3 : Nat), i ≤ k ∧ nv = .int .i64 ((k : Int) - (i : Int)) ∧ Hid (V = q ^ i ∧ wr.heap[w1.heap.size]? = some (.cells #[.bool (decide (V.num < 0)), .slice a3 (nd V.num.natAbs).length c3, .slice d3 (nd V.den).length e3] 26 (0, 0)) ∧ Own w0.heap.size wr a3 c3 (nd V.num.natAbs) ∧ Own w0.heap.size wr d3 e3 (nd V.den) ∧ Below w0.heap.size w0 wr)) (fun nv _ => (intOf nv).toNat)
  case atStart =>
    exact ⟨0, Z, a1, c1, d1, e1, Nat.zero_le _, int_eq (by omega), HI0⟩
  case round =>
    obtain ⟨i, V, a3, c3, d3, e3, hi, rfl, HI⟩ := hrel
    have hx1 := HI.out.2.2.1.rd.le
    have hx2 := HI.out.2.2.1.rd.cm
    have hx3 := HI.out.2.2.2.1.rd.le
    have hx4 := HI.out.2.2.2.1.rd.cm
    obtain ⟨r0, r1, r2, _⟩ := cells3 HI.out.2.1 (Below.refl _ _)
    by_cases hlt : i < k
    · obtain ⟨t0, t1, t2, _⟩ := cells3 HH.out.1 HI.out.2.2.2.2
      have hsz : Sz V (64 * 1000000000 + 1) := by
        rw [HI.out.1]
        exact (HZ.out i).mono (Nat.add_le_add_right (Nat.mul_le_mul (show i ≤ 64 by omega) (show n + 1 ≤ 1000000000 by omega)) 1)
      have hmul := rmul3_any (Rq.own HI.out.2.2.1 HI.out.2.2.2.1 hsz) (HR.out.below HI.out.2.2.2.2) (by omega) (by omega)
      obtain ⟨U, hU⟩ : ∃ U, U = V * q := ⟨_, rfl⟩
      rw [← hU] at hmul
      have HU := hid hU
      have hpos : (k : Int) - (i : Int) > 0 := by omega
      clear hU HI0
      go_wp2_with fail
      refine hmul.mono ?_
      rintro e w3 ⟨a4, c4, d4, e4, rfl, o4, u4, f4⟩
      have hg := (Array.getElem?_eq_some_iff.1 HI.out.2.1).1
      have hG := HG.out
      have hwr := HI.out.2.2.2.2.size
      have hb4 := HI.out.2.2.2.2.trans (f4.mono HI.out.2.2.2.2.size)
      obtain ⟨y0, y1, y2, y3, y4, y5⟩ := cells3 HI.out.2.1 f4
      have hh4 := (f4.block w1.heap.size hg).trans HI.out.2.1
      have ho : ∀ a, a4 = some a → a.block ≠ w1.heap.size := fun a ha => by have := own_block o4 a ha; omega
      have hu : ∀ a, d4 = some a → a.block ≠ w1.heap.size := fun a ha => by have := own_block u4 a ha; omega
      have H5 := hid (And.intro (show U = q ^ (i + 1) by rw [HU.out, HI.out.1, Rat.pow_succ]) (And.intro (fun v0 v1 v2 => box3 (v0 := v0) (v1 := v1) (v2 := v2) hh4) (And.intro (fun v0 v1 v2 => own_set 2 v2 ho (own_set 1 v1 ho (own_set 0 v0 ho (o4.mono hwr)))) (And.intro (fun v0 v1 v2 => own_set 2 v2 hu (own_set 1 v1 hu (own_set 0 v0 hu (u4.mono hwr)))) (fun v0 v1 v2 => below_set 2 v2 hG (below_set 1 v1 hG (below_set 0 v0 hG hb4)))))))
      clear hmul o4 u4 f4 hb4 hh4 ho hu hg hG hwr r0 r1 r2 t0 t1 t2
      go_wp2
      refine ⟨⟨i + 1, U, a4, c4, d4, e4, by omega, int_eq (by omega), hid ⟨H5.out.1, H5.out.2.1 _ _ _, H5.out.2.2.1 _ _ _, H5.out.2.2.2.1 _ _ _, H5.out.2.2.2.2 _ _ _⟩⟩, by simp [intOf]; omega⟩
    · obtain rfl : i = k := by omega
      have hVQ : V = Q := by rw [HI.out.1, HQ0.out]
      subst hVQ
      obtain ⟨k0, k1, k2, k3, k4, k5⟩ := cells3 HH.out.2 HI.out.2.2.2.2
      clear HI0
      go_wp2
      have hsz := HSZ.out
      refine bodyPost_ret (v := .tuple #[.agg #[.bool (decide (V.num < 0)), .slice a3 (nd V.num.natAbs).length c3, .slice d3 (nd V.den).length e3], .int .i64 0]) (by simp [results, Tryz.results42, go_sem, k0, k1, k2]) rfl ?_
      exact RetRatE.fin HI.out.2.2.1 HI.out.2.2.2.1 (by omega) (HB.out.trans (HI.out.2.2.2.2.mono HB.out.size)) (by omega) _ _ _
end Go.Proofs.YtibfeceainemjaaGreatDoor

namespace Go.Proofs.YtibfeceainemjaaGreatDoor
open Go.RowKit Num

set_option maxRecDepth 100000 in
set_option maxHeartbeats 3200000 in
theorem rdown3_err {w : World} {b : Bool} {ao : Option Addr} {c : Nat} {xs : List Nat} {ad : Option Addr} {d : Nat} {ds : List Nat} {q : Rat} {n : Nat} (h : Rq w b ao c xs ad d ds q n) (k : Int) (hk : k < 0 ∨ 256 < k) (p : Rat) :
    Calls Tryz.prog 47 #[.agg #[.bool b, .slice ao xs.length c, .slice ad ds.length d], .int .i64 k] w (RetRatE p 1 w) := by
  have hle1 := h.rn.le
  have hcm1 := h.rn.cm
  have hle2 := h.rd.le
  have hcm2 := h.rd.cm
  have hB := A2_below w (.cells #[.bool b, .slice ao xs.length c, .slice ad ds.length d] 26) (.cells #[.bool false, .slice none 0 0, .slice none 0 0] 26)
  have HH := hid (A2_heap w (.cells #[.bool b, .slice ao xs.length c, .slice ad ds.length d] 26) (.cells #[.bool false, .slice none 0 0, .slice none 0 0] 26))
  have HSZ := hid (A2_size w (.cells #[.bool b, .slice ao xs.length c, .slice ad ds.length d] 26) (.cells #[.bool false, .slice none 0 0, .slice none 0 0] 26))
  have HB := hid hB
  have hbad := bad_any k (A2 w (.cells #[.bool b, .slice ao xs.length c, .slice ad ds.length d] 26) (.cells #[.bool false, .slice none 0 0, .slice none 0 0] 26)) true (by simp; omega)
  unfold A2 at HH HSZ HB hbad
  clear h hB
  have n01 : ¬ (w.heap.size = w.heap.size + 1 + 1) := by omega
  have n02 : ¬ (w.heap.size + 1 + 1 = w.heap.size) := by omega
  have n03 : ¬ (w.heap.size + 1 = w.heap.size + 1 + 1) := by omega
  have n04 : ¬ (w.heap.size + 1 + 1 = w.heap.size + 1) := by omega
  have n05 : ¬ (w.heap.size = w.heap.size + 1) := by omega
  have n06 : ¬ (w.heap.size + 1 = w.heap.size) := by omega
  go_enter Tryz.func47, Tryz.ntmps47
  go_wp2_with fail
  refine hbad.mono ?_
  rintro e wx ⟨rfl, rfl⟩
  clear hbad
  go_wp2
  refine bodyPost_ret (v := .tuple #[.agg #[.bool false, .slice none 0 0, .slice none 0 0], .int .i64 1]) (by simp [results, Tryz.results47, go_sem]) rfl ?_
  exact RetRatE.errB (by decide) HB.out

set_option maxRecDepth 100000 in
set_option maxHeartbeats 3200000 in
theorem rup3_err {w : World} {b : Bool} {ao : Option Addr} {c : Nat} {xs : List Nat} {ad : Option Addr} {d : Nat} {ds : List Nat} {q : Rat} {n : Nat} (h : Rq w b ao c xs ad d ds q n) (k : Int) (hk : k < 0 ∨ 256 < k) (p : Rat) :
    Calls Tryz.prog 49 #[.agg #[.bool b, .slice ao xs.length c, .slice ad ds.length d], .int .i64 k] w (RetRatE p 1 w) := by
  have hle1 := h.rn.le
  have hcm1 := h.rn.cm
  have hle2 := h.rd.le
  have hcm2 := h.rd.cm
  have hB := A2_below w (.cells #[.bool b, .slice ao xs.length c, .slice ad ds.length d] 26) (.cells #[.bool false, .slice none 0 0, .slice none 0 0] 26)
  have HH := hid (A2_heap w (.cells #[.bool b, .slice ao xs.length c, .slice ad ds.length d] 26) (.cells #[.bool false, .slice none 0 0, .slice none 0 0] 26))
  have HSZ := hid (A2_size w (.cells #[.bool b, .slice ao xs.length c, .slice ad ds.length d] 26) (.cells #[.bool false, .slice none 0 0, .slice none 0 0] 26))
  have HB := hid hB
  have hbad := bad_any k (A2 w (.cells #[.bool b, .slice ao xs.length c, .slice ad ds.length d] 26) (.cells #[.bool false, .slice none 0 0, .slice none 0 0] 26)) true (by simp; omega)
  unfold A2 at HH HSZ HB hbad
  clear h hB
  have n01 : ¬ (w.heap.size = w.heap.size + 1 + 1) := by omega
  have n02 : ¬ (w.heap.size + 1 + 1 = w.heap.size) := by omega
  have n03 : ¬ (w.heap.size + 1 = w.heap.size + 1 + 1) := by omega
  have n04 : ¬ (w.heap.size + 1 + 1 = w.heap.size + 1) := by omega
  have n05 : ¬ (w.heap.size = w.heap.size + 1) := by omega
  have n06 : ¬ (w.heap.size + 1 = w.heap.size) := by omega
  go_enter Tryz.func49, Tryz.ntmps49
  go_wp2_with fail
  refine hbad.mono ?_
  rintro e wx ⟨rfl, rfl⟩
  clear hbad
  go_wp2
  refine bodyPost_ret (v := .tuple #[.agg #[.bool false, .slice none 0 0, .slice none 0 0], .int .i64 1]) (by simp [results, Tryz.results49, go_sem]) rfl ?_
  exact RetRatE.errB (by decide) HB.out

set_option maxRecDepth 100000 in
set_option maxHeartbeats 3200000 in
theorem rnear3_err {w : World} {b : Bool} {ao : Option Addr} {c : Nat} {xs : List Nat} {ad : Option Addr} {d : Nat} {ds : List Nat} {q : Rat} {n : Nat} (h : Rq w b ao c xs ad d ds q n) (k : Int) (hk : k < 0 ∨ 256 < k) (p : Rat) :
    Calls Tryz.prog 51 #[.agg #[.bool b, .slice ao xs.length c, .slice ad ds.length d], .int .i64 k] w (RetRatE p 1 w) := by
  have hle1 := h.rn.le
  have hcm1 := h.rn.cm
  have hle2 := h.rd.le
  have hcm2 := h.rd.cm
  have hB := A2_below w (.cells #[.bool b, .slice ao xs.length c, .slice ad ds.length d] 26) (.cells #[.bool false, .slice none 0 0, .slice none 0 0] 26)
  have HH := hid (A2_heap w (.cells #[.bool b, .slice ao xs.length c, .slice ad ds.length d] 26) (.cells #[.bool false, .slice none 0 0, .slice none 0 0] 26))
  have HSZ := hid (A2_size w (.cells #[.bool b, .slice ao xs.length c, .slice ad ds.length d] 26) (.cells #[.bool false, .slice none 0 0, .slice none 0 0] 26))
  have HB := hid hB
  have hbad := bad_any k (A2 w (.cells #[.bool b, .slice ao xs.length c, .slice ad ds.length d] 26) (.cells #[.bool false, .slice none 0 0, .slice none 0 0] 26)) true (by simp; omega)
  unfold A2 at HH HSZ HB hbad
  clear h hB
  have n01 : ¬ (w.heap.size = w.heap.size + 1 + 1) := by omega
  have n02 : ¬ (w.heap.size + 1 + 1 = w.heap.size) := by omega
  have n03 : ¬ (w.heap.size + 1 = w.heap.size + 1 + 1) := by omega
  have n04 : ¬ (w.heap.size + 1 + 1 = w.heap.size + 1) := by omega
  have n05 : ¬ (w.heap.size = w.heap.size + 1) := by omega
  have n06 : ¬ (w.heap.size + 1 = w.heap.size) := by omega
  go_enter Tryz.func51, Tryz.ntmps51
  go_wp2_with fail
  refine hbad.mono ?_
  rintro e wx ⟨rfl, rfl⟩
  clear hbad
  go_wp2
  refine bodyPost_ret (v := .tuple #[.agg #[.bool false, .slice none 0 0, .slice none 0 0], .int .i64 1]) (by simp [results, Tryz.results51, go_sem]) rfl ?_
  exact RetRatE.errB (by decide) HB.out

set_option maxRecDepth 100000 in
set_option maxHeartbeats 3200000 in
theorem rdown3_ok {w : World} {b : Bool} {ao : Option Addr} {c : Nat} {xs : List Nat} {ad : Option Addr} {d : Nat} {ds : List Nat} {q : Rat} {n : Nat} (h : Rq w b ao c xs ad d ds q n) (hn : n ≤ 9999999999) (k : Nat) (hk : k ≤ 256) :
    Calls Tryz.prog 47 #[.agg #[.bool b, .slice ao xs.length c, .slice ad ds.length d], .int .i64 (k : Int)] w (RetRatE (dnQ q k) 0 w) := by
  have hle1 := h.rn.le
  have hcm1 := h.rn.cm
  have hle2 := h.rd.le
  have hcm2 := h.rd.cm
  have hB := A2_below w (.cells #[.bool b, .slice ao xs.length c, .slice ad ds.length d] 26) (.cells #[.bool false, .slice none 0 0, .slice none 0 0] 26)
  have HH := hid (A2_heap w (.cells #[.bool b, .slice ao xs.length c, .slice ad ds.length d] 26) (.cells #[.bool false, .slice none 0 0, .slice none 0 0] 26))
  have HSZ := hid (A2_size w (.cells #[.bool b, .slice ao xs.length c, .slice ad ds.length d] 26) (.cells #[.bool false, .slice none 0 0, .slice none 0 0] 26))
  have HB := hid hB
  have hbad := bad_any (k : Int) (A2 w (.cells #[.bool b, .slice ao xs.length c, .slice ad ds.length d] 26) (.cells #[.bool false, .slice none 0 0, .slice none 0 0] 26)) false (by simp; omega)
  have hr := rdown_any (h.below hB) (by omega) k hk
  obtain ⟨r, hrr⟩ : ∃ r, r = dnQ q k := ⟨_, rfl⟩
  rw [← hrr] at hr ⊢
  unfold A2 at HH HSZ HB hr hbad
  clear h hB hrr
  have n01 : ¬ (w.heap.size = w.heap.size + 1 + 1) := by omega
  have n02 : ¬ (w.heap.size + 1 + 1 = w.heap.size) := by omega
  have n03 : ¬ (w.heap.size + 1 = w.heap.size + 1 + 1) := by omega
  have n04 : ¬ (w.heap.size + 1 + 1 = w.heap.size + 1) := by omega
  have n05 : ¬ (w.heap.size = w.heap.size + 1) := by omega
  have n06 : ¬ (w.heap.size + 1 = w.heap.size) := by omega
  go_enter Tryz.func47, Tryz.ntmps47
  go_wp2_with fail
  obtain ⟨w0, hw0⟩ : ∃ x, x = ((w.alloc (.cells #[.bool b, .slice ao xs.length c, .slice ad ds.length d] 26)).alloc (.cells #[.bool false, .slice none 0 0, .slice none 0 0] 26)) := ⟨_, rfl⟩
  rw [← hw0] at HH HSZ HB hr hbad ⊢
  clear hw0
  refine hbad.mono ?_
  rintro e wx ⟨rfl, rfl⟩
  clear hbad
  obtain ⟨s0, s1, s2, _⟩ := cells3 HH.out.1 (Below.refl _ _)
  go_wp2_with fail
  refine hr.mono ?_
  rintro e w1 ⟨a1, c1, d1, e1, rfl, o1, u1, f1⟩
  obtain ⟨k0, k1, k2, k3, k4, k5⟩ := cells3 HH.out.2 f1
  have H1 := hid (And.intro o1 (And.intro u1 f1))
  clear hr o1 u1 f1
  go_wp2
  have hsz := HSZ.out
  refine bodyPost_ret (v := .tuple #[.agg #[.bool (decide (r.num < 0)), .slice a1 (nd r.num.natAbs).length c1, .slice d1 (nd r.den).length e1], .int .i64 0]) (by simp [results, Tryz.results47, go_sem, k0, k1, k2]) rfl ?_
  exact RetRatE.fin H1.out.1 H1.out.2.1 (by omega) (HB.out.trans (H1.out.2.2.mono HB.out.size)) (by omega) _ _ _

theorem floor_len' (q : Rat) {n k : Nat} (h : Sz q n) (hk : k ≤ 256) : Sz (dnQ q k) (n + 20) := by
  have sU := unit_sz k 9 (by omega)
  have sP := h.mul sU
  have e : dnQ q k = mkRat (q * mkRat ((2 ^ k : Nat) : Int) 1).floor 1 / mkRat ((2 ^ k : Nat) : Int) 1 := by
    unfold dnQ
    rw [Rat.mkRat_one, Rat.mkRat_one, Rat.mkRat_eq_div]
    rfl
  rw [e]
  have lZ := floor_len sP
  have sZ : Sz (mkRat (q * mkRat ((2 ^ k : Nat) : Int) 1).floor 1) (n + 9 + 1) := by
    rw [Rat.mkRat_one]
    exact ⟨lZ, Nat.le_trans (nd_length_le (k := 1) (show (1 : Nat) < 4294967296 ^ 1 by omega)) (by omega)⟩
  exact (sZ.div sU).mono (by omega)

set_option maxRecDepth 100000 in
set_option maxHeartbeats 6400000 in
theorem rup3_ok {w : World} {b : Bool} {ao : Option Addr} {c : Nat} {xs : List Nat} {ad : Option Addr} {d : Nat} {ds : List Nat} {q : Rat} {n : Nat} (h : Rq w b ao c xs ad d ds q n) (hn : n ≤ 9999999999) (k : Nat) (hk : k ≤ 256) :
    Calls Tryz.prog 49 #[.agg #[.bool b, .slice ao xs.length c, .slice ad ds.length d], .int .i64 (k : Int)] w (RetRatE (upQ q k) 0 w) := by
  have hle1 := h.rn.le
  have hcm1 := h.rn.cm
  have hle2 := h.rd.le
  have hcm2 := h.rd.cm
  have hB := A2_below w (.cells #[.bool b, .slice ao xs.length c, .slice ad ds.length d] 26) (.cells #[.bool false, .slice none 0 0, .slice none 0 0] 26)
  have HH := hid (A2_heap w (.cells #[.bool b, .slice ao xs.length c, .slice ad ds.length d] 26) (.cells #[.bool false, .slice none 0 0, .slice none 0 0] 26))
  have HSZ := hid (A2_size w (.cells #[.bool b, .slice ao xs.length c, .slice ad ds.length d] 26) (.cells #[.bool false, .slice none 0 0, .slice none 0 0] 26))
  have HB := hid hB
  have hbad := bad_any (k : Int) (A2 w (.cells #[.bool b, .slice ao xs.length c, .slice ad ds.length d] 26) (.cells #[.bool false, .slice none 0 0, .slice none 0 0] 26)) false (by simp; omega)
  have hr := rneg3_any (h.below hB) (by omega)
  have sN := h.sz.neg
  have eU : upQ q k = -(dnQ (-q) k) := rfl
  rw [eU]
  obtain ⟨N, hN⟩ : ∃ r, r = -q := ⟨_, rfl⟩
  rw [← hN] at hr sN ⊢
  have sD := floor_len' N sN hk
  have HD0 := hid (fun w' a c d e B (o : Own B w' a c (nd N.num.natAbs)) (u : Own B w' d e (nd N.den)) => rdown_any (Rq.own o u sN) (by omega) k hk)
  obtain ⟨D, hD⟩ : ∃ r, r = dnQ N k := ⟨_, rfl⟩
  simp only [← hD] at HD0
  rw [← hD] at sD ⊢
  have HN0 := hid (fun w' a c d e B (o : Own B w' a c (nd D.num.natAbs)) (u : Own B w' d e (nd D.den)) => rneg3_any (Rq.own o u sD) (by omega))
  obtain ⟨r, hrr⟩ : ∃ r, r = -D := ⟨_, rfl⟩
  simp only [← hrr] at HN0
  rw [← hrr]
  unfold A2 at HH HSZ HB hr hbad
  clear h hB hrr hN hD eU
  have n01 : ¬ (w.heap.size = w.heap.size + 1 + 1) := by omega
  have n02 : ¬ (w.heap.size + 1 + 1 = w.heap.size) := by omega
  have n03 : ¬ (w.heap.size + 1 = w.heap.size + 1 + 1) := by omega
  have n04 : ¬ (w.heap.size + 1 + 1 = w.heap.size + 1) := by omega
  have n05 : ¬ (w.heap.size = w.heap.size + 1) := by omega
  have n06 : ¬ (w.heap.size + 1 = w.heap.size) := by omega
  go_enter Tryz.func49, Tryz.ntmps49
  go_wp2_with fail
  obtain ⟨w0, hw0⟩ : ∃ x, x = ((w.alloc (.cells #[.bool b, .slice ao xs.length c, .slice ad ds.length d] 26)).alloc (.cells #[.bool false, .slice none 0 0, .slice none 0 0] 26)) := ⟨_, rfl⟩
  rw [← hw0] at HH HSZ HB hr hbad ⊢
  clear hw0
  refine hbad.mono ?_
  rintro e wx ⟨rfl, rfl⟩
  clear hbad
  obtain ⟨s0, s1, s2, _⟩ := cells3 HH.out.1 (Below.refl _ _)
  go_wp2_with fail
  refine hr.mono ?_
  rintro e w1 ⟨a1, c1, d1, e1, rfl, o1, u1, f1⟩
  have hr2 := HD0.out w1 _ _ _ _ _ o1 u1
  have hx1 := o1.rd.le
  have hx2 := o1.rd.cm
  have hx3 := u1.rd.le
  have hx4 := u1.rd.cm
  clear hr s0 s1 s2 o1 u1
  go_wp2_with fail
  refine hr2.mono ?_
  rintro e w2 ⟨a2, c2, d2, e2, rfl, o2, u2, f2⟩
  have hr3 := HN0.out w2 _ _ _ _ _ o2 u2
  have hx5 := o2.rd.le
  have hx6 := o2.rd.cm
  have hx7 := u2.rd.le
  have hx8 := u2.rd.cm
  have p2 := f1.trans (f2.mono f1.size)
  clear hr2 o2 u2 f1 f2
  go_wp2_with fail
  refine hr3.mono ?_
  rintro e w3 ⟨a3, c3, d3, e3, rfl, o3, u3, f3⟩
  have p3 := p2.trans (f3.mono p2.size)
  obtain ⟨k0, k1, k2, k3, k4, k5⟩ := cells3 HH.out.2 p3
  have H1 := hid (And.intro o3 (And.intro u3 (And.intro p3 p2.size)))
  clear hr3 o3 u3 f3 p3 p2
  go_wp2
  have hsz := HSZ.out
  have hs2 := H1.out.2.2.2
  refine bodyPost_ret (v := .tuple #[.agg #[.bool (decide (r.num < 0)), .slice a3 (nd r.num.natAbs).length c3, .slice d3 (nd r.den).length e3], .int .i64 0]) (by simp [results, Tryz.results49, go_sem, k0, k1, k2]) rfl ?_
  exact RetRatE.fin H1.out.1 H1.out.2.1 (by omega) (HB.out.trans (H1.out.2.2.1.mono HB.out.size)) (by omega) _ _ _
end Go.Proofs.YtibfeceainemjaaGreatDoor

namespace Go.Proofs.YtibfeceainemjaaGreatDoor
open Go.RowKit Num

theorem half_eq (k : Nat) : ((1 : Int) : Rat) / mkRat ((2 ^ (k + 1) : Nat) : Int) 1 = mkRat 1 (2 ^ (k + 1)) := by
  rw [Rat.mkRat_one, Rat.mkRat_eq_div]
  rfl

set_option maxRecDepth 100000 in
set_option maxHeartbeats 6400000 in
theorem rnear3_ok {w : World} {b : Bool} {ao : Option Addr} {c : Nat} {xs : List Nat} {ad : Option Addr} {d : Nat} {ds : List Nat} {q : Rat} {n : Nat} (h : Rq w b ao c xs ad d ds q n) (hn : n ≤ 9999999999) (k : Nat) (hk : k ≤ 256) :
    Calls Tryz.prog 51 #[.agg #[.bool b, .slice ao xs.length c, .slice ad ds.length d], .int .i64 (k : Int)] w (RetRatE (neQ q k) 0 w) := by
  have hle1 := h.rn.le
  have hcm1 := h.rn.cm
  have hle2 := h.rd.le
  have hcm2 := h.rd.cm
  have hB := A2_below w (.cells #[.bool b, .slice ao xs.length c, .slice ad ds.length d] 26) (.cells #[.bool false, .slice none 0 0, .slice none 0 0] 26)
  have HH := hid (A2_heap w (.cells #[.bool b, .slice ao xs.length c, .slice ad ds.length d] 26) (.cells #[.bool false, .slice none 0 0, .slice none 0 0] 26))
  have HSZ := hid (A2_size w (.cells #[.bool b, .slice ao xs.length c, .slice ad ds.length d] 26) (.cells #[.bool false, .slice none 0 0, .slice none 0 0] 26))
  have HB := hid hB
  have hbad := bad_any (k : Int) (A2 w (.cells #[.bool b, .slice ao xs.length c, .slice ad ds.length d] 26) (.cells #[.bool false, .slice none 0 0, .slice none 0 0] 26)) false (by simp; omega)
  have HR := hid (h.below hB)
  have sq := h.sz
  obtain ⟨J, hJ⟩ : ∃ J, J = ((1 : Int) : Rat) := ⟨_, rfl⟩
  have sJ : Sz J 1 := by rw [hJ]; exact ⟨nd_length_le (show (1 : Nat) < 4294967296 ^ 1 by omega), nd_length_le (show (1 : Nat) < 4294967296 ^ 1 by omega)⟩
  have HJ := hid (fun w' => show Calls Tryz.prog 44 #[.int .i64 1] w' (RetRat J w') from by rw [hJ]; exact rof3_any 1 w' (by omega) (by omega))
  obtain ⟨K, hK⟩ : ∃ K : Int, K = (k : Int) := ⟨_, rfl⟩
  have hK1 : 0 ≤ K := by omega
  have hK2 : K ≤ 256 := by omega
  obtain ⟨U, hU⟩ : ∃ U, U = mkRat ((2 ^ (k + 1) : Nat) : Int) 1 := ⟨_, rfl⟩
  have sU : Sz U 9 := by rw [hU]; exact unit_sz (k + 1) 9 (by omega)
  have HU := hid (fun w' => show Calls Tryz.prog 130 #[.int .i64 (K + 1)] w' (RetRat U w') from by
    have h3 := runit_any (k + 1) (by omega) w'
    rw [show ((k + 1 : Nat) : Int) = K + 1 by omega, ← hU] at h3
    exact h3)
  obtain ⟨H, hH⟩ : ∃ H, H = J / U := ⟨_, rfl⟩
  have sH : Sz H 10 := by rw [hH]; exact (sJ.div sU).mono (by omega)
  have HOV := hid (fun w' B1 a c x y B2 a' c' x' y' (o1 : Own B1 w' a c (nd J.num.natAbs)) (o2 : Own B1 w' x y (nd J.den)) (o3 : Own B2 w' a' c' (nd U.num.natAbs)) (o4 : Own B2 w' x' y' (nd U.den)) => (over3_any (Rq.own o1 o2 sJ) (Rq.own o3 o4 sU) (by omega) (by omega)).mono fun _ _ r => RetRat.of r hH.symm)
  obtain ⟨S, hS⟩ : ∃ S, S = q + H := ⟨_, rfl⟩
  have sS : Sz S (n + 1 + 10 + 1) := by rw [hS]; exact sq.add sH
  have HAD := hid (fun w' B1 a cc x y (o1 : Own B1 w' a cc (nd H.num.natAbs)) (o2 : Own B1 w' x y (nd H.den)) (g : Below (A2 w (.cells #[.bool b, .slice ao xs.length c, .slice ad ds.length d] 26) (.cells #[.bool false, .slice none 0 0, .slice none 0 0] 26)).heap.size (A2 w (.cells #[.bool b, .slice ao xs.length c, .slice ad ds.length d] 26) (.cells #[.bool false, .slice none 0 0, .slice none 0 0] 26)) w') => (radd3_any (HR.out.below g) (Rq.own o1 o2 sH) (by omega) (by omega)).mono fun _ _ r => RetRat.of r hS.symm)
  have eD : neQ q k = dnQ S k := by
    unfold neQ
    rw [hS, hH, hJ, hU, half_eq]
  rw [eD]
  obtain ⟨D, hD⟩ : ∃ D, D = dnQ S k := ⟨_, rfl⟩
  have HDN := hid (fun w' B1 a c x y (o1 : Own B1 w' a c (nd S.num.natAbs)) (o2 : Own B1 w' x y (nd S.den)) => show Calls Tryz.prog 127 #[.agg #[.bool (decide (S.num < 0)), .slice a (nd S.num.natAbs).length c, .slice x (nd S.den).length y], .int .i64 K] w' (RetRat D w') from by
    rw [hD, hK]; exact rdown_any (Rq.own o1 o2 sS) (by omega) k hk)
  rw [← hD]
  rw [← hK] at hbad ⊢
  have hw : IntKind.i64.wrap (K + 1) = K + 1 := IntWalk.i64_in _ (by omega)
  unfold A2 at HH HSZ HB hbad HAD
  clear h hB HR sq hJ sJ hK hU sU hH sH hS sS eD hD
  have n01 : ¬ (w.heap.size = w.heap.size + 1 + 1) := by omega
  have n02 : ¬ (w.heap.size + 1 + 1 = w.heap.size) := by omega
  have n03 : ¬ (w.heap.size + 1 = w.heap.size + 1 + 1) := by omega
  have n04 : ¬ (w.heap.size + 1 + 1 = w.heap.size + 1) := by omega
  have n05 : ¬ (w.heap.size = w.heap.size + 1) := by omega
  have n06 : ¬ (w.heap.size + 1 = w.heap.size) := by omega
  go_enter Tryz.func51, Tryz.ntmps51
  go_wp2_with fail
  obtain ⟨w0, hw0⟩ : ∃ x, x = ((w.alloc (.cells #[.bool b, .slice ao xs.length c, .slice ad ds.length d] 26)).alloc (.cells #[.bool false, .slice none 0 0, .slice none 0 0] 26)) := ⟨_, rfl⟩
  rw [← hw0] at HH HSZ HB hbad HAD ⊢
  clear hw0
  refine hbad.mono ?_
  rintro e wx ⟨rfl, rfl⟩
  clear hbad
  go_wp2_with fail
  refine (HJ.out w0).mono ?_
  rintro e w1 ⟨a1, c1, d1, e1, rfl, o1, u1, f1⟩
  have hx1 := o1.rd.le
  have hx2 := o1.rd.cm
  have hx3 := u1.rd.le
  have hx4 := u1.rd.cm
  go_wp2_with fail
  refine (HU.out w1).mono ?_
  rintro e w2 ⟨a2, c2, d2, e2, rfl, o2, u2, f2⟩
  have hy1 := o2.rd.le
  have hy2 := o2.rd.cm
  have hy3 := u2.rd.le
  have hy4 := u2.rd.cm
  have hr3 := HOV.out w2 _ a1 c1 d1 e1 _ a2 c2 d2 e2 (o1.below f2) (u1.below f2) o2 u2
  have p2 := f1.trans (f2.mono f1.size)
  clear o1 u1 o2 u2 f1 f2
  go_wp2_with fail
  refine hr3.mono ?_
  rintro e w3 ⟨a3, c3, d3, e3, rfl, o3, u3, f3⟩
  have hz1 := o3.rd.le
  have hz2 := o3.rd.cm
  have hz3 := u3.rd.le
  have hz4 := u3.rd.cm
  have p3 := below_al (p2.trans (f3.mono p2.size)) (.cells #[.bool (decide (H.num < 0)), .slice a3 (nd H.num.natAbs).length c3, .slice d3 (nd H.den).length e3] 26)
  have HX := hid (heap_alloc_at w3 (.cells #[.bool (decide (H.num < 0)), .slice a3 (nd H.num.natAbs).length c3, .slice d3 (nd H.den).length e3] 26))
  have HO := hid (And.intro (own_al o3 (.cells #[.bool (decide (H.num < 0)), .slice a3 (nd H.num.natAbs).length c3, .slice d3 (nd H.den).length e3] 26)) (own_al u3 (.cells #[.bool (decide (H.num < 0)), .slice a3 (nd H.num.natAbs).length c3, .slice d3 (nd H.den).length e3] 26)))
  clear hr3 o3 u3 f3 p2
  go_upto_region 4 with fail
  obtain ⟨w4, hw4⟩ : ∃ x, x = w3.alloc (.cells #[.bool (decide (H.num < 0)), .slice a3 (nd H.num.natAbs).length c3, .slice d3 (nd H.den).length e3] 26) := ⟨_, rfl⟩
  rw [← hw4] at p3 HX HO ⊢
  clear hw4
  obtain ⟨s0, s1, s2, _⟩ := cells3 HH.out.1 p3
  obtain ⟨t0, t1, t2, _⟩ := cells3 HX.out (Below.refl _ _)
  go_wp2_with fail
  refine (HAD.out w4 _ a3 c3 d3 e3 HO.out.1 HO.out.2 p3).mono ?_
  rintro e w5 ⟨a5, c5, d5, e5, rfl, o5, u5, f5⟩
  have hz5 := o5.rd.le
  have hz6 := o5.rd.cm
  have hz7 := u5.rd.le
  have hz8 := u5.rd.cm
  have hr5 := HDN.out w5 _ a5 c5 d5 e5 o5 u5
  have p5 := p3.trans (f5.mono p3.size)
  clear s0 s1 s2 t0 t1 t2 o5 u5 f5 p3
  go_wp2_with fail
  refine hr5.mono ?_
  rintro e w6 ⟨a6, c6, d6, e6, rfl, o6, u6, f6⟩
  have p6 := p5.trans (f6.mono p5.size)
  obtain ⟨k0, k1, k2, k3, k4, k5⟩ := cells3 HH.out.2 p6
  have H1 := hid (And.intro o6 (And.intro u6 (And.intro p6 p5.size)))
  clear hr5 o6 u6 f6 p6 p5
  go_wp2
  have hsz := HSZ.out
  have hs2 := H1.out.2.2.2
  refine bodyPost_ret (v := .tuple #[.agg #[.bool (decide (D.num < 0)), .slice a6 (nd D.num.natAbs).length c6, .slice d6 (nd D.den).length e6], .int .i64 0]) (by simp [results, Tryz.results51, go_sem, k0, k1, k2]) rfl ?_
  exact RetRatE.fin H1.out.1 H1.out.2.1 (by omega) (HB.out.trans (H1.out.2.2.1.mono HB.out.size)) (by omega) _ _ _
end Go.Proofs.YtibfeceainemjaaGreatDoor

namespace Go.Proofs.YtibfeceainemjaaGreatDoor
open Go.RowKit Num

theorem rounds_all {w : World} {b : Bool} {ao : Option Addr} {c : Nat} {xs : List Nat} {ad : Option Addr} {d : Nat} {ds : List Nat} {q : Rat} {n : Nat} (h : Rq w b ao c xs ad d ds q n) (hn : n ≤ 9999) (k : Int) :
    ∃ (X Y Z : Rat) (E : Int), (E = 0 ∨ E = 1) ∧ (E = 0 → ¬ q < X ∧ ¬ Y < q ∧ ¬ Y < Z ∧ ¬ Z < X) ∧ (Sz X 99999 ∧ Sz Y 99999 ∧ Sz Z 99999) ∧ ∀ w' : World, Below w.heap.size w w' → Tb w' →
      Calls Tryz.prog 46 #[.agg #[.bool b, .slice ao xs.length c, .slice ad ds.length d], .int .i64 k] w' (RetRatE X E w') ∧ Calls Tryz.prog 47 #[.agg #[.bool b, .slice ao xs.length c, .slice ad ds.length d], .int .i64 k] w' (RetRatE X E w') ∧
      Calls Tryz.prog 48 #[.agg #[.bool b, .slice ao xs.length c, .slice ad ds.length d], .int .i64 k] w' (RetRatE Y E w') ∧ Calls Tryz.prog 49 #[.agg #[.bool b, .slice ao xs.length c, .slice ad ds.length d], .int .i64 k] w' (RetRatE Y E w') ∧
      Calls Tryz.prog 50 #[.agg #[.bool b, .slice ao xs.length c, .slice ad ds.length d], .int .i64 k] w' (RetRatE Z E w') ∧ Calls Tryz.prog 51 #[.agg #[.bool b, .slice ao xs.length c, .slice ad ds.length d], .int .i64 k] w' (RetRatE Z E w') := by
  by_cases hk : k < 0 ∨ 256 < k
  · refine ⟨0, 0, 0, 1, .inr rfl, (fun h => absurd h (by decide)), ?_, fun w' hb _ => ⟨down3_err (h.below hb) k hk 0, rdown3_err (h.below hb) k hk 0, up3_err (h.below hb) k hk 0, rup3_err (h.below hb) k hk 0, near3_err (h.below hb) k hk 0, rnear3_err (h.below hb) k hk 0⟩⟩
    have h0 : Sz 0 99999 := by
      have h1 : (nd (0 : Rat).num.natAbs).length ≤ 1 := nd_length_le (show (0 : Nat) < 4294967296 ^ 1 by omega)
      have h2 : (nd (0 : Rat).den).length ≤ 1 := nd_length_le (show (1 : Nat) < 4294967296 ^ 1 by omega)
      exact ⟨Nat.le_trans h1 (by omega), Nat.le_trans h2 (by omega)⟩
    exact ⟨h0, h0, h0⟩
  · obtain ⟨j, rfl⟩ : ∃ j : Nat, k = (j : Int) := ⟨k.toNat, by omega⟩
    have hj : j ≤ 256 := by omega
    have sq := h.sz
    refine ⟨dnQ q j, upQ q j, neQ q j, 0, .inl rfl, fun _ => ⟨Rat.not_lt.2 (dnQ_le q j), Rat.not_lt.2 (upQ_ge q j), Rat.not_lt.2 (ne_up q j), Rat.not_lt.2 (dn_ne q j)⟩, ?_, fun w' hb hT => ⟨down3_ok (h.below hb) (by omega) hT j hj, rdown3_ok (h.below hb) (by omega) j hj, up3_ok (h.below hb) (by omega) hT j hj, rup3_ok (h.below hb) (by omega) j hj, near3_ok (h.below hb) (by omega) hT j hj, rnear3_ok (h.below hb) (by omega) j hj⟩⟩
    refine ⟨(floor_len' q sq hj).mono (by omega), ?_, ?_⟩
    · exact ((floor_len' (-q) sq.neg hj).neg).mono (by omega)
    · have sU := unit_sz (j + 1) 9 (by omega)
      have sJ : Sz ((1 : Int) : Rat) 1 := ⟨nd_length_le (show (1 : Nat) < 4294967296 ^ 1 by omega), nd_length_le (show (1 : Nat) < 4294967296 ^ 1 by omega)⟩
      have sH := sJ.div sU
      rw [half_eq] at sH
      unfold neQ
      exact (floor_len' _ (sq.add sH) hj).mono (by omega)
end Go.Proofs.YtibfeceainemjaaGreatDoor
