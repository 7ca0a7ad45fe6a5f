/-  -/
import Derived.Test.YtcankknlbljicaaGreatDoorW1

set_option linter.unusedVariables false
set_option linter.unusedSimpArgs false
set_option linter.unusedSectionVars false
set_option maxRecDepth 100000
set_option maxHeartbeats 3200000

namespace Go.Proofs.YtcankknlbljicaaGreatDoor
open Go.RowKit Num

set_option maxHeartbeats 6400000 in
theorem floor_r {w : World} {b : Bool} {ao : Option Addr} {c : Nat} {xs : List Nat} {ad : Option Addr} {d : Nat} {ds : List Nat} {q : Rat} {n : Nat} (h : Fr w b ao c xs ad d ds q n) (hn : n ≤ 4398046511104) :
  Calls Tryz.prog 139 #[.agg #[.bool b, .slice ao xs.length c, .slice ad ds.length d]] w (RetInt w.heap.size q.floor w) := by
 have hle1 := h.rn.le
 have hcm1 := h.rn.cm
 have hle2 := h.rd.le
 have hcm2 := h.rd.cm
 have hl1 := h.ln
 have hl2 := h.ld
 have hB := A2_below w (.cells #[.bool b, .slice ao xs.length c, .slice ad ds.length d] 122) (.cells #[.bool false, .slice none 0 0] 24)
 have HH := hid (A2_heap w (.cells #[.bool b, .slice ao xs.length c, .slice ad ds.length d] 122) (.cells #[.bool false, .slice none 0 0] 24))
 have HSZ := hid (A2_size w (.cells #[.bool b, .slice ao xs.length c, .slice ad ds.length d] 122) (.cells #[.bool false, .slice none 0 0] 24))
 have HB := hid hB
 have HR := hid (h.below hB)
 have hQ : iv b (val xs) / iv false (val ds) = q.floor := by rw [← h.vq, floor_mk h.nz]; rfl
 obtain ⟨Q, hQQ⟩ : ∃ Q, Q = q.floor := ⟨_, rfl⟩
 rw [← hQQ] at hQ ⊢
 have hnz := h.nz
 have HD0 := hid (fun (u : World) (h1 : Rd u ao c xs) (h2 : Rd u ad d ds) (w' : World) (hu : Below u.heap.size u w') => idiv_u u b false ao ad c d xs ds Q w' hu h1 h2 hnz (by omega) (by omega) hQ)
 unfold A2 at HH HSZ HB HR
 clear h hB hQ hQQ hnz
 go_enter Tryz.func139, Tryz.ntmps139
 go_wp2_with fail
 obtain ⟨w0, hw0⟩ : ∃ x, x = ((w.alloc (.cells #[.bool b, .slice ao xs.length c, .slice ad ds.length d] 122)).alloc (.cells #[.bool false, .slice none 0 0] 24)) := ⟨_, rfl⟩
 rw [← hw0] at HH HSZ HB HR ⊢
 clear hw0
 have HDV := hid (HD0.out w0 HR.out.rn HR.out.rd)
 have HN := hid (natural_u w0 ad ds.length d)
 clear HD0
 obtain ⟨s0, s1, s2, _⟩ := cells3 HH.out.1 (Below.refl w0.heap.size w0)
 go_upto_region 1 with fail
 go_cut [3, 4, 5] from 6 to 17 (fun v3 _ _ wx => ∃ g4 aq cq, v3 = .pointer (some ⟨g4, 0, none⟩) ∧ Hid (P3S w0 wx g4 (decide (Q < 0)) aq cq (nd Q.natAbs)))
 case first =>
  have kk : Below w0.heap.size w0 w0.drew := below_drewI _ _
  have m1 : ¬ (w.heap.size = w0.heap.size) := by have := HSZ.out; omega
  have m2 : ¬ (w0.heap.size = w.heap.size) := fun h => m1 h.symm
  have m3 : ¬ (w.heap.size = w0.heap.size + 1) := by have := HSZ.out; omega
  have m4 : ¬ (w0.heap.size + 1 = w.heap.size) := fun h => m3 h.symm
  have m5 : w.heap.size < w0.heap.size := by have := HSZ.out; omega
  have m6 : w.heap.size + 1 < w0.heap.size := by have := HSZ.out; omega
  go_region_held3 (fun w' => w'.cell? ⟨w.heap.size, 0, none⟩ = some (.bool b) ∧ w'.cell? ⟨w.heap.size, 1, none⟩ = some (.slice ao xs.length c) ∧ w'.cell? ⟨w.heap.size, 2, none⟩ = some (.slice ad ds.length d)) (go_keep) (first
   | (go_at_call 191; (with_reducible refine (HDV.out _ ?_).mono ?_); (repeat (first | with_reducible assumption | with_reducible exact Below.refl _ _ | with_reducible apply Below.drew | with_reducible apply below_al)); rintro e w4 ⟨⟨aq, cq, ar, cr, R, rfl, o4⟩, f4, k4⟩; obtain ⟨r4a, r4b, r4c, _⟩ := cells3 HH.out.1 k4; have z4 := f4.size; (try simp only [alloc_size, drew_size] at z4); (try (have nl4_0 : w.heap.size < w4.heap.size := by omega)); (try (have nq4_61 : ¬ (w.heap.size = w4.heap.size) := by omega); (have nr4_61 : ¬ (w4.heap.size = w.heap.size) := by omega)); (try (have nq4_187 : ¬ (w.heap.size = w4.heap.size + 1) := by omega); (have nr4_187 : ¬ (w4.heap.size + 1 = w.heap.size) := by omega)); (try (have nl4_323 : w.heap.size + 1 < w4.heap.size := by omega)); (try (have nq4_390 : ¬ (w.heap.size + 1 = w4.heap.size) := by omega); (have nr4_390 : ¬ (w4.heap.size = w.heap.size + 1) := by omega)); (try (have nq4_526 : ¬ (w.heap.size + 1 = w4.heap.size + 1) := by omega); (have nr4_526 : ¬ (w4.heap.size + 1 = w.heap.size + 1) := by omega)); (try (have nl4_670 : w0.heap.size < w4.heap.size := by omega)); (try (have nq4_734 : ¬ (w0.heap.size = w4.heap.size) := by omega); (have nr4_734 : ¬ (w4.heap.size = w0.heap.size) := by omega)); (try (have nq4_864 : ¬ (w0.heap.size = w4.heap.size + 1) := by omega); (have nr4_864 : ¬ (w4.heap.size + 1 = w0.heap.size) := by omega)); (try (have nl4_1002 : w0.heap.size + 1 < w4.heap.size := by omega)); (try (have nq4_1071 : ¬ (w0.heap.size + 1 = w4.heap.size) := by omega); (have nr4_1071 : ¬ (w4.heap.size = w0.heap.size + 1) := by omega)); (try (have nq4_1211 : ¬ (w0.heap.size + 1 = w4.heap.size + 1) := by omega); (have nr4_1211 : ¬ (w4.heap.size + 1 = w0.heap.size + 1) := by omega)); (try (have nl4_1359 : w3.heap.size < w4.heap.size := by omega)); (try (have nq4_1424 : ¬ (w3.heap.size = w4.heap.size) := by omega); (have nr4_1424 : ¬ (w4.heap.size = w3.heap.size) := by omega)); (try (have nq4_1556 : ¬ (w3.heap.size = w4.heap.size + 1) := by omega); (have nr4_1556 : ¬ (w4.heap.size + 1 = w3.heap.size) := by omega)); (try (have nl4_1696 : w3.heap.size + 1 < w4.heap.size := by omega)); (try (have nq4_1765 : ¬ (w3.heap.size + 1 = w4.heap.size) := by omega); (have nr4_1765 : ¬ (w4.heap.size = w3.heap.size + 1) := by omega)); (try (have nq4_1905 : ¬ (w3.heap.size + 1 = w4.heap.size + 1) := by omega); (have nr4_1905 : ¬ (w4.heap.size + 1 = w3.heap.size + 1) := by omega)); (try (refine cutp (p := w4.heap[w0.heap.size]? = some (.cells #[.bool false, .slice none 0 0] 24)) ?_ ?_; (· (repeat (first | (with_reducible refine heap_at' _ _ _ ?_; (first | omega | (simp only [alloc_size, drew_size, setCell_size]; done) | (simp only [alloc_size, drew_size, setCell_size]; omega))) | (with_reducible apply box2) | (with_reducible apply box3) | (with_reducible refine (heap_set _ _ _ _ _ ?_).trans ?_; (· (first | omega | (simp only [alloc_size, drew_size, setCell_size]; done) | (simp only [alloc_size, drew_size, setCell_size]; omega)))) | (with_reducible refine (Below.heap_alloc _ _ _ ?_).trans ?_; (· (first | omega | (simp only [alloc_size, drew_size, setCell_size]; done) | (simp only [alloc_size, drew_size, setCell_size]; omega)))) | (with_reducible refine (drew_at _ _).trans ?_) | (with_reducible refine (f4.block _ ?_).trans ?_; (· (first | omega | (simp only [alloc_size, drew_size, setCell_size]; done) | (simp only [alloc_size, drew_size, setCell_size]; omega)))) | (with_reducible refine (f3.block _ ?_).trans ?_; (· (first | omega | (simp only [alloc_size, drew_size, setCell_size]; done) | (simp only [alloc_size, drew_size, setCell_size]; omega))))))); intro Q0; obtain ⟨qa0, qb0, qc0, qd0⟩ := pair_cells Q0 (Below.refl _ _))); (try (refine cutp (p := w4.heap[w0.heap.size + 1]? = some (.cells #[.bool false, .slice none 0 0] 24)) ?_ ?_; (· (repeat (first | (with_reducible refine heap_at' _ _ _ ?_; (first | omega | (simp only [alloc_size, drew_size, setCell_size]; done) | (simp only [alloc_size, drew_size, setCell_size]; omega))) | (with_reducible apply box2) | (with_reducible apply box3) | (with_reducible refine (heap_set _ _ _ _ _ ?_).trans ?_; (· (first | omega | (simp only [alloc_size, drew_size, setCell_size]; done) | (simp only [alloc_size, drew_size, setCell_size]; omega)))) | (with_reducible refine (Below.heap_alloc _ _ _ ?_).trans ?_; (· (first | omega | (simp only [alloc_size, drew_size, setCell_size]; done) | (simp only [alloc_size, drew_size, setCell_size]; omega)))) | (with_reducible refine (drew_at _ _).trans ?_) | (with_reducible refine (f4.block _ ?_).trans ?_; (· (first | omega | (simp only [alloc_size, drew_size, setCell_size]; done) | (simp only [alloc_size, drew_size, setCell_size]; omega)))) | (with_reducible refine (f3.block _ ?_).trans ?_; (· (first | omega | (simp only [alloc_size, drew_size, setCell_size]; done) | (simp only [alloc_size, drew_size, setCell_size]; omega))))))); intro Q1; obtain ⟨qa1, qb1, qc1, qd1⟩ := pair_cells Q1 (Below.refl _ _))); (try (refine cutp (p := w4.heap[w3.heap.size]? = some (.cells #[.bool false, .slice none 0 0] 24)) ?_ ?_; (· (repeat (first | (with_reducible refine heap_at' _ _ _ ?_; (first | omega | (simp only [alloc_size, drew_size, setCell_size]; done) | (simp only [alloc_size, drew_size, setCell_size]; omega))) | (with_reducible apply box2) | (with_reducible apply box3) | (with_reducible refine (heap_set _ _ _ _ _ ?_).trans ?_; (· (first | omega | (simp only [alloc_size, drew_size, setCell_size]; done) | (simp only [alloc_size, drew_size, setCell_size]; omega)))) | (with_reducible refine (Below.heap_alloc _ _ _ ?_).trans ?_; (· (first | omega | (simp only [alloc_size, drew_size, setCell_size]; done) | (simp only [alloc_size, drew_size, setCell_size]; omega)))) | (with_reducible refine (drew_at _ _).trans ?_) | (with_reducible refine (f4.block _ ?_).trans ?_; (· (first | omega | (simp only [alloc_size, drew_size, setCell_size]; done) | (simp only [alloc_size, drew_size, setCell_size]; omega)))) | (with_reducible refine (f3.block _ ?_).trans ?_; (· (first | omega | (simp only [alloc_size, drew_size, setCell_size]; done) | (simp only [alloc_size, drew_size, setCell_size]; omega))))))); intro Q2; obtain ⟨qa2, qb2, qc2, qd2⟩ := pair_cells Q2 (Below.refl _ _))); (try (refine cutp (p := w4.heap[w3.heap.size + 1]? = some (.cells #[.bool false, .slice none 0 0] 24)) ?_ ?_; (· (repeat (first | (with_reducible refine heap_at' _ _ _ ?_; (first | omega | (simp only [alloc_size, drew_size, setCell_size]; done) | (simp only [alloc_size, drew_size, setCell_size]; omega))) | (with_reducible apply box2) | (with_reducible apply box3) | (with_reducible refine (heap_set _ _ _ _ _ ?_).trans ?_; (· (first | omega | (simp only [alloc_size, drew_size, setCell_size]; done) | (simp only [alloc_size, drew_size, setCell_size]; omega)))) | (with_reducible refine (Below.heap_alloc _ _ _ ?_).trans ?_; (· (first | omega | (simp only [alloc_size, drew_size, setCell_size]; done) | (simp only [alloc_size, drew_size, setCell_size]; omega)))) | (with_reducible refine (drew_at _ _).trans ?_) | (with_reducible refine (f4.block _ ?_).trans ?_; (· (first | omega | (simp only [alloc_size, drew_size, setCell_size]; done) | (simp only [alloc_size, drew_size, setCell_size]; omega)))) | (with_reducible refine (f3.block _ ?_).trans ?_; (· (first | omega | (simp only [alloc_size, drew_size, setCell_size]; done) | (simp only [alloc_size, drew_size, setCell_size]; omega))))))); intro Q3; obtain ⟨qa3, qb3, qc3, qd3⟩ := pair_cells Q3 (Below.refl _ _))))
   | (go_at_call 192; (with_reducible refine (HN.out _ ?_).mono ?_); (repeat (first | with_reducible assumption | with_reducible exact Below.refl _ _ | with_reducible apply Below.drew | with_reducible apply below_al)); rintro e w3 ⟨rfl, f3, k3⟩; obtain ⟨r3a, r3b, r3c, _⟩ := cells3 HH.out.1 k3; have z3 := f3.size; (try simp only [alloc_size, drew_size] at z3); (try (have nl3_0 : w.heap.size < w3.heap.size := by omega)); (try (have nq3_61 : ¬ (w.heap.size = w3.heap.size) := by omega); (have nr3_61 : ¬ (w3.heap.size = w.heap.size) := by omega)); (try (have nq3_187 : ¬ (w.heap.size = w3.heap.size + 1) := by omega); (have nr3_187 : ¬ (w3.heap.size + 1 = w.heap.size) := by omega)); (try (have nl3_323 : w.heap.size + 1 < w3.heap.size := by omega)); (try (have nq3_390 : ¬ (w.heap.size + 1 = w3.heap.size) := by omega); (have nr3_390 : ¬ (w3.heap.size = w.heap.size + 1) := by omega)); (try (have nq3_526 : ¬ (w.heap.size + 1 = w3.heap.size + 1) := by omega); (have nr3_526 : ¬ (w3.heap.size + 1 = w.heap.size + 1) := by omega)); (try (have nl3_670 : w0.heap.size < w3.heap.size := by omega)); (try (have nq3_734 : ¬ (w0.heap.size = w3.heap.size) := by omega); (have nr3_734 : ¬ (w3.heap.size = w0.heap.size) := by omega)); (try (have nq3_864 : ¬ (w0.heap.size = w3.heap.size + 1) := by omega); (have nr3_864 : ¬ (w3.heap.size + 1 = w0.heap.size) := by omega)); (try (have nl3_1002 : w0.heap.size + 1 < w3.heap.size := by omega)); (try (have nq3_1071 : ¬ (w0.heap.size + 1 = w3.heap.size) := by omega); (have nr3_1071 : ¬ (w3.heap.size = w0.heap.size + 1) := by omega)); (try (have nq3_1211 : ¬ (w0.heap.size + 1 = w3.heap.size + 1) := by omega); (have nr3_1211 : ¬ (w3.heap.size + 1 = w0.heap.size + 1) := by omega))))
  all_goals
   (try clear nq4_61); (try clear nr4_61); (try clear nq4_187); (try clear nr4_187); (try clear nq4_390); (try clear nr4_390); (try clear nq4_526); (try clear nr4_526); (try clear nq4_734); (try clear nr4_734); (try clear nq4_864); (try clear nr4_864); (try clear nq4_1071); (try clear nr4_1071); (try clear nq4_1211); (try clear nr4_1211); (try clear nq4_1424); (try clear nr4_1424); (try clear nq4_1556); (try clear nr4_1556); (try clear nq4_1765); (try clear nr4_1765); (try clear nq4_1905); (try clear nr4_1905); (try clear nq3_61); (try clear nr3_61); (try clear nq3_187); (try clear nr3_187); (try clear nq3_390); (try clear nr3_390); (try clear nq3_526); (try clear nr3_526); (try clear nq3_734); (try clear nr3_734); (try clear nq3_864); (try clear nr3_864); (try clear nq3_1071); (try clear nr3_1071); (try clear nq3_1211); (try clear nr3_1211); (try clear m1); (try clear m2); (try clear m3); (try clear m4)
   have y3 := k3.size
   go_wp2
   go_meet
   have n0 := own_block o4
   have o5 : Own w0.heap.size w4 aq cq (nd Q.natAbs) := o4.mono (by (first | omega | (simp only [alloc_size, drew_size, setCell_size]; done) | (simp only [alloc_size, drew_size, setCell_size]; omega)))
   (try simp only [alloc_size, drew_size] at n0)
   refine ⟨_, aq, cq, rfl, hid ⟨?_, ?_, ?_⟩⟩
   ·(repeat (first | (with_reducible refine heap_at' _ _ _ ?_; (first | omega | (simp only [alloc_size, drew_size, setCell_size]; done) | (simp only [alloc_size, drew_size, setCell_size]; omega))) | (with_reducible apply box2) | (with_reducible apply box3) | (with_reducible refine (heap_set _ _ _ _ _ ?_).trans ?_; (· (first | omega | (simp only [alloc_size, drew_size, setCell_size]; done) | (simp only [alloc_size, drew_size, setCell_size]; omega)))) | (with_reducible refine (Below.heap_alloc _ _ _ ?_).trans ?_; (· (first | omega | (simp only [alloc_size, drew_size, setCell_size]; done) | (simp only [alloc_size, drew_size, setCell_size]; omega)))) | (with_reducible refine (drew_at _ _).trans ?_) | (with_reducible refine (f4.block _ ?_).trans ?_; (· (first | omega | (simp only [alloc_size, drew_size, setCell_size]; done) | (simp only [alloc_size, drew_size, setCell_size]; omega)))) | (with_reducible refine (f3.block _ ?_).trans ?_; (· (first | omega | (simp only [alloc_size, drew_size, setCell_size]; done) | (simp only [alloc_size, drew_size, setCell_size]; omega))))))
   ·(repeat (first | with_reducible exact o5 | with_reducible refine own_al ?_ _ | (with_reducible refine own_set _ _ ?_ ?_; (· intro a ha; have hn := n0 a ha; omega))))
   ·(repeat (first | with_reducible assumption | with_reducible exact Below.refl _ _ | with_reducible apply Below.drew | with_reducible apply below_al | (with_reducible refine below_set _ _ ?_ ?_; (· (first | omega | (simp only [alloc_size, drew_size, setCell_size]; done) | (simp only [alloc_size, drew_size, setCell_size]; omega))))))
 case rest =>
  obtain ⟨g4, aq, cq, rfl, HS⟩ := hcut
  obtain ⟨t0, t1, _, _⟩ := pair_cells HS.out.1 (Below.refl _ _)
  obtain ⟨k0, k1, k2, k3⟩ := pair_cells HH.out.2 HS.out.2.2
  have hle5 := HS.out.2.1.rd.le
  have hcm5 := HS.out.2.1.rd.cm
  go_wp2
  have hsz := HSZ.out
  refine bodyPost_ret (v := .agg #[.bool (decide (Q < 0)), .slice aq (nd Q.natAbs).length cq]) (by simp [results, Tryz.results139, go_sem, k0, k1]) rfl ?_
  exact RetInt.fin HS.out.2.1 (by omega) (HB.out.trans (HS.out.2.2.mono HB.out.size)) (by omega) _ _

end Go.Proofs.YtcankknlbljicaaGreatDoor
