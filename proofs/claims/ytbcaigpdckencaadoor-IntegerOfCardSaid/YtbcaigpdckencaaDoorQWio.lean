/- integer.Valid; the walk of IntegerOf. -/
import Derived.Test.YtbcaigpdckencaaDoorQWid

namespace Go.Proofs.YtbcaigpdckencaaDoor
open Go.RowKit Num

theorem of_all (n : Int) (w : World) (h1 : -9223372036854775808 ≤ n) (h2 : n ≤ 9223372036854775807) : Calls Tryd.prog 41 #[.int .i64 n] w (RetInt w.heap.size n w) := by
  by_cases h : 0 ≤ n
  · exact of_nn n w h h2
  · exact of_neg n w (by omega) h1
theorem rof_all (n : Int) (w : World) (h1 : -9223372036854775808 ≤ n) (h2 : n ≤ 9223372036854775807) : Calls Tryd.prog 44 #[.int .i64 n] w (RetInt w.heap.size n w) := by
  by_cases h : 0 ≤ n
  · exact rof_nn n w h h2
  · exact rof_neg n w (by omega) h1

theorem canon_ok (n : Int) : ¬ (decide (n < 0) = true ∧ nd n.natAbs = []) := by
  rintro ⟨h1, h2⟩
  have := of_decide_eq_true h1
  have := nd_eq_nil.1 h2
  omega
set_option maxRecDepth 100000 in
theorem ivalid_any (b : Bool) (ao : Option Addr) (c : Nat) (xs : List Nat) (r : Bool) (w : World) (h : Rd w ao c xs) (hr : r = true ↔ nrm xs ∧ ¬ (b = true ∧ xs = [])) :
    Calls Tryd.prog 43 #[.agg #[.bool b, .slice ao xs.length c]] w (RetB (.bool r) w) := by
  have hba := below_alloc w (.cells #[.bool b, .slice ao xs.length c] 43)
  have hx1 := heap_alloc_at w (.cells #[.bool b, .slice ao xs.length c] 43)
  obtain ⟨nb, hnb⟩ : ∃ nb : Bool, nb = true ↔ nrm xs := by
    by_cases h : nrm xs
    · exact ⟨true, by simp [h]⟩
    · exact ⟨false, by simp [h]⟩
  have hc := normal_any ao c xs nb _ (h.below hba) hnb
  obtain ⟨s0, s1, _, _⟩ := pair_cells (W := w.alloc (.cells #[.bool b, .slice ao xs.length c] 43)) hx1 (Below.refl _ _)
  have H := hid hba
  clear hba hx1 h
  generalize hw1 : w.alloc (.cells #[.bool b, .slice ao xs.length c] 43) = w1 at hc H s0 s1
  cases nb
  · obtain rfl : r = false := by
      cases r with
      | false => rfl
      | true => exact absurd (hnb.2 (hr.1 rfl).1) (by simp)
    clear hr hnb
    subst hw1
    go_enter Tryd.func43, Tryd.ntmps43
    go_wp2_with fail
    refine hc.mono ?_
    rintro e w' ⟨rfl, rfl⟩
    clear hc
    go_wp2
    go_ret
    exact ⟨rfl, H.out⟩
  · have hn : nrm xs := hnb.1 rfl
    cases b
    · obtain rfl : r = true := hr.2 ⟨hn, by simp⟩
      clear hr hnb hn
      subst hw1
      go_enter Tryd.func43, Tryd.ntmps43
      go_wp2_with fail
      refine hc.mono ?_
      rintro e w' ⟨rfl, rfl⟩
      clear hc
      go_wp2
      go_ret
      exact ⟨rfl, H.out⟩
    · by_cases h0 : xs = []
      · obtain rfl : r = false := by
          cases r with
          | false => rfl
          | true => exact absurd ⟨rfl, h0⟩ (hr.1 rfl).2
        have hl : (((xs.length : Nat) : Int) == 0) = true := by rw [h0]; rfl
        clear hr hnb hn h0
        subst hw1
        go_enter Tryd.func43, Tryd.ntmps43
        go_wp2_with fail
        refine hc.mono ?_
        rintro e w' ⟨rfl, rfl⟩
        clear hc
        go_wp2
        go_ret
        exact ⟨rfl, H.out⟩
      · obtain rfl : r = true := hr.2 ⟨hn, fun h => h0 h.2⟩
        have hl : (((xs.length : Nat) : Int) == 0) = false := by
          rw [beq_eq_false_iff_ne]
          have := List.length_pos_iff.2 h0
          omega
        clear hr hnb hn h0
        subst hw1
        go_enter Tryd.func43, Tryd.ntmps43
        go_wp2_with fail
        refine hc.mono ?_
        rintro e w' ⟨rfl, rfl⟩
        clear hc
        go_wp2
        go_ret
        exact ⟨rfl, H.out⟩

set_option maxRecDepth 100000 in
set_option maxHeartbeats 6400000 in
theorem walkIntegerOf (n m : Int) (w : World) (hnw : (Lit.int .i64 n).wf = true) (hmw : (Lit.int .i64 m).wf = true) :
    Calls Tryd.prog 7 #[.int .i64 n, .int .i64 m] w (RetB (.bool true) w) := by
  obtain ⟨hn1, hn2⟩ := Go.Joins.in64_of_wf hnw
  obtain ⟨hm1, hm2⟩ := Go.Joins.in64_of_wf hmw
  have c1 := of_all n w hn1 hn2
  have HO := hid (fun w' => And.intro (of_all m w' hm1 hm2) (rof_all n w' hn1 hn2))
  have lN : (nd n.natAbs).length ≤ 17592186044416 := Nat.le_trans (nd_length_le (k := 2) (by rw [show (4294967296 : Nat) ^ 2 = 18446744073709551616 from rfl]; omega)) (by omega)
  have lM : (nd m.natAbs).length ≤ 17592186044416 := Nat.le_trans (nd_length_le (k := 2) (by rw [show (4294967296 : Nat) ^ 2 = 18446744073709551616 from rfl]; omega)) (by omega)
  obtain ⟨r, hr⟩ : ∃ r, r = cmpI n m := ⟨_, rfl⟩
  have HSM := hid (fun w' ao c (h : Rd w' ao c (nd n.natAbs)) => Small_any n ao c w' h hn1 hn2)
  have HCP := hid (show cmpI (iv (decide (n < 0)) (val (nd n.natAbs))) (iv (decide (m < 0)) (val (nd m.natAbs))) = r by rw [iv_canonZ, iv_canonZ, hr])
  have hrr : (r == r) = true := by simp
  have HRV := hid hr
  clear hnw hmw hr
  by_cases hlt : n < m
  · obtain rfl : r = -1 := by rw [HRV.out, cmpI, if_pos hlt]
    go_enter Tryd.func7, Tryd.ntmps7
    go_wp2_with fail
    refine c1.mono ?_
    rintro e w1 ⟨a1, d1, rfl, o1, f1⟩
    have c2 := (HO.out w1).1
    go_wp2_with fail
    (with_reducible refine c2.mono ?_)
    rintro e w2 ⟨a2, d2, rfl, o2, f2⟩
    have hq3 := B2_heap w2 (decide (n < 0)) (decide (m < 0)) a1 a2 (nd n.natAbs).length (nd m.natAbs).length d1 d2
    have g3 := B2_below w2 (decide (n < 0)) (decide (m < 0)) a1 a2 (nd n.natAbs).length (nd m.natAbs).length d1 d2
    unfold B2 at hq3 g3
    go_upto_region 2 with fail
    obtain ⟨w3, hw3⟩ : ∃ x, x = ((w2.alloc (.cells #[.bool (decide (n < 0)), .slice a1 (nd n.natAbs).length d1] 43)).alloc (.cells #[.bool (decide (m < 0)), .slice a2 (nd m.natAbs).length d2] 43)) := ⟨_, rfl⟩
    rw [← hw3] at hq3 g3 ⊢
    clear hw3
    have f12 := f1.trans (f2.mono f1.size)
    have HB := hid (f12.trans (g3.mono f12.size))
    have HQ := hid (fun w' (h : Below w3.heap.size w3 w') => And.intro (pair_cells hq3.1 h) (pair_cells hq3.2 h))
    have HOW := hid (And.intro ((o1.below f2).below g3) (o2.below g3))
    have c3 := HSM.out w3 a1 d1 HOW.out.1.rd
    obtain ⟨⟨s0, s1, _, _⟩, ⟨s2, s3, _, _⟩⟩ := HQ.out w3 (Below.refl _ _)
    clear c1 c2 o1 o2 f1 f2 hq3 g3 f12
    go_wp2_with fail
    refine c3.mono ?_
    rintro e w4 ⟨rfl, f4⟩
    clear c3 s0 s1 s2 s3
    obtain ⟨⟨s0, s1, _, _⟩, ⟨s2, s3, _, _⟩⟩ := HQ.out w4 f4
    have hnn : (n == n) = true := by simp
    have p0 := f4.trans (below_drewI _ w4)
    have HV := hid (fun (W : World) (h : Rd W a1 d1 (nd n.natAbs)) => ivalid_any (decide (n < 0)) a1 d1 (nd n.natAbs) true W h ⟨fun _ => ⟨nrm_nd _, canon_ok n⟩, fun _ => rfl⟩)
    go_wp2_with fail
    go_region_held3 (fun w' => w'.cell? ⟨w2.heap.size, 0, none⟩ = some (.bool (decide (n < 0))) ∧ w'.cell? ⟨w2.heap.size, 1, none⟩ = some (.slice a1 (nd n.natAbs).length d1) ∧ w'.cell? ⟨w2.heap.size + 1, 0, none⟩ = some (.bool (decide (m < 0))) ∧ w'.cell? ⟨w2.heap.size + 1, 1, none⟩ = some (.slice a2 (nd m.natAbs).length d2)) (go_keep) (first
      | (go_at_call 37; (with_reducible refine (icmp_zz (decide (n < 0)) (decide (m < 0)) a1 a2 d1 d2 (nd n.natAbs) (nd m.natAbs) y4 (HOW.out.1.below p4).rd (HOW.out.2.below p4).rd lN lM HCP.out).mono ?_); rintro e y5 ⟨rfl, g5⟩; have p5 := p4.trans (g5.mono p4.size); obtain ⟨⟨z50, z51, _, _⟩, ⟨z52, z53, _, _⟩⟩ := HQ.out y5 p5; clear z40 z41 z42 z43)
      | (go_at_call 35; (with_reducible refine (same2_any (decide (n < 0)) (decide (n < 0)) a1 b3 d1 e3 (nd n.natAbs) (nd n.natAbs) true y3 (HOW.out.1.below p3).rd o3.rd (by simp)).mono ?_); rintro e y4 ⟨rfl, g4⟩; have p4 := p3.trans (g4.mono p3.size); obtain ⟨⟨z40, z41, _, _⟩, ⟨z42, z43, _, _⟩⟩ := HQ.out y4 p4; clear z30 z31 z32 z33)
      | (go_at_call 44; (with_reducible refine ((HO.out y2).2).mono ?_); rintro e y3 ⟨b3, e3, rfl, o3, g3⟩; have p3 := p2.trans (g3.mono p2.size); obtain ⟨⟨z30, z31, _, _⟩, ⟨z32, z33, _, _⟩⟩ := HQ.out y3 p3; clear z20 z21 z22 z23)
      | (go_at_call 43; (with_reducible refine (HV.out y1 (HOW.out.1.below p1).rd).mono ?_); rintro e y2 ⟨rfl, g2⟩; have p2 := p1.trans (g2.mono p1.size); obtain ⟨⟨z20, z21, _, _⟩, ⟨z22, z23, _, _⟩⟩ := HQ.out y2 p2; clear z10 z11 z12 z13)
      | (go_at_call 32; (with_reducible refine (awake2_any w4.drew).mono ?_); rintro e y1 ⟨rfl, g1⟩; have p1 := p0.trans (g1.mono p0.size); obtain ⟨⟨z10, z11, _, _⟩, ⟨z12, z13, _, _⟩⟩ := HQ.out y1 p1; clear s0 s1 s2 s3))
    all_goals
      go_wp2
      go_ret
      exact ⟨rfl, HB.out.trans (p5.mono HB.out.size)⟩
  · by_cases hgt : m < n
    · obtain rfl : r = 1 := by rw [HRV.out, cmpI, if_neg hlt, if_pos hgt]
      go_enter Tryd.func7, Tryd.ntmps7
      go_wp2_with fail
      refine c1.mono ?_
      rintro e w1 ⟨a1, d1, rfl, o1, f1⟩
      have c2 := (HO.out w1).1
      go_wp2_with fail
      (with_reducible refine c2.mono ?_)
      rintro e w2 ⟨a2, d2, rfl, o2, f2⟩
      have hq3 := B2_heap w2 (decide (n < 0)) (decide (m < 0)) a1 a2 (nd n.natAbs).length (nd m.natAbs).length d1 d2
      have g3 := B2_below w2 (decide (n < 0)) (decide (m < 0)) a1 a2 (nd n.natAbs).length (nd m.natAbs).length d1 d2
      unfold B2 at hq3 g3
      go_upto_region 2 with fail
      obtain ⟨w3, hw3⟩ : ∃ x, x = ((w2.alloc (.cells #[.bool (decide (n < 0)), .slice a1 (nd n.natAbs).length d1] 43)).alloc (.cells #[.bool (decide (m < 0)), .slice a2 (nd m.natAbs).length d2] 43)) := ⟨_, rfl⟩
      rw [← hw3] at hq3 g3 ⊢
      clear hw3
      have f12 := f1.trans (f2.mono f1.size)
      have HB := hid (f12.trans (g3.mono f12.size))
      have HQ := hid (fun w' (h : Below w3.heap.size w3 w') => And.intro (pair_cells hq3.1 h) (pair_cells hq3.2 h))
      have HOW := hid (And.intro ((o1.below f2).below g3) (o2.below g3))
      have c3 := HSM.out w3 a1 d1 HOW.out.1.rd
      obtain ⟨⟨s0, s1, _, _⟩, ⟨s2, s3, _, _⟩⟩ := HQ.out w3 (Below.refl _ _)
      clear c1 c2 o1 o2 f1 f2 hq3 g3 f12
      go_wp2_with fail
      refine c3.mono ?_
      rintro e w4 ⟨rfl, f4⟩
      clear c3 s0 s1 s2 s3
      obtain ⟨⟨s0, s1, _, _⟩, ⟨s2, s3, _, _⟩⟩ := HQ.out w4 f4
      have hnn : (n == n) = true := by simp
      have p0 := f4.trans (below_drewI _ w4)
      have HV := hid (fun (W : World) (h : Rd W a1 d1 (nd n.natAbs)) => ivalid_any (decide (n < 0)) a1 d1 (nd n.natAbs) true W h ⟨fun _ => ⟨nrm_nd _, canon_ok n⟩, fun _ => rfl⟩)
      go_wp2_with fail
      go_region_held3 (fun w' => w'.cell? ⟨w2.heap.size, 0, none⟩ = some (.bool (decide (n < 0))) ∧ w'.cell? ⟨w2.heap.size, 1, none⟩ = some (.slice a1 (nd n.natAbs).length d1) ∧ w'.cell? ⟨w2.heap.size + 1, 0, none⟩ = some (.bool (decide (m < 0))) ∧ w'.cell? ⟨w2.heap.size + 1, 1, none⟩ = some (.slice a2 (nd m.natAbs).length d2)) (go_keep) (first
        | (go_at_call 37; (with_reducible refine (icmp_zz (decide (n < 0)) (decide (m < 0)) a1 a2 d1 d2 (nd n.natAbs) (nd m.natAbs) y4 (HOW.out.1.below p4).rd (HOW.out.2.below p4).rd lN lM HCP.out).mono ?_); rintro e y5 ⟨rfl, g5⟩; have p5 := p4.trans (g5.mono p4.size); obtain ⟨⟨z50, z51, _, _⟩, ⟨z52, z53, _, _⟩⟩ := HQ.out y5 p5; clear z40 z41 z42 z43)
        | (go_at_call 35; (with_reducible refine (same2_any (decide (n < 0)) (decide (n < 0)) a1 b3 d1 e3 (nd n.natAbs) (nd n.natAbs) true y3 (HOW.out.1.below p3).rd o3.rd (by simp)).mono ?_); rintro e y4 ⟨rfl, g4⟩; have p4 := p3.trans (g4.mono p3.size); obtain ⟨⟨z40, z41, _, _⟩, ⟨z42, z43, _, _⟩⟩ := HQ.out y4 p4; clear z30 z31 z32 z33)
        | (go_at_call 44; (with_reducible refine ((HO.out y2).2).mono ?_); rintro e y3 ⟨b3, e3, rfl, o3, g3⟩; have p3 := p2.trans (g3.mono p2.size); obtain ⟨⟨z30, z31, _, _⟩, ⟨z32, z33, _, _⟩⟩ := HQ.out y3 p3; clear z20 z21 z22 z23)
        | (go_at_call 43; (with_reducible refine (HV.out y1 (HOW.out.1.below p1).rd).mono ?_); rintro e y2 ⟨rfl, g2⟩; have p2 := p1.trans (g2.mono p1.size); obtain ⟨⟨z20, z21, _, _⟩, ⟨z22, z23, _, _⟩⟩ := HQ.out y2 p2; clear z10 z11 z12 z13)
        | (go_at_call 32; (with_reducible refine (awake2_any w4.drew).mono ?_); rintro e y1 ⟨rfl, g1⟩; have p1 := p0.trans (g1.mono p0.size); obtain ⟨⟨z10, z11, _, _⟩, ⟨z12, z13, _, _⟩⟩ := HQ.out y1 p1; clear s0 s1 s2 s3))
      all_goals
        go_wp2
        go_ret
        exact ⟨rfl, HB.out.trans (p5.mono HB.out.size)⟩
    · obtain rfl : r = 0 := by rw [HRV.out, cmpI, if_neg hlt, if_neg hgt]
      go_enter Tryd.func7, Tryd.ntmps7
      go_wp2_with fail
      refine c1.mono ?_
      rintro e w1 ⟨a1, d1, rfl, o1, f1⟩
      have c2 := (HO.out w1).1
      go_wp2_with fail
      (with_reducible refine c2.mono ?_)
      rintro e w2 ⟨a2, d2, rfl, o2, f2⟩
      have hq3 := B2_heap w2 (decide (n < 0)) (decide (m < 0)) a1 a2 (nd n.natAbs).length (nd m.natAbs).length d1 d2
      have g3 := B2_below w2 (decide (n < 0)) (decide (m < 0)) a1 a2 (nd n.natAbs).length (nd m.natAbs).length d1 d2
      unfold B2 at hq3 g3
      go_upto_region 2 with fail
      obtain ⟨w3, hw3⟩ : ∃ x, x = ((w2.alloc (.cells #[.bool (decide (n < 0)), .slice a1 (nd n.natAbs).length d1] 43)).alloc (.cells #[.bool (decide (m < 0)), .slice a2 (nd m.natAbs).length d2] 43)) := ⟨_, rfl⟩
      rw [← hw3] at hq3 g3 ⊢
      clear hw3
      have f12 := f1.trans (f2.mono f1.size)
      have HB := hid (f12.trans (g3.mono f12.size))
      have HQ := hid (fun w' (h : Below w3.heap.size w3 w') => And.intro (pair_cells hq3.1 h) (pair_cells hq3.2 h))
      have HOW := hid (And.intro ((o1.below f2).below g3) (o2.below g3))
      have c3 := HSM.out w3 a1 d1 HOW.out.1.rd
      obtain ⟨⟨s0, s1, _, _⟩, ⟨s2, s3, _, _⟩⟩ := HQ.out w3 (Below.refl _ _)
      clear c1 c2 o1 o2 f1 f2 hq3 g3 f12
      go_wp2_with fail
      refine c3.mono ?_
      rintro e w4 ⟨rfl, f4⟩
      clear c3 s0 s1 s2 s3
      obtain ⟨⟨s0, s1, _, _⟩, ⟨s2, s3, _, _⟩⟩ := HQ.out w4 f4
      have hnn : (n == n) = true := by simp
      have p0 := f4.trans (below_drewI _ w4)
      have HV := hid (fun (W : World) (h : Rd W a1 d1 (nd n.natAbs)) => ivalid_any (decide (n < 0)) a1 d1 (nd n.natAbs) true W h ⟨fun _ => ⟨nrm_nd _, canon_ok n⟩, fun _ => rfl⟩)
      go_wp2_with fail
      go_region_held3 (fun w' => w'.cell? ⟨w2.heap.size, 0, none⟩ = some (.bool (decide (n < 0))) ∧ w'.cell? ⟨w2.heap.size, 1, none⟩ = some (.slice a1 (nd n.natAbs).length d1) ∧ w'.cell? ⟨w2.heap.size + 1, 0, none⟩ = some (.bool (decide (m < 0))) ∧ w'.cell? ⟨w2.heap.size + 1, 1, none⟩ = some (.slice a2 (nd m.natAbs).length d2)) (go_keep) (first
        | (go_at_call 37; (with_reducible refine (icmp_zz (decide (n < 0)) (decide (m < 0)) a1 a2 d1 d2 (nd n.natAbs) (nd m.natAbs) y4 (HOW.out.1.below p4).rd (HOW.out.2.below p4).rd lN lM HCP.out).mono ?_); rintro e y5 ⟨rfl, g5⟩; have p5 := p4.trans (g5.mono p4.size); obtain ⟨⟨z50, z51, _, _⟩, ⟨z52, z53, _, _⟩⟩ := HQ.out y5 p5; clear z40 z41 z42 z43)
        | (go_at_call 35; (with_reducible refine (same2_any (decide (n < 0)) (decide (n < 0)) a1 b3 d1 e3 (nd n.natAbs) (nd n.natAbs) true y3 (HOW.out.1.below p3).rd o3.rd (by simp)).mono ?_); rintro e y4 ⟨rfl, g4⟩; have p4 := p3.trans (g4.mono p3.size); obtain ⟨⟨z40, z41, _, _⟩, ⟨z42, z43, _, _⟩⟩ := HQ.out y4 p4; clear z30 z31 z32 z33)
        | (go_at_call 44; (with_reducible refine ((HO.out y2).2).mono ?_); rintro e y3 ⟨b3, e3, rfl, o3, g3⟩; have p3 := p2.trans (g3.mono p2.size); obtain ⟨⟨z30, z31, _, _⟩, ⟨z32, z33, _, _⟩⟩ := HQ.out y3 p3; clear z20 z21 z22 z23)
        | (go_at_call 43; (with_reducible refine (HV.out y1 (HOW.out.1.below p1).rd).mono ?_); rintro e y2 ⟨rfl, g2⟩; have p2 := p1.trans (g2.mono p1.size); obtain ⟨⟨z20, z21, _, _⟩, ⟨z22, z23, _, _⟩⟩ := HQ.out y2 p2; clear z10 z11 z12 z13)
        | (go_at_call 32; (with_reducible refine (awake2_any w4.drew).mono ?_); rintro e y1 ⟨rfl, g1⟩; have p1 := p0.trans (g1.mono p0.size); obtain ⟨⟨z10, z11, _, _⟩, ⟨z12, z13, _, _⟩⟩ := HQ.out y1 p1; clear s0 s1 s2 s3))
      all_goals
        go_wp2
        go_ret
        exact ⟨rfl, HB.out.trans (p5.mono HB.out.size)⟩
end Go.Proofs.YtbcaigpdckencaaDoor
