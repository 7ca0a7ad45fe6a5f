/-  -/
import Derived.Test.YtcankknlbljicaaGreatDoorW2
import Derived.Test.YtcankknlbljicaaGreatDoorW3
import Derived.Test.YtcankknlbljicaaGreatDoorW4
import Derived.Test.YtcankknlbljicaaGreatDoorW6

set_option linter.unusedVariables false
set_option linter.unusedSimpArgs false
set_option linter.unusedSectionVars false
set_option maxRecDepth 100000
set_option maxHeartbeats 3200000

namespace Go.Proofs.YtcankknlbljicaaGreatDoor
open Go.RowKit Num

theorem q_dn : dnQ (Rat.divInt 1 3) 2 = Rat.divInt 1 4 := by kernel_rfl
theorem q_up : upQ (Rat.divInt 1 3) 2 = Rat.divInt 1 2 := by kernel_rfl
theorem q_fl : (Rat.divInt (-1) 2).floor = -1 := by kernel_rfl
theorem q_num : (Rat.divInt 6 (-4)).num = -3 ∧ (Rat.divInt 6 (-4)).den = 2 := ⟨by kernel_rfl, by kernel_rfl⟩
theorem q_fmt : fmtQ (Rat.divInt 6 (-4)) = [45, 51, 47, 50] := by
 have e1 : decT 3 = [51] := by simp [decT, decR]
 have e2 : decT 2 = [50] := by simp [decT, decR]
 unfold fmtQ fmtL
 rw [q_num.1, q_num.2]
 simp [e1, e2]
theorem q_sz {n d : Int} {q : Rat} (hq : q = Rat.divInt n d) (h1 : q.num.natAbs < 4294967296) (h2 : q.den < 4294967296) : Sz q 1 := ⟨nd_length_le (by simpa using h1), nd_length_le (by simpa using h2)⟩
theorem cut24 : CutS [50, 47, 52] [50] [52] true := Or.inl ⟨rfl, rfl, by simp⟩
theorem ip2 : IParsed [50] 2 0 := Or.inr ⟨by simp, false, [50], 2, 0, Or.inr ⟨rfl, rfl, by simp⟩, Or.inr (Or.inr (Or.inr (Or.inr ⟨by simp, by simp, by simp, Or.inl ⟨by intro b hb; simp at hb; omega, by simp [dv], rfl⟩⟩))), Or.inr (Or.inr ⟨rfl, by simp, rfl, rfl⟩)⟩
theorem p4 : Parsed [52] 4 0 := Or.inr (Or.inr (Or.inr (Or.inr ⟨by simp, by simp, by simp, Or.inl ⟨by intro b hb; simp at hb; omega, by simp [dv], rfl⟩⟩)))
theorem nd_small {n : Nat} (h : n < 4294967296) : (nd n).length ≤ 1 := nd_length_le (by simpa using h)
theorem parse24 (w : World) (hT : Tb w) : Calls Tryz.prog 14 #[.string ⟨#[50, 47, 52]⟩] w (fun e w' => ∃ ao c ad d, e = .returned (.tuple #[.agg #[.bool false, .slice ao 0 c, .slice ad 0 d], .int .i64 6]) ∧ c ≤ 9223372036854775807 ∧ d ≤ 9223372036854775807 ∧ Below w.heap.size w w') :=
 (rparse_bad [50, 47, 52] [50] [52] 2 w (by intro b hb; simp at hb; omega) (by simp) cut24 ip2 4 p4 (hid (Nat.le_trans (nd_small (by omega)) (by omega))) (hid (by omega)) (hid (Nat.le_trans (nd_small (by decide)) (by omega))) (hid (Nat.le_trans (nd_small (by omega)) (by omega))) (hid fun _ hw => hT.below hw)
  (hid (fun h => absurd h.2.2.2 (by rw [val_nd, val_nd]; decide))) 0).mono fun _ _ h => h.bad (by decide)
end Go.Proofs.YtcankknlbljicaaGreatDoor

namespace Go.Proofs.YtcankknlbljicaaGreatDoor
open Go.RowKit Num

set_option maxHeartbeats 6400000 in
theorem awake3_any (w : World) (hT : Tb w) : Calls Tryz.prog 13 #[] w (RetB (.bool true) w) := by
 obtain ⟨P0, hP0⟩ : ∃ q, q = Rat.divInt 1 3 := ⟨_, rfl⟩
 obtain ⟨P1, hP1⟩ : ∃ q, q = Rat.divInt 1 4 := ⟨_, rfl⟩
 obtain ⟨P2, hP2⟩ : ∃ q, q = Rat.divInt 1 2 := ⟨_, rfl⟩
 obtain ⟨P3, hP3⟩ : ∃ q, q = Rat.divInt 6 (-4) := ⟨_, rfl⟩
 obtain ⟨P4, hP4⟩ : ∃ q, q = Rat.divInt (-1) 2 := ⟨_, rfl⟩
 obtain ⟨M1, hM1⟩ : ∃ z : Int, z = -1 := ⟨_, rfl⟩
 have s0 : Sz P0 1 := q_sz hP0 (by rw [hP0, show (Rat.divInt 1 3).num = 1 by kernel_rfl]; decide) (by rw [hP0, show (Rat.divInt 1 3).den = 3 by kernel_rfl]; decide)
 have C0 := hid (fun w' (h : Tb w') => show Calls Tryz.prog 73 #[.int .i64 1, .int .i64 3] w' (RetRat P0 w') from hP0 ▸ frac3_any 1 3 w' (by omega) (by omega) (by omega) (by omega) h)
 have C3 := hid (fun w' (h : Tb w') => show Calls Tryz.prog 73 #[.int .i64 6, .int .i64 (-4)] w' (RetRat P3 w') from hP3 ▸ frac3_any 6 (-4) w' (by omega) (by omega) (by omega) (by omega) h)
 have C4 := hid (fun w' (h : Tb w') => show Calls Tryz.prog 73 #[.int .i64 (-1), .int .i64 2] w' (RetRat P4 w') from hP4 ▸ frac3_any (-1) 2 w' (by omega) (by omega) (by omega) (by omega) h)
 have R1 := hid (fun w' => show Calls Tryz.prog 70 #[.int .i64 1, .int .i64 4] w' (RetRat P1 w') from hP1 ▸ rfrac3_any 1 4 w' (by omega) (by omega) (by omega) (by omega))
 have R2 := hid (fun w' => show Calls Tryz.prog 70 #[.int .i64 1, .int .i64 2] w' (RetRat P2 w') from hP2 ▸ rfrac3_any 1 2 w' (by omega) (by omega) (by omega) (by omega))
 have CD := hid (fun w' a c d e (o1 : Own 0 w' a c (nd P0.num.natAbs)) (o2 : Own 0 w' d e (nd P0.den)) (h : Tb w') => show Calls Tryz.prog 74 #[.agg #[.bool (decide (P0.num < 0)), .slice a (nd P0.num.natAbs).length c, .slice d (nd P0.den).length e], .int .i64 2] w' (fun e w'' => ∃ ao c ad d, e = .returned (.tuple #[.agg #[.bool (decide (P1.num < 0)), .slice ao (nd P1.num.natAbs).length c, .slice ad (nd P1.den).length d], .int .i64 0]) ∧ Own w'.heap.size w'' ao c (nd P1.num.natAbs) ∧ Own w'.heap.size w'' ad d (nd P1.den) ∧ Below w'.heap.size w' w'') from by
  have h3 := down3_ok (Rq.own o1 o2 s0) (by omega) h 2 (by omega)
  rw [show (((2 : Nat)) : Int) = (2 : Int) from rfl] at h3
  rw [show dnQ P0 2 = P1 by rw [hP0, hP1]; exact q_dn] at h3
  exact h3.mono fun _ _ h => h.ok)
 have CU := hid (fun w' a c d e (o1 : Own 0 w' a c (nd P0.num.natAbs)) (o2 : Own 0 w' d e (nd P0.den)) (h : Tb w') => show Calls Tryz.prog 75 #[.agg #[.bool (decide (P0.num < 0)), .slice a (nd P0.num.natAbs).length c, .slice d (nd P0.den).length e], .int .i64 2] w' (fun e w'' => ∃ ao c ad d, e = .returned (.tuple #[.agg #[.bool (decide (P2.num < 0)), .slice ao (nd P2.num.natAbs).length c, .slice ad (nd P2.den).length d], .int .i64 0]) ∧ Own w'.heap.size w'' ao c (nd P2.num.natAbs) ∧ Own w'.heap.size w'' ad d (nd P2.den) ∧ Below w'.heap.size w' w'') from by
  have h3 := up3_ok (Rq.own o1 o2 s0) (by omega) h 2 (by omega)
  rw [show (((2 : Nat)) : Int) = (2 : Int) from rfl] at h3
  rw [show upQ P0 2 = P2 by rw [hP0, hP2]; exact q_up] at h3
  exact h3.mono fun _ _ h => h.ok)
 have s3 : Sz P3 1 := q_sz hP3 (by rw [hP3, q_num.1]; decide) (by rw [hP3, q_num.2]; decide)
 have CF := hid (fun w' a c d e (o1 : Own 0 w' a c (nd P3.num.natAbs)) (o2 : Own 0 w' d e (nd P3.den)) (h : Tb w') => show Calls Tryz.prog 16 #[.agg #[.bool (decide (P3.num < 0)), .slice a (nd P3.num.natAbs).length c, .slice d (nd P3.den).length e]] w' (RetB (.string ⟨#[45, 51, 47, 50]⟩) w') from by
  have h3 := format3_any (Rq.own o1 o2 s3) (by omega) h
  rw [show fmtQ P3 = [45, 51, 47, 50] by rw [hP3]; exact q_fmt, show bstr [45, 51, 47, 50] = ⟨#[45, 51, 47, 50]⟩ from rfl] at h3
  exact h3)
 have s4 : Sz P4 1 := q_sz hP4 (by rw [hP4, show (Rat.divInt (-1) 2).num = -1 by kernel_rfl]; decide) (by rw [hP4, show (Rat.divInt (-1) 2).den = 2 by kernel_rfl]; decide)
 have CL := hid (fun w' a c d e (o1 : Own 0 w' a c (nd P4.num.natAbs)) (o2 : Own 0 w' d e (nd P4.den)) => show Calls Tryz.prog 77 #[.agg #[.bool (decide (P4.num < 0)), .slice a (nd P4.num.natAbs).length c, .slice d (nd P4.den).length e]] w' (RetInt w'.heap.size M1 w') from by
  have h3 := Floor3_any (Rq.own o1 o2 s4) (by omega)
  rw [show P4.floor = M1 by rw [hP4, hM1]; exact q_fl] at h3
  exact h3)
 have CO := hid (fun w' => show Calls Tryz.prog 78 #[.int .i64 (-1)] w' (RetInt w'.heap.size M1 w') from by
  rw [hM1]
  exact riof_any (-1) w' (by omega) (by omega))
 have S3 := hid (fun (q : Rat) w' a c d e a' c' d' e' (o1 : Rd w' a c (nd q.num.natAbs)) (o2 : Rd w' d e (nd q.den)) (o3 : Rd w' a' c' (nd q.num.natAbs)) (o4 : Rd w' d' e' (nd q.den)) => same3_any (decide (q.num < 0)) (decide (q.num < 0)) a d a' d' c e c' e' (nd q.num.natAbs) (nd q.den) (nd q.num.natAbs) (nd q.den) true w' o1 o2 o3 o4 (by simp))
 have S2 := hid (fun w' a c a' c' (o1 : Rd w' a c (nd M1.natAbs)) (o3 : Rd w' a' c' (nd M1.natAbs)) => same2_any (decide (M1 < 0)) (decide (M1 < 0)) a a' c c' (nd M1.natAbs) (nd M1.natAbs) true w' o1 o3 (by simp))
 have CP := hid (fun w' (h : Tb w') => parse24 w' h)
 have HT := hid (fun w' (h : Below w.heap.size w w') => hT.below h)
 have c0 := C0.out w hT
 clear hP0 hP1 hP2 hP3 hP4 hM1 s0 s3 s4 hT
 go_enter Tryz.func13, Tryz.ntmps13
 go_wp2_with fail
 refine c0.mono ?_
 rintro e w1 ⟨a1, c1, d1, e1, rfl, o1, u1, f1⟩
 have hx1 := o1.rd.le
 have hx2 := o1.rd.cm
 have hx3 := u1.rd.le
 have hx4 := u1.rd.cm
 have p1 := below_al f1 (.cells #[.bool (decide (P0.num < 0)), .slice a1 (nd P0.num.natAbs).length c1, .slice d1 (nd P0.den).length e1] 26)
 have Q1 := hid (heap_alloc_at w1 (.cells #[.bool (decide (P0.num < 0)), .slice a1 (nd P0.num.natAbs).length c1, .slice d1 (nd P0.den).length e1] 26))
 have O1 := hid (And.intro ((own_al o1 (.cells #[.bool (decide (P0.num < 0)), .slice a1 (nd P0.num.natAbs).length c1, .slice d1 (nd P0.den).length e1] 26)).mono (Nat.zero_le _)) ((own_al u1 (.cells #[.bool (decide (P0.num < 0)), .slice a1 (nd P0.num.natAbs).length c1, .slice d1 (nd P0.den).length e1] 26)).mono (Nat.zero_le _)))
 have Z1 := hid (show (w1.alloc (.cells #[.bool (decide (P0.num < 0)), .slice a1 (nd P0.num.natAbs).length c1, .slice d1 (nd P0.den).length e1] 26)).heap.size = w1.heap.size + 1 by simp)
 have c1d := CD.out (w1.alloc (.cells #[.bool (decide (P0.num < 0)), .slice a1 (nd P0.num.natAbs).length c1, .slice d1 (nd P0.den).length e1] 26)) a1 c1 d1 e1 O1.out.1 O1.out.2 (HT.out _ p1)
 have H1 := hid p1
 clear c0 o1 u1 f1 p1
 go_wp2_with fail
 obtain ⟨wa, hwa⟩ : ∃ x, x = w1.alloc (.cells #[.bool (decide (P0.num < 0)), .slice a1 (nd P0.num.natAbs).length c1, .slice d1 (nd P0.den).length e1] 26) := ⟨_, rfl⟩
 rw [← hwa] at Q1 O1 Z1 c1d H1 ⊢
 clear hwa
 refine c1d.mono ?_
 rintro e w2 ⟨a2, c2, d2, e2, rfl, o2, u2, f2⟩
 have hy1 := o2.rd.le
 have hy2 := o2.rd.cm
 have hy3 := u2.rd.le
 have hy4 := u2.rd.cm
 have g2 := below_al f2 (.cells #[.bool (decide (P1.num < 0)), .slice a2 (nd P1.num.natAbs).length c2, .slice d2 (nd P1.den).length e2] 26)
 have Q2 := hid (heap_alloc_at w2 (.cells #[.bool (decide (P1.num < 0)), .slice a2 (nd P1.num.natAbs).length c2, .slice d2 (nd P1.den).length e2] 26))
 have O2 := hid (And.intro (own_al o2 (.cells #[.bool (decide (P1.num < 0)), .slice a2 (nd P1.num.natAbs).length c2, .slice d2 (nd P1.den).length e2] 26)) (own_al u2 (.cells #[.bool (decide (P1.num < 0)), .slice a2 (nd P1.num.natAbs).length c2, .slice d2 (nd P1.den).length e2] 26)))
 have Z2 := hid (And.intro (show (w2.alloc (.cells #[.bool (decide (P1.num < 0)), .slice a2 (nd P1.num.natAbs).length c2, .slice d2 (nd P1.den).length e2] 26)).heap.size = w2.heap.size + 1 by simp) f2.size)
 have QA := hid ((g2.block w1.heap.size (by have := Z1.out; omega)).trans Q1.out)
 obtain ⟨s0, s1, s2, _⟩ := cells3 Q1.out f2
 have nl0 : w1.heap.size < w2.heap.size := by have := Z1.out; have := f2.size; omega
 have p2 := H1.out.trans (g2.mono H1.out.size)
 have c2d := CU.out (w2.alloc (.cells #[.bool (decide (P1.num < 0)), .slice a2 (nd P1.num.natAbs).length c2, .slice d2 (nd P1.den).length e2] 26)) a1 c1 d1 e1 (O1.out.1.below g2) (O1.out.2.below g2) (HT.out _ p2)
 have H2 := hid p2
 clear c1d o2 u2 f2 g2 p2 Q1 O1 H1
 go_wp2_with fail
 obtain ⟨wb, hwb⟩ : ∃ x, x = w2.alloc (.cells #[.bool (decide (P1.num < 0)), .slice a2 (nd P1.num.natAbs).length c2, .slice d2 (nd P1.den).length e2] 26) := ⟨_, rfl⟩
 rw [← hwb] at Q2 O2 Z2 c2d H2 QA ⊢
 clear hwb s0 s1 s2 nl0
 refine c2d.mono ?_
 rintro e w3 ⟨a3, c3, d3, e3, rfl, o3, u3, f3⟩
 have hz1 := o3.rd.le
 have hz2 := o3.rd.cm
 have hz3 := u3.rd.le
 have hz4 := u3.rd.cm
 have g3 := below_al f3 (.cells #[.bool (decide (P2.num < 0)), .slice a3 (nd P2.num.natAbs).length c3, .slice d3 (nd P2.den).length e3] 26)
 have Q3 := hid (heap_alloc_at w3 (.cells #[.bool (decide (P2.num < 0)), .slice a3 (nd P2.num.natAbs).length c3, .slice d3 (nd P2.den).length e3] 26))
 have O3 := hid (And.intro (own_al o3 (.cells #[.bool (decide (P2.num < 0)), .slice a3 (nd P2.num.natAbs).length c3, .slice d3 (nd P2.den).length e3] 26)) (own_al u3 (.cells #[.bool (decide (P2.num < 0)), .slice a3 (nd P2.num.natAbs).length c3, .slice d3 (nd P2.den).length e3] 26)))
 have O2b := hid (And.intro (O2.out.1.below g3) (O2.out.2.below g3))
 have Q2b := hid ((g3.block w2.heap.size (by have := Z2.out.1; omega)).trans Q2.out)
 have Z3 := hid (And.intro (show (w3.alloc (.cells #[.bool (decide (P2.num < 0)), .slice a3 (nd P2.num.natAbs).length c3, .slice d3 (nd P2.den).length e3] 26)).heap.size = w3.heap.size + 1 by simp) f3.size)
 have p3 := H2.out.trans (g3.mono H2.out.size)
 have c3d := CP.out (w3.alloc (.cells #[.bool (decide (P2.num < 0)), .slice a3 (nd P2.num.natAbs).length c3, .slice d3 (nd P2.den).length e3] 26)) (HT.out _ p3)
 have H3 := hid p3
 clear c2d o3 u3 f3 g3 p3 Q2 O2 H2 QA
 go_wp2_with fail
 obtain ⟨wc, hwc⟩ : ∃ x, x = w3.alloc (.cells #[.bool (decide (P2.num < 0)), .slice a3 (nd P2.num.natAbs).length c3, .slice d3 (nd P2.den).length e3] 26) := ⟨_, rfl⟩
 rw [← hwc] at Q3 O3 Z3 c3d H3 O2b Q2b ⊢
 clear hwc
 refine c3d.mono ?_
 rintro e w4 ⟨a4, c4, d4, e4, rfl, hv1, hv2, f4⟩
 have g4 := below_al f4 (.cells #[.bool false, .slice a4 0 c4, .slice d4 0 e4] 26)
 have Q3b := hid ((g4.block w3.heap.size (by have := Z3.out.1; omega)).trans Q3.out)
 have Q2c := hid ((g4.block w2.heap.size (by have := Z3.out; have := Z2.out; omega)).trans Q2b.out)
 have OO := hid (And.intro (And.intro (O2b.out.1.below g4) (O2b.out.2.below g4)) (And.intro (O3.out.1.below g4) (O3.out.2.below g4)))
 have H4 := hid (H3.out.trans (g4.mono H3.out.size))
 have i0 : (0 : Int) = 0 := rfl
 clear c3d f4 g4 Q3 O3 H3 O2b Q2b
 go_wp2_with fail
 obtain ⟨wz, hwz⟩ : ∃ x, x = w4.alloc (.cells #[.bool false, .slice a4 0 c4, .slice d4 0 e4] 26) := ⟨_, rfl⟩
 rw [← hwz] at Q3b Q2c OO H4 ⊢
 clear hwz
 obtain ⟨s0, s1, s2, _⟩ := cells3 Q2c.out (Below.refl _ _)
 obtain ⟨t0, t1, t2, _⟩ := cells3 Q3b.out (Below.refl _ _)
 have p0 : Below wz.heap.size wz wz.drew := below_drewI _ _
 go_region_held3 (fun w' => w'.cell? ⟨w2.heap.size, 0, none⟩ = some (.bool (decide (P1.num < 0))) ∧ w'.cell? ⟨w2.heap.size, 1, none⟩ = some (.slice a2 (nd P1.num.natAbs).length c2) ∧ w'.cell? ⟨w2.heap.size, 2, none⟩ = some (.slice d2 (nd P1.den).length e2) ∧ w'.cell? ⟨w3.heap.size, 0, none⟩ = some (.bool (decide (P2.num < 0))) ∧ w'.cell? ⟨w3.heap.size, 1, none⟩ = some (.slice a3 (nd P2.num.natAbs).length c3) ∧ w'.cell? ⟨w3.heap.size, 2, none⟩ = some (.slice d3 (nd P2.den).length e3)) (go_keep) (first
  | (go_at_call 76; (with_reducible refine (S2.out y9 a80 c80 a90 c90 (o80.below g9).rd o90.rd).mono ?_); rintro e y10 ⟨rfl, g10⟩; have p10 := p9.trans (g10.mono p9.size); obtain ⟨r10a, r10b, r10c, _⟩ := cells3 Q2c.out p10; obtain ⟨v10a, v10b, v10c, _⟩ := cells3 Q3b.out p10)
  | (go_at_call 78; (with_reducible refine (CO.out y8).mono ?_); rintro e y9 ⟨a90, c90, rfl, o90, g9⟩; have p9 := p8.trans (g9.mono p8.size); obtain ⟨r9a, r9b, r9c, _⟩ := cells3 Q2c.out p9; obtain ⟨v9a, v9b, v9c, _⟩ := cells3 Q3b.out p9)
  | (go_at_call 77; (with_reducible refine (CL.out y7 a70 c70 d70 e70 (o70.mono (Nat.zero_le _)) (u70.mono (Nat.zero_le _))).mono ?_); rintro e y8 ⟨a80, c80, rfl, o80, g8⟩; have p8 := p7.trans (g8.mono p7.size); obtain ⟨r8a, r8b, r8c, _⟩ := cells3 Q2c.out p8; obtain ⟨v8a, v8b, v8c, _⟩ := cells3 Q3b.out p8)
  | (go_at_call 73; (with_reducible refine (C4.out y6 (HT.out _ (H4.out.trans (p6.mono H4.out.size)))).mono ?_); rintro e y7 ⟨a70, c70, d70, e70, rfl, o70, u70, g7⟩; have p7 := p6.trans (g7.mono p6.size); obtain ⟨r7a, r7b, r7c, _⟩ := cells3 Q2c.out p7; obtain ⟨v7a, v7b, v7c, _⟩ := cells3 Q3b.out p7)
  | (go_at_call 16; (with_reducible refine (CF.out y5 a50 c50 d50 e50 (o50.mono (Nat.zero_le _)) (u50.mono (Nat.zero_le _)) (HT.out _ (H4.out.trans (p5.mono H4.out.size)))).mono ?_); rintro e y6 ⟨rfl, g6⟩; have p6 := p5.trans (g6.mono p5.size); obtain ⟨r6a, r6b, r6c, _⟩ := cells3 Q2c.out p6; obtain ⟨v6a, v6b, v6c, _⟩ := cells3 Q3b.out p6)
  | (go_at_call 73; (with_reducible refine (C3.out y4 (HT.out _ (H4.out.trans (p4.mono H4.out.size)))).mono ?_); rintro e y5 ⟨a50, c50, d50, e50, rfl, o50, u50, g5⟩; have p5 := p4.trans (g5.mono p4.size); obtain ⟨r5a, r5b, r5c, _⟩ := cells3 Q2c.out p5; obtain ⟨v5a, v5b, v5c, _⟩ := cells3 Q3b.out p5)
  | (go_at_call 17; (with_reducible refine (S3.out P2 y3 a3 c3 d3 e3 a30 c30 d30 e30 (OO.out.2.1.below p3).rd (OO.out.2.2.below p3).rd o30.rd u30.rd).mono ?_); rintro e y4 ⟨rfl, g4⟩; have p4 := p3.trans (g4.mono p3.size); obtain ⟨r4a, r4b, r4c, _⟩ := cells3 Q2c.out p4; obtain ⟨v4a, v4b, v4c, _⟩ := cells3 Q3b.out p4)
  | (go_at_call 70; (with_reducible refine (R2.out y2).mono ?_); rintro e y3 ⟨a30, c30, d30, e30, rfl, o30, u30, g3⟩; have p3 := p2.trans (g3.mono p2.size); obtain ⟨r3a, r3b, r3c, _⟩ := cells3 Q2c.out p3; obtain ⟨v3a, v3b, v3c, _⟩ := cells3 Q3b.out p3)
  | (go_at_call 17; (with_reducible refine (S3.out P1 y1 a2 c2 d2 e2 a10 c10 d10 e10 (OO.out.1.1.below p1).rd (OO.out.1.2.below p1).rd o10.rd u10.rd).mono ?_); rintro e y2 ⟨rfl, g2⟩; have p2 := p1.trans (g2.mono p1.size); obtain ⟨r2a, r2b, r2c, _⟩ := cells3 Q2c.out p2; obtain ⟨v2a, v2b, v2c, _⟩ := cells3 Q3b.out p2)
  | (go_at_call 70; (with_reducible refine (R1.out wz.drew).mono ?_); rintro e y1 ⟨a10, c10, d10, e10, rfl, o10, u10, g1⟩; have p1 := p0.trans (g1.mono p0.size); obtain ⟨r1a, r1b, r1c, _⟩ := cells3 Q2c.out p1; obtain ⟨v1a, v1b, v1c, _⟩ := cells3 Q3b.out p1))
 all_goals
  go_wp2
  go_ret
  exact ⟨rfl, H4.out.trans (p10.mono H4.out.size)⟩

end Go.Proofs.YtcankknlbljicaaGreatDoor
