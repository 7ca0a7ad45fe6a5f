/- The walk of RationalRounds. -/
import Derived.Test.YtibfeceainemjaaGreatDoorQ7
import Derived.Test.YtibfeceainemjaaGreatDoorQ3
import Derived.Test.YtibfeceainemjaaGreatDoorQbg
import Derived.Test.YtibfeceainemjaaGreatDoorQbf
import Derived.Test.YtibfeceainemjaaGreatDoorQ6
import Derived.Test.YtibfeceainemjaaGreatDoorQ4

set_option linter.unusedVariables false
set_option linter.unusedSimpArgs false
set_option linter.unusedSectionVars false

namespace Go.Proofs.YtibfeceainemjaaGreatDoor
open Go.RowKit Num

theorem Rq.own0 {w : World} {ao ad : Option Addr} {c d B n : Nat} {q : Rat} (h1 : Own B w ao c (rnm q 0)) (h2 : Own B w ad d (rdn q 0)) (hs : Sz q n) : Rq w (rsg q 0) ao c (rnm q 0) ad d (rdn q 0) q n := by
  have e : rsg q 0 = decide (q.num < 0) := Bool.true_and _
  rw [e]
  exact Rq.own h1 h2 hs
theorem lessF {b1 : Bool} {ao1 : Option Addr} {c1 : Nat} {xs1 : List Nat} {ad1 : Option Addr} {d1 : Nat} {ds1 : List Nat} {q1 : Rat} {n1 : Nat} {b2 : Bool} {ao2 : Option Addr} {c2 : Nat} {xs2 : List Nat} {ad2 : Option Addr} {d2 : Nat} {ds2 : List Nat} {q2 : Rat} {n2 : Nat} {w : World} (h1 : Rq w b1 ao1 c1 xs1 ad1 d1 ds1 q1 n1) (h2 : Rq w b2 ao2 c2 xs2 ad2 d2 ds2 q2 n2) (hf : ¬ q1 < q2) (hn1 : n1 ≤ 99999 := by omega) (hn2 : n2 ≤ 99999 := by omega) :
    Calls Tryz.prog 52 #[.agg #[.bool b1, .slice ao1 xs1.length c1, .slice ad1 ds1.length d1], .agg #[.bool b2, .slice ao2 xs2.length c2, .slice ad2 ds2.length d2]] w (RetB (.bool false) w) := by
  have h3 := rless3_any h1 h2 (by omega) (by omega)
  rw [show decide (q1 < q2) = false from decide_eq_false hf] at h3
  exact h3

set_option maxRecDepth 100000 in
set_option maxHeartbeats 25600000 in
theorem walkRationalRounds (b : Bool) (ao : Option Addr) (c : Nat) (xs : List Nat) (ad : Option Addr) (d : Nat) (ds : List Nat) (n : Int) (w : World) (ha : Rd w ao c xs) (hd : Rd w ad d ds) (hnw : (Lit.int .i64 n).wf = true) (hT : Tb w) :
    Calls Tryz.prog 5 #[.agg #[.bool b, .slice ao xs.length c, .slice ad ds.length d], .int .i64 n] w (RetB (.bool true) w) := by
  obtain ⟨hn1, hn2⟩ := Go.Joins.in64_of_wf hnw
  clear hnw
  have hle1 := ha.le
  have hle2 := ha.cm
  have hle3 := hd.le
  have hle4 := hd.cm
  by_cases hx1 : xs.length ≤ 4 ∧ ds.length ≤ 4
  case neg =>
    have hB := below_alloc w (.cells #[.bool b, .slice ao xs.length c, .slice ad ds.length d] 26)
    have HH := hid (heap_alloc_at w (.cells #[.bool b, .slice ao xs.length c, .slice ad ds.length d] 26))
    have HSZ := hid (show (w.alloc (.cells #[.bool b, .slice ao xs.length c, .slice ad ds.length d] 26)).heap.size = w.heap.size + 1 by simp)
    have HB := hid hB
    have HR := hid (And.intro (ha.below hB) (hd.below hB))
    have HT := hid (hT.below hB)
    clear ha hd hT hB
    go_enter Tryz.func5, Tryz.ntmps5
    go_wp2_with fail
    obtain ⟨w0, hw0⟩ : ∃ x, x = w.alloc (.cells #[.bool b, .slice ao xs.length c, .slice ad ds.length d] 26) := ⟨_, rfl⟩
    rw [← hw0] at HH HSZ HB HR HT ⊢
    clear hw0
    have k0 : Below w0.heap.size w0 w0 := Below.refl _ _
    obtain ⟨s0, s1, s2, _⟩ := cells3 HH.out k0
    have q1 := smallrat_any b ao ad xs.length c ds.length d false w0 (by omega) (by omega) (by simp; omega)
    refine q1.mono ?_
    rintro e w1 ⟨rfl, f1⟩
    clear s0 s1 s2 q1
    have k1 := f1
    have hk := awake3_any w1 (HT.out.below k1)
    go_wp2_with fail
    refine hk.mono ?_
    rintro e wz ⟨rfl, fz⟩
    have kz := HB.out.trans ((k1.trans (fz.mono k1.size)).mono HB.out.size)
    clear hk fz k1 f1 k0
    go_wp2
    go_ret
    exact ⟨rfl, kz⟩
  have hB := below_alloc w (.cells #[.bool b, .slice ao xs.length c, .slice ad ds.length d] 26)
  have HH := hid (heap_alloc_at w (.cells #[.bool b, .slice ao xs.length c, .slice ad ds.length d] 26))
  have HSZ := hid (show (w.alloc (.cells #[.bool b, .slice ao xs.length c, .slice ad ds.length d] 26)).heap.size = w.heap.size + 1 by simp)
  have HB := hid hB
  have HR := hid (And.intro (ha.below hB) (hd.below hB))
  have HT := hid (hT.below hB)
  clear ha hd hT hB
  go_enter Tryz.func5, Tryz.ntmps5
  go_wp2_with fail
  obtain ⟨w0, hw0⟩ : ∃ x, x = w.alloc (.cells #[.bool b, .slice ao xs.length c, .slice ad ds.length d] 26) := ⟨_, rfl⟩
  rw [← hw0] at HH HSZ HB HR HT ⊢
  clear hw0
  have k0 : Below w0.heap.size w0 w0 := Below.refl _ _
  obtain ⟨s0, s1, s2, _⟩ := cells3 HH.out k0
  have q1 := smallrat_any b ao ad xs.length c ds.length d true w0 (by omega) (by omega) (by simp; omega)
  refine q1.mono ?_
  rintro e w1 ⟨rfl, f1⟩
  clear s0 s1 s2 q1
  have k1 := f1
  clear f1 k0
  have HQ := hid (⟨HR.out.1, HR.out.2, rfl, hx1.1, hx1.2⟩ : Rq w0 b ao c xs ad d ds (rv b (val xs) (val ds)) 4)
  obtain ⟨q, hq⟩ : ∃ q, q = rv b (val xs) (val ds) := ⟨_, rfl⟩
  rw [← hq] at HQ
  clear hq
  obtain ⟨M, hM⟩ : ∃ M, M = n % 40 := ⟨_, rfl⟩
  have CMD := hid (fun w' => show Calls Tryz.prog 40 #[.int .i64 n, .int .i64 40] w' (Ret (.int .i64 M) w') from by
    have h3 := Mod_all n 40 w' (by omega) (by omega) hn1 hn2
    rw [← hM] at h3
    exact h3)
  clear hM
  go_wp2_with fail
  refine (CMD.out w1).mono ?_
  rintro e wx ⟨rfl, rfl⟩
  have k2 := below_al k1 (.cells #[.int .i64 n, .int .i64 M] 3)
  have HW := hid (heap_alloc_at w1 (.cells #[.int .i64 n, .int .i64 M] 3))
  have HZ1 := hid k1.size
  clear CMD k1
  go_wp2
  obtain ⟨w2, hw2⟩ : ∃ x, x = w1.alloc (.cells #[.int .i64 n, .int .i64 M] 3) := ⟨_, rfl⟩
  rw [← hw2] at k2 HW ⊢
  clear hw2
  have K2 := hid k2
  clear k2
  have SE := hid (fun (q : Rat) (E : Int) w' a c d e a' c' d' e' (o1 : Rd w' a c (rnm q E)) (o2 : Rd w' d e (rdn q E)) (o3 : Rd w' a' c' (rnm q E)) (o4 : Rd w' d' e' (rdn q E)) => same3_any (rsg q E) (rsg q E) a d a' d' c e c' e' (rnm q E) (rdn q E) (rnm q E) (rdn q E) true w' o1 o2 o3 o4 (by simp))
  go_loopw [28] (fun iv wr => ∃ i : Nat, i ≤ 2 ∧ iv = .int .i64 (i : Int) ∧ Hid (Below w2.heap.size w2 wr)) (fun iv _ => (2 - intOf iv).toNat)
  case atStart =>
    exact ⟨0, by omega, rfl, hid (Below.refl _ _)⟩
  case round =>
    obtain ⟨i, hi, rfl, HI⟩ := hrel
    obtain ⟨r0, r1, _, _⟩ := pair_cells HW.out HI.out
    have j0 := K2.out.trans (HI.out.mono K2.out.size)
    rcases (by omega : i = 0 ∨ i = 1 ∨ i = 2) with rfl | rfl | rfl
    · obtain ⟨X, Y, Z, E, hE, hord, hsz, hC⟩ := rounds_all HQ.out (by omega) n
      have HC := hid (fun w' (g : Below w0.heap.size w0 w') => hC w' g (HT.out.below g))
      have HO := hid hord
      have HS := hid hsz
      clear hord hsz hC
      have m0 := HI.out
      rcases hE with rfl | rfl
      · obtain ⟨s0, s1, s2, _⟩ := cells3 HH.out j0
        go_wp2_with fail
        refine (HC.out wr j0).1.mono ?_
        rintro e v1 ⟨a1, c1, d1, e1, rfl, o1, u1, f1⟩
        have hy1a := o1.rd.le
        have hy1b := o1.rd.cm
        have hy1c := u1.rd.le
        have hy1d := u1.rd.cm
        have j1 := below_al (j0.trans (f1.mono j0.size)) (.cells #[.bool (rsg X 0), .slice a1 (rnm X 0).length c1, .slice d1 (rdn X 0).length e1] 26)
        have m1 := below_al (m0.trans (f1.mono m0.size)) (.cells #[.bool (rsg X 0), .slice a1 (rnm X 0).length c1, .slice d1 (rdn X 0).length e1] 26)
        have HB1 := hid (heap_alloc_at v1 (.cells #[.bool (rsg X 0), .slice a1 (rnm X 0).length c1, .slice d1 (rdn X 0).length e1] 26))
        have HO1 := hid (And.intro (own_al o1 (.cells #[.bool (rsg X 0), .slice a1 (rnm X 0).length c1, .slice d1 (rdn X 0).length e1] 26)) (own_al u1 (.cells #[.bool (rsg X 0), .slice a1 (rnm X 0).length c1, .slice d1 (rdn X 0).length e1] 26)))
        clear s0 s1 s2 o1 u1 f1 j0 m0 
        go_upto_region 7 with fail
        obtain ⟨z1, hz1⟩ : ∃ x, x = v1.alloc (.cells #[.bool (rsg X 0), .slice a1 (rnm X 0).length c1, .slice d1 (rdn X 0).length e1] 26) := ⟨_, rfl⟩
        rw [← hz1] at j1 m1 HB1 HO1  ⊢
        clear hz1
        obtain ⟨s0, s1, s2, _⟩ := cells3 HH.out j1
        go_wp2_with fail
        refine (HC.out z1 j1).2.1.mono ?_
        rintro e v2 ⟨a2, c2, d2, e2, rfl, o2, u2, f2⟩
        have hy2a := o2.rd.le
        have hy2b := o2.rd.cm
        have hy2c := u2.rd.le
        have hy2d := u2.rd.cm
        have j2 := below_al (j1.trans (f2.mono j1.size)) (.cells #[.bool (rsg X 0), .slice a2 (rnm X 0).length c2, .slice d2 (rdn X 0).length e2] 26)
        have m2 := below_al (m1.trans (f2.mono m1.size)) (.cells #[.bool (rsg X 0), .slice a2 (rnm X 0).length c2, .slice d2 (rdn X 0).length e2] 26)
        have l1_2 := below_al f2 (.cells #[.bool (rsg X 0), .slice a2 (rnm X 0).length c2, .slice d2 (rdn X 0).length e2] 26)
        have HB2 := hid (heap_alloc_at v2 (.cells #[.bool (rsg X 0), .slice a2 (rnm X 0).length c2, .slice d2 (rdn X 0).length e2] 26))
        have HO2 := hid (And.intro (own_al o2 (.cells #[.bool (rsg X 0), .slice a2 (rnm X 0).length c2, .slice d2 (rdn X 0).length e2] 26)) (own_al u2 (.cells #[.bool (rsg X 0), .slice a2 (rnm X 0).length c2, .slice d2 (rdn X 0).length e2] 26)))
        clear s0 s1 s2 o2 u2 f2 j1 m1 
        go_upto_region 8 with fail
        obtain ⟨z2, hz2⟩ : ∃ x, x = v2.alloc (.cells #[.bool (rsg X 0), .slice a2 (rnm X 0).length c2, .slice d2 (rdn X 0).length e2] 26) := ⟨_, rfl⟩
        rw [← hz2] at j2 m2 HB2 HO2 l1_2 ⊢
        clear hz2
        obtain ⟨s0, s1, s2, _⟩ := cells3 HH.out j2
        go_wp2_with fail
        refine (HC.out z2 j2).2.2.1.mono ?_
        rintro e v3 ⟨a3, c3, d3, e3, rfl, o3, u3, f3⟩
        have hy3a := o3.rd.le
        have hy3b := o3.rd.cm
        have hy3c := u3.rd.le
        have hy3d := u3.rd.cm
        have j3 := below_al (j2.trans (f3.mono j2.size)) (.cells #[.bool (rsg Y 0), .slice a3 (rnm Y 0).length c3, .slice d3 (rdn Y 0).length e3] 26)
        have m3 := below_al (m2.trans (f3.mono m2.size)) (.cells #[.bool (rsg Y 0), .slice a3 (rnm Y 0).length c3, .slice d3 (rdn Y 0).length e3] 26)
        have l1_3 := below_al (l1_2.trans (f3.mono l1_2.size)) (.cells #[.bool (rsg Y 0), .slice a3 (rnm Y 0).length c3, .slice d3 (rdn Y 0).length e3] 26)
        have l2_3 := below_al f3 (.cells #[.bool (rsg Y 0), .slice a3 (rnm Y 0).length c3, .slice d3 (rdn Y 0).length e3] 26)
        have HB3 := hid (heap_alloc_at v3 (.cells #[.bool (rsg Y 0), .slice a3 (rnm Y 0).length c3, .slice d3 (rdn Y 0).length e3] 26))
        have HO3 := hid (And.intro (own_al o3 (.cells #[.bool (rsg Y 0), .slice a3 (rnm Y 0).length c3, .slice d3 (rdn Y 0).length e3] 26)) (own_al u3 (.cells #[.bool (rsg Y 0), .slice a3 (rnm Y 0).length c3, .slice d3 (rdn Y 0).length e3] 26)))
        clear s0 s1 s2 o3 u3 f3 j2 m2 l1_2
        go_upto_region 9 with fail
        obtain ⟨z3, hz3⟩ : ∃ x, x = v3.alloc (.cells #[.bool (rsg Y 0), .slice a3 (rnm Y 0).length c3, .slice d3 (rdn Y 0).length e3] 26) := ⟨_, rfl⟩
        rw [← hz3] at j3 m3 HB3 HO3 l1_3 l2_3 ⊢
        clear hz3
        obtain ⟨s0, s1, s2, _⟩ := cells3 HH.out j3
        go_wp2_with fail
        refine (HC.out z3 j3).2.2.2.1.mono ?_
        rintro e v4 ⟨a4, c4, d4, e4, rfl, o4, u4, f4⟩
        have hy4a := o4.rd.le
        have hy4b := o4.rd.cm
        have hy4c := u4.rd.le
        have hy4d := u4.rd.cm
        have j4 := below_al (j3.trans (f4.mono j3.size)) (.cells #[.bool (rsg Y 0), .slice a4 (rnm Y 0).length c4, .slice d4 (rdn Y 0).length e4] 26)
        have m4 := below_al (m3.trans (f4.mono m3.size)) (.cells #[.bool (rsg Y 0), .slice a4 (rnm Y 0).length c4, .slice d4 (rdn Y 0).length e4] 26)
        have l1_4 := below_al (l1_3.trans (f4.mono l1_3.size)) (.cells #[.bool (rsg Y 0), .slice a4 (rnm Y 0).length c4, .slice d4 (rdn Y 0).length e4] 26)
        have l2_4 := below_al (l2_3.trans (f4.mono l2_3.size)) (.cells #[.bool (rsg Y 0), .slice a4 (rnm Y 0).length c4, .slice d4 (rdn Y 0).length e4] 26)
        have l3_4 := below_al f4 (.cells #[.bool (rsg Y 0), .slice a4 (rnm Y 0).length c4, .slice d4 (rdn Y 0).length e4] 26)
        have HB4 := hid (heap_alloc_at v4 (.cells #[.bool (rsg Y 0), .slice a4 (rnm Y 0).length c4, .slice d4 (rdn Y 0).length e4] 26))
        have HO4 := hid (And.intro (own_al o4 (.cells #[.bool (rsg Y 0), .slice a4 (rnm Y 0).length c4, .slice d4 (rdn Y 0).length e4] 26)) (own_al u4 (.cells #[.bool (rsg Y 0), .slice a4 (rnm Y 0).length c4, .slice d4 (rdn Y 0).length e4] 26)))
        clear s0 s1 s2 o4 u4 f4 j3 m3 l1_3 l2_3
        go_upto_region 10 with fail
        obtain ⟨z4, hz4⟩ : ∃ x, x = v4.alloc (.cells #[.bool (rsg Y 0), .slice a4 (rnm Y 0).length c4, .slice d4 (rdn Y 0).length e4] 26) := ⟨_, rfl⟩
        rw [← hz4] at j4 m4 HB4 HO4 l1_4 l2_4 l3_4 ⊢
        clear hz4
        obtain ⟨s0, s1, s2, _⟩ := cells3 HH.out j4
        go_wp2_with fail
        refine (HC.out z4 j4).2.2.2.2.1.mono ?_
        rintro e v5 ⟨a5, c5, d5, e5, rfl, o5, u5, f5⟩
        have hy5a := o5.rd.le
        have hy5b := o5.rd.cm
        have hy5c := u5.rd.le
        have hy5d := u5.rd.cm
        have j5 := below_al (j4.trans (f5.mono j4.size)) (.cells #[.bool (rsg Z 0), .slice a5 (rnm Z 0).length c5, .slice d5 (rdn Z 0).length e5] 26)
        have m5 := below_al (m4.trans (f5.mono m4.size)) (.cells #[.bool (rsg Z 0), .slice a5 (rnm Z 0).length c5, .slice d5 (rdn Z 0).length e5] 26)
        have l1_5 := below_al (l1_4.trans (f5.mono l1_4.size)) (.cells #[.bool (rsg Z 0), .slice a5 (rnm Z 0).length c5, .slice d5 (rdn Z 0).length e5] 26)
        have l2_5 := below_al (l2_4.trans (f5.mono l2_4.size)) (.cells #[.bool (rsg Z 0), .slice a5 (rnm Z 0).length c5, .slice d5 (rdn Z 0).length e5] 26)
        have l3_5 := below_al (l3_4.trans (f5.mono l3_4.size)) (.cells #[.bool (rsg Z 0), .slice a5 (rnm Z 0).length c5, .slice d5 (rdn Z 0).length e5] 26)
        have l4_5 := below_al f5 (.cells #[.bool (rsg Z 0), .slice a5 (rnm Z 0).length c5, .slice d5 (rdn Z 0).length e5] 26)
        have HB5 := hid (heap_alloc_at v5 (.cells #[.bool (rsg Z 0), .slice a5 (rnm Z 0).length c5, .slice d5 (rdn Z 0).length e5] 26))
        have HO5 := hid (And.intro (own_al o5 (.cells #[.bool (rsg Z 0), .slice a5 (rnm Z 0).length c5, .slice d5 (rdn Z 0).length e5] 26)) (own_al u5 (.cells #[.bool (rsg Z 0), .slice a5 (rnm Z 0).length c5, .slice d5 (rdn Z 0).length e5] 26)))
        clear s0 s1 s2 o5 u5 f5 j4 m4 l1_4 l2_4 l3_4
        go_upto_region 11 with fail
        obtain ⟨z5, hz5⟩ : ∃ x, x = v5.alloc (.cells #[.bool (rsg Z 0), .slice a5 (rnm Z 0).length c5, .slice d5 (rdn Z 0).length e5] 26) := ⟨_, rfl⟩
        rw [← hz5] at j5 m5 HB5 HO5 l1_5 l2_5 l3_5 l4_5 ⊢
        clear hz5
        obtain ⟨s0, s1, s2, _⟩ := cells3 HH.out j5
        go_wp2_with fail
        refine (HC.out z5 j5).2.2.2.2.2.mono ?_
        rintro e v6 ⟨a6, c6, d6, e6, rfl, o6, u6, f6⟩
        have hy6a := o6.rd.le
        have hy6b := o6.rd.cm
        have hy6c := u6.rd.le
        have hy6d := u6.rd.cm
        have j6 := below_al (j5.trans (f6.mono j5.size)) (.cells #[.bool (rsg Z 0), .slice a6 (rnm Z 0).length c6, .slice d6 (rdn Z 0).length e6] 26)
        have m6 := below_al (m5.trans (f6.mono m5.size)) (.cells #[.bool (rsg Z 0), .slice a6 (rnm Z 0).length c6, .slice d6 (rdn Z 0).length e6] 26)
        have l1_6 := below_al (l1_5.trans (f6.mono l1_5.size)) (.cells #[.bool (rsg Z 0), .slice a6 (rnm Z 0).length c6, .slice d6 (rdn Z 0).length e6] 26)
        have l2_6 := below_al (l2_5.trans (f6.mono l2_5.size)) (.cells #[.bool (rsg Z 0), .slice a6 (rnm Z 0).length c6, .slice d6 (rdn Z 0).length e6] 26)
        have l3_6 := below_al (l3_5.trans (f6.mono l3_5.size)) (.cells #[.bool (rsg Z 0), .slice a6 (rnm Z 0).length c6, .slice d6 (rdn Z 0).length e6] 26)
        have l4_6 := below_al (l4_5.trans (f6.mono l4_5.size)) (.cells #[.bool (rsg Z 0), .slice a6 (rnm Z 0).length c6, .slice d6 (rdn Z 0).length e6] 26)
        have l5_6 := below_al f6 (.cells #[.bool (rsg Z 0), .slice a6 (rnm Z 0).length c6, .slice d6 (rdn Z 0).length e6] 26)
        have HB6 := hid (heap_alloc_at v6 (.cells #[.bool (rsg Z 0), .slice a6 (rnm Z 0).length c6, .slice d6 (rdn Z 0).length e6] 26))
        have HO6 := hid (And.intro (own_al o6 (.cells #[.bool (rsg Z 0), .slice a6 (rnm Z 0).length c6, .slice d6 (rdn Z 0).length e6] 26)) (own_al u6 (.cells #[.bool (rsg Z 0), .slice a6 (rnm Z 0).length c6, .slice d6 (rdn Z 0).length e6] 26)))
        clear s0 s1 s2 o6 u6 f6 j5 m5 l1_5 l2_5 l3_5 l4_5
        go_upto_region 12 with fail
        obtain ⟨z6, hz6⟩ : ∃ x, x = v6.alloc (.cells #[.bool (rsg Z 0), .slice a6 (rnm Z 0).length c6, .slice d6 (rdn Z 0).length e6] 26) := ⟨_, rfl⟩
        rw [← hz6] at j6 m6 HB6 HO6 l1_6 l2_6 l3_6 l4_6 l5_6 ⊢
        clear hz6
        obtain ⟨s0, s1, s2, _⟩ := cells3 HH.out j6
        have l6_6 : Below z6.heap.size z6 z6 := Below.refl _ _
        clear s0 s1 s2
        obtain ⟨r0, r1, r2, _⟩ := cells3 HB1.out l1_6
        obtain ⟨r3, r4, r5, _⟩ := cells3 HB2.out l2_6
        go_wp2_with fail
        refine (SE.out X 0 z6 a1 c1 d1 e1 a2 c2 d2 e2 (HO1.out.1.below l1_6).rd (HO1.out.2.below l1_6).rd (HO2.out.1.below l2_6).rd (HO2.out.2.below l2_6).rd).mono ?_
        rintro e y1 ⟨rfl, g1⟩
        have jy := j6.trans (g1.mono j6.size)
        have my := m6.trans (g1.mono m6.size)
        have l1_y := l1_6.trans (g1.mono l1_6.size)
        have l2_y := l2_6.trans (g1.mono l2_6.size)
        have l3_y := l3_6.trans (g1.mono l3_6.size)
        have l4_y := l4_6.trans (g1.mono l4_6.size)
        have l5_y := l5_6.trans (g1.mono l5_6.size)
        have l6_y := l6_6.trans (g1.mono l6_6.size)
        clear r0 r1 r2 r3 r4 r5 g1 j6 m6 l1_6 l2_6 l3_6 l4_6 l5_6 l6_6
        obtain ⟨r0, r1, r2, _⟩ := cells3 HB3.out l3_y
        obtain ⟨r3, r4, r5, _⟩ := cells3 HB4.out l4_y
        go_wp2_with fail
        refine (SE.out Y 0 y1 a3 c3 d3 e3 a4 c4 d4 e4 (HO3.out.1.below l3_y).rd (HO3.out.2.below l3_y).rd (HO4.out.1.below l4_y).rd (HO4.out.2.below l4_y).rd).mono ?_
        rintro e y2 ⟨rfl, g2⟩
        replace jy := jy.trans (g2.mono jy.size)
        replace my := my.trans (g2.mono my.size)
        replace l1_y := l1_y.trans (g2.mono l1_y.size)
        replace l2_y := l2_y.trans (g2.mono l2_y.size)
        replace l3_y := l3_y.trans (g2.mono l3_y.size)
        replace l4_y := l4_y.trans (g2.mono l4_y.size)
        replace l5_y := l5_y.trans (g2.mono l5_y.size)
        replace l6_y := l6_y.trans (g2.mono l6_y.size)
        clear r0 r1 r2 r3 r4 r5 g2
        obtain ⟨r0, r1, r2, _⟩ := cells3 HB5.out l5_y
        obtain ⟨r3, r4, r5, _⟩ := cells3 HB6.out l6_y
        go_wp2_with fail
        refine (SE.out Z 0 y2 a5 c5 d5 e5 a6 c6 d6 e6 (HO5.out.1.below l5_y).rd (HO5.out.2.below l5_y).rd (HO6.out.1.below l6_y).rd (HO6.out.2.below l6_y).rd).mono ?_
        rintro e y3 ⟨rfl, g3⟩
        replace jy := jy.trans (g3.mono jy.size)
        replace my := my.trans (g3.mono my.size)
        replace l1_y := l1_y.trans (g3.mono l1_y.size)
        replace l2_y := l2_y.trans (g3.mono l2_y.size)
        replace l3_y := l3_y.trans (g3.mono l3_y.size)
        replace l4_y := l4_y.trans (g3.mono l4_y.size)
        replace l5_y := l5_y.trans (g3.mono l5_y.size)
        replace l6_y := l6_y.trans (g3.mono l6_y.size)
        clear r0 r1 r2 r3 r4 r5 g3
        obtain ⟨s0, s1, s2, _⟩ := cells3 HH.out jy
        obtain ⟨t0, t1, t2, _⟩ := cells3 HB1.out l1_y
        go_wp2_with fail
        refine (lessF (HQ.out.below jy) (Rq.own0 (HO1.out.1.below l1_y) (HO1.out.2.below l1_y) HS.out.1) (HO.out (by trivial)).1).mono ?_
        rintro e x0 ⟨rfl, g0⟩
        replace jy := jy.trans (g0.mono jy.size)
        replace my := my.trans (g0.mono my.size)
        replace l1_y := l1_y.trans (g0.mono l1_y.size)
        replace l2_y := l2_y.trans (g0.mono l2_y.size)
        replace l3_y := l3_y.trans (g0.mono l3_y.size)
        replace l4_y := l4_y.trans (g0.mono l4_y.size)
        replace l5_y := l5_y.trans (g0.mono l5_y.size)
        replace l6_y := l6_y.trans (g0.mono l6_y.size)
        clear g0
        clear s0 s1 s2
        clear t0 t1 t2
        obtain ⟨s0, s1, s2, _⟩ := cells3 HH.out jy
        obtain ⟨r0, r1, r2, _⟩ := cells3 HB3.out l3_y
        go_wp2_with fail
        refine (lessF (Rq.own0 (HO3.out.1.below l3_y) (HO3.out.2.below l3_y) HS.out.2.1) (HQ.out.below jy) (HO.out (by trivial)).2.1).mono ?_
        rintro e x1 ⟨rfl, g1⟩
        replace jy := jy.trans (g1.mono jy.size)
        replace my := my.trans (g1.mono my.size)
        replace l1_y := l1_y.trans (g1.mono l1_y.size)
        replace l2_y := l2_y.trans (g1.mono l2_y.size)
        replace l3_y := l3_y.trans (g1.mono l3_y.size)
        replace l4_y := l4_y.trans (g1.mono l4_y.size)
        replace l5_y := l5_y.trans (g1.mono l5_y.size)
        replace l6_y := l6_y.trans (g1.mono l6_y.size)
        clear g1
        clear s0 s1 s2
        clear r0 r1 r2
        obtain ⟨r0, r1, r2, _⟩ := cells3 HB3.out l3_y
        obtain ⟨t0, t1, t2, _⟩ := cells3 HB5.out l5_y
        go_wp2_with fail
        refine (lessF (Rq.own0 (HO3.out.1.below l3_y) (HO3.out.2.below l3_y) HS.out.2.1) (Rq.own0 (HO5.out.1.below l5_y) (HO5.out.2.below l5_y) HS.out.2.2) (HO.out (by trivial)).2.2.1).mono ?_
        rintro e x2 ⟨rfl, g2⟩
        replace jy := jy.trans (g2.mono jy.size)
        replace my := my.trans (g2.mono my.size)
        replace l1_y := l1_y.trans (g2.mono l1_y.size)
        replace l2_y := l2_y.trans (g2.mono l2_y.size)
        replace l3_y := l3_y.trans (g2.mono l3_y.size)
        replace l4_y := l4_y.trans (g2.mono l4_y.size)
        replace l5_y := l5_y.trans (g2.mono l5_y.size)
        replace l6_y := l6_y.trans (g2.mono l6_y.size)
        clear g2
        clear r0 r1 r2
        clear t0 t1 t2
        obtain ⟨r0, r1, r2, _⟩ := cells3 HB5.out l5_y
        obtain ⟨t0, t1, t2, _⟩ := cells3 HB1.out l1_y
        go_wp2_with fail
        refine (lessF (Rq.own0 (HO5.out.1.below l5_y) (HO5.out.2.below l5_y) HS.out.2.2) (Rq.own0 (HO1.out.1.below l1_y) (HO1.out.2.below l1_y) HS.out.1) (HO.out (by trivial)).2.2.2).mono ?_
        rintro e x3 ⟨rfl, g3⟩
        replace jy := jy.trans (g3.mono jy.size)
        replace my := my.trans (g3.mono my.size)
        replace l1_y := l1_y.trans (g3.mono l1_y.size)
        replace l2_y := l2_y.trans (g3.mono l2_y.size)
        replace l3_y := l3_y.trans (g3.mono l3_y.size)
        replace l4_y := l4_y.trans (g3.mono l4_y.size)
        replace l5_y := l5_y.trans (g3.mono l5_y.size)
        replace l6_y := l6_y.trans (g3.mono l6_y.size)
        clear g3
        clear r0 r1 r2
        clear t0 t1 t2
        have MY := hid my
        clear jy my l1_y l2_y l3_y l4_y l5_y l6_y
        go_wp2
        exact ⟨⟨1, by omega, rfl, MY⟩, by simp [intOf]⟩
      · obtain ⟨s0, s1, s2, _⟩ := cells3 HH.out j0
        go_wp2_with fail
        refine (HC.out wr j0).1.mono ?_
        rintro e v1 ⟨a1, c1, d1, e1, rfl, o1, u1, f1⟩
        have hy1a := o1.rd.le
        have hy1b := o1.rd.cm
        have hy1c := u1.rd.le
        have hy1d := u1.rd.cm
        have j1 := below_al (j0.trans (f1.mono j0.size)) (.cells #[.bool (rsg X 1), .slice a1 (rnm X 1).length c1, .slice d1 (rdn X 1).length e1] 26)
        have m1 := below_al (m0.trans (f1.mono m0.size)) (.cells #[.bool (rsg X 1), .slice a1 (rnm X 1).length c1, .slice d1 (rdn X 1).length e1] 26)
        have HB1 := hid (heap_alloc_at v1 (.cells #[.bool (rsg X 1), .slice a1 (rnm X 1).length c1, .slice d1 (rdn X 1).length e1] 26))
        have HO1 := hid (And.intro (own_al o1 (.cells #[.bool (rsg X 1), .slice a1 (rnm X 1).length c1, .slice d1 (rdn X 1).length e1] 26)) (own_al u1 (.cells #[.bool (rsg X 1), .slice a1 (rnm X 1).length c1, .slice d1 (rdn X 1).length e1] 26)))
        clear s0 s1 s2 o1 u1 f1 j0 m0 
        go_upto_region 7 with fail
        obtain ⟨z1, hz1⟩ : ∃ x, x = v1.alloc (.cells #[.bool (rsg X 1), .slice a1 (rnm X 1).length c1, .slice d1 (rdn X 1).length e1] 26) := ⟨_, rfl⟩
        rw [← hz1] at j1 m1 HB1 HO1  ⊢
        clear hz1
        obtain ⟨s0, s1, s2, _⟩ := cells3 HH.out j1
        go_wp2_with fail
        refine (HC.out z1 j1).2.1.mono ?_
        rintro e v2 ⟨a2, c2, d2, e2, rfl, o2, u2, f2⟩
        have hy2a := o2.rd.le
        have hy2b := o2.rd.cm
        have hy2c := u2.rd.le
        have hy2d := u2.rd.cm
        have j2 := below_al (j1.trans (f2.mono j1.size)) (.cells #[.bool (rsg X 1), .slice a2 (rnm X 1).length c2, .slice d2 (rdn X 1).length e2] 26)
        have m2 := below_al (m1.trans (f2.mono m1.size)) (.cells #[.bool (rsg X 1), .slice a2 (rnm X 1).length c2, .slice d2 (rdn X 1).length e2] 26)
        have l1_2 := below_al f2 (.cells #[.bool (rsg X 1), .slice a2 (rnm X 1).length c2, .slice d2 (rdn X 1).length e2] 26)
        have HB2 := hid (heap_alloc_at v2 (.cells #[.bool (rsg X 1), .slice a2 (rnm X 1).length c2, .slice d2 (rdn X 1).length e2] 26))
        have HO2 := hid (And.intro (own_al o2 (.cells #[.bool (rsg X 1), .slice a2 (rnm X 1).length c2, .slice d2 (rdn X 1).length e2] 26)) (own_al u2 (.cells #[.bool (rsg X 1), .slice a2 (rnm X 1).length c2, .slice d2 (rdn X 1).length e2] 26)))
        clear s0 s1 s2 o2 u2 f2 j1 m1 
        go_upto_region 8 with fail
        obtain ⟨z2, hz2⟩ : ∃ x, x = v2.alloc (.cells #[.bool (rsg X 1), .slice a2 (rnm X 1).length c2, .slice d2 (rdn X 1).length e2] 26) := ⟨_, rfl⟩
        rw [← hz2] at j2 m2 HB2 HO2 l1_2 ⊢
        clear hz2
        obtain ⟨s0, s1, s2, _⟩ := cells3 HH.out j2
        go_wp2_with fail
        refine (HC.out z2 j2).2.2.1.mono ?_
        rintro e v3 ⟨a3, c3, d3, e3, rfl, o3, u3, f3⟩
        have hy3a := o3.rd.le
        have hy3b := o3.rd.cm
        have hy3c := u3.rd.le
        have hy3d := u3.rd.cm
        have j3 := below_al (j2.trans (f3.mono j2.size)) (.cells #[.bool (rsg Y 1), .slice a3 (rnm Y 1).length c3, .slice d3 (rdn Y 1).length e3] 26)
        have m3 := below_al (m2.trans (f3.mono m2.size)) (.cells #[.bool (rsg Y 1), .slice a3 (rnm Y 1).length c3, .slice d3 (rdn Y 1).length e3] 26)
        have l1_3 := below_al (l1_2.trans (f3.mono l1_2.size)) (.cells #[.bool (rsg Y 1), .slice a3 (rnm Y 1).length c3, .slice d3 (rdn Y 1).length e3] 26)
        have l2_3 := below_al f3 (.cells #[.bool (rsg Y 1), .slice a3 (rnm Y 1).length c3, .slice d3 (rdn Y 1).length e3] 26)
        have HB3 := hid (heap_alloc_at v3 (.cells #[.bool (rsg Y 1), .slice a3 (rnm Y 1).length c3, .slice d3 (rdn Y 1).length e3] 26))
        have HO3 := hid (And.intro (own_al o3 (.cells #[.bool (rsg Y 1), .slice a3 (rnm Y 1).length c3, .slice d3 (rdn Y 1).length e3] 26)) (own_al u3 (.cells #[.bool (rsg Y 1), .slice a3 (rnm Y 1).length c3, .slice d3 (rdn Y 1).length e3] 26)))
        clear s0 s1 s2 o3 u3 f3 j2 m2 l1_2
        go_upto_region 9 with fail
        obtain ⟨z3, hz3⟩ : ∃ x, x = v3.alloc (.cells #[.bool (rsg Y 1), .slice a3 (rnm Y 1).length c3, .slice d3 (rdn Y 1).length e3] 26) := ⟨_, rfl⟩
        rw [← hz3] at j3 m3 HB3 HO3 l1_3 l2_3 ⊢
        clear hz3
        obtain ⟨s0, s1, s2, _⟩ := cells3 HH.out j3
        go_wp2_with fail
        refine (HC.out z3 j3).2.2.2.1.mono ?_
        rintro e v4 ⟨a4, c4, d4, e4, rfl, o4, u4, f4⟩
        have hy4a := o4.rd.le
        have hy4b := o4.rd.cm
        have hy4c := u4.rd.le
        have hy4d := u4.rd.cm
        have j4 := below_al (j3.trans (f4.mono j3.size)) (.cells #[.bool (rsg Y 1), .slice a4 (rnm Y 1).length c4, .slice d4 (rdn Y 1).length e4] 26)
        have m4 := below_al (m3.trans (f4.mono m3.size)) (.cells #[.bool (rsg Y 1), .slice a4 (rnm Y 1).length c4, .slice d4 (rdn Y 1).length e4] 26)
        have l1_4 := below_al (l1_3.trans (f4.mono l1_3.size)) (.cells #[.bool (rsg Y 1), .slice a4 (rnm Y 1).length c4, .slice d4 (rdn Y 1).length e4] 26)
        have l2_4 := below_al (l2_3.trans (f4.mono l2_3.size)) (.cells #[.bool (rsg Y 1), .slice a4 (rnm Y 1).length c4, .slice d4 (rdn Y 1).length e4] 26)
        have l3_4 := below_al f4 (.cells #[.bool (rsg Y 1), .slice a4 (rnm Y 1).length c4, .slice d4 (rdn Y 1).length e4] 26)
        have HB4 := hid (heap_alloc_at v4 (.cells #[.bool (rsg Y 1), .slice a4 (rnm Y 1).length c4, .slice d4 (rdn Y 1).length e4] 26))
        have HO4 := hid (And.intro (own_al o4 (.cells #[.bool (rsg Y 1), .slice a4 (rnm Y 1).length c4, .slice d4 (rdn Y 1).length e4] 26)) (own_al u4 (.cells #[.bool (rsg Y 1), .slice a4 (rnm Y 1).length c4, .slice d4 (rdn Y 1).length e4] 26)))
        clear s0 s1 s2 o4 u4 f4 j3 m3 l1_3 l2_3
        go_upto_region 10 with fail
        obtain ⟨z4, hz4⟩ : ∃ x, x = v4.alloc (.cells #[.bool (rsg Y 1), .slice a4 (rnm Y 1).length c4, .slice d4 (rdn Y 1).length e4] 26) := ⟨_, rfl⟩
        rw [← hz4] at j4 m4 HB4 HO4 l1_4 l2_4 l3_4 ⊢
        clear hz4
        obtain ⟨s0, s1, s2, _⟩ := cells3 HH.out j4
        go_wp2_with fail
        refine (HC.out z4 j4).2.2.2.2.1.mono ?_
        rintro e v5 ⟨a5, c5, d5, e5, rfl, o5, u5, f5⟩
        have hy5a := o5.rd.le
        have hy5b := o5.rd.cm
        have hy5c := u5.rd.le
        have hy5d := u5.rd.cm
        have j5 := below_al (j4.trans (f5.mono j4.size)) (.cells #[.bool (rsg Z 1), .slice a5 (rnm Z 1).length c5, .slice d5 (rdn Z 1).length e5] 26)
        have m5 := below_al (m4.trans (f5.mono m4.size)) (.cells #[.bool (rsg Z 1), .slice a5 (rnm Z 1).length c5, .slice d5 (rdn Z 1).length e5] 26)
        have l1_5 := below_al (l1_4.trans (f5.mono l1_4.size)) (.cells #[.bool (rsg Z 1), .slice a5 (rnm Z 1).length c5, .slice d5 (rdn Z 1).length e5] 26)
        have l2_5 := below_al (l2_4.trans (f5.mono l2_4.size)) (.cells #[.bool (rsg Z 1), .slice a5 (rnm Z 1).length c5, .slice d5 (rdn Z 1).length e5] 26)
        have l3_5 := below_al (l3_4.trans (f5.mono l3_4.size)) (.cells #[.bool (rsg Z 1), .slice a5 (rnm Z 1).length c5, .slice d5 (rdn Z 1).length e5] 26)
        have l4_5 := below_al f5 (.cells #[.bool (rsg Z 1), .slice a5 (rnm Z 1).length c5, .slice d5 (rdn Z 1).length e5] 26)
        have HB5 := hid (heap_alloc_at v5 (.cells #[.bool (rsg Z 1), .slice a5 (rnm Z 1).length c5, .slice d5 (rdn Z 1).length e5] 26))
        have HO5 := hid (And.intro (own_al o5 (.cells #[.bool (rsg Z 1), .slice a5 (rnm Z 1).length c5, .slice d5 (rdn Z 1).length e5] 26)) (own_al u5 (.cells #[.bool (rsg Z 1), .slice a5 (rnm Z 1).length c5, .slice d5 (rdn Z 1).length e5] 26)))
        clear s0 s1 s2 o5 u5 f5 j4 m4 l1_4 l2_4 l3_4
        go_upto_region 11 with fail
        obtain ⟨z5, hz5⟩ : ∃ x, x = v5.alloc (.cells #[.bool (rsg Z 1), .slice a5 (rnm Z 1).length c5, .slice d5 (rdn Z 1).length e5] 26) := ⟨_, rfl⟩
        rw [← hz5] at j5 m5 HB5 HO5 l1_5 l2_5 l3_5 l4_5 ⊢
        clear hz5
        obtain ⟨s0, s1, s2, _⟩ := cells3 HH.out j5
        go_wp2_with fail
        refine (HC.out z5 j5).2.2.2.2.2.mono ?_
        rintro e v6 ⟨a6, c6, d6, e6, rfl, o6, u6, f6⟩
        have hy6a := o6.rd.le
        have hy6b := o6.rd.cm
        have hy6c := u6.rd.le
        have hy6d := u6.rd.cm
        have j6 := below_al (j5.trans (f6.mono j5.size)) (.cells #[.bool (rsg Z 1), .slice a6 (rnm Z 1).length c6, .slice d6 (rdn Z 1).length e6] 26)
        have m6 := below_al (m5.trans (f6.mono m5.size)) (.cells #[.bool (rsg Z 1), .slice a6 (rnm Z 1).length c6, .slice d6 (rdn Z 1).length e6] 26)
        have l1_6 := below_al (l1_5.trans (f6.mono l1_5.size)) (.cells #[.bool (rsg Z 1), .slice a6 (rnm Z 1).length c6, .slice d6 (rdn Z 1).length e6] 26)
        have l2_6 := below_al (l2_5.trans (f6.mono l2_5.size)) (.cells #[.bool (rsg Z 1), .slice a6 (rnm Z 1).length c6, .slice d6 (rdn Z 1).length e6] 26)
        have l3_6 := below_al (l3_5.trans (f6.mono l3_5.size)) (.cells #[.bool (rsg Z 1), .slice a6 (rnm Z 1).length c6, .slice d6 (rdn Z 1).length e6] 26)
        have l4_6 := below_al (l4_5.trans (f6.mono l4_5.size)) (.cells #[.bool (rsg Z 1), .slice a6 (rnm Z 1).length c6, .slice d6 (rdn Z 1).length e6] 26)
        have l5_6 := below_al f6 (.cells #[.bool (rsg Z 1), .slice a6 (rnm Z 1).length c6, .slice d6 (rdn Z 1).length e6] 26)
        have HB6 := hid (heap_alloc_at v6 (.cells #[.bool (rsg Z 1), .slice a6 (rnm Z 1).length c6, .slice d6 (rdn Z 1).length e6] 26))
        have HO6 := hid (And.intro (own_al o6 (.cells #[.bool (rsg Z 1), .slice a6 (rnm Z 1).length c6, .slice d6 (rdn Z 1).length e6] 26)) (own_al u6 (.cells #[.bool (rsg Z 1), .slice a6 (rnm Z 1).length c6, .slice d6 (rdn Z 1).length e6] 26)))
        clear s0 s1 s2 o6 u6 f6 j5 m5 l1_5 l2_5 l3_5 l4_5
        go_upto_region 12 with fail
        obtain ⟨z6, hz6⟩ : ∃ x, x = v6.alloc (.cells #[.bool (rsg Z 1), .slice a6 (rnm Z 1).length c6, .slice d6 (rdn Z 1).length e6] 26) := ⟨_, rfl⟩
        rw [← hz6] at j6 m6 HB6 HO6 l1_6 l2_6 l3_6 l4_6 l5_6 ⊢
        clear hz6
        obtain ⟨s0, s1, s2, _⟩ := cells3 HH.out j6
        have l6_6 : Below z6.heap.size z6 z6 := Below.refl _ _
        clear s0 s1 s2
        obtain ⟨r0, r1, r2, _⟩ := cells3 HB1.out l1_6
        obtain ⟨r3, r4, r5, _⟩ := cells3 HB2.out l2_6
        go_wp2_with fail
        refine (SE.out X 1 z6 a1 c1 d1 e1 a2 c2 d2 e2 (HO1.out.1.below l1_6).rd (HO1.out.2.below l1_6).rd (HO2.out.1.below l2_6).rd (HO2.out.2.below l2_6).rd).mono ?_
        rintro e y1 ⟨rfl, g1⟩
        have jy := j6.trans (g1.mono j6.size)
        have my := m6.trans (g1.mono m6.size)
        have l1_y := l1_6.trans (g1.mono l1_6.size)
        have l2_y := l2_6.trans (g1.mono l2_6.size)
        have l3_y := l3_6.trans (g1.mono l3_6.size)
        have l4_y := l4_6.trans (g1.mono l4_6.size)
        have l5_y := l5_6.trans (g1.mono l5_6.size)
        have l6_y := l6_6.trans (g1.mono l6_6.size)
        clear r0 r1 r2 r3 r4 r5 g1 j6 m6 l1_6 l2_6 l3_6 l4_6 l5_6 l6_6
        obtain ⟨r0, r1, r2, _⟩ := cells3 HB3.out l3_y
        obtain ⟨r3, r4, r5, _⟩ := cells3 HB4.out l4_y
        go_wp2_with fail
        refine (SE.out Y 1 y1 a3 c3 d3 e3 a4 c4 d4 e4 (HO3.out.1.below l3_y).rd (HO3.out.2.below l3_y).rd (HO4.out.1.below l4_y).rd (HO4.out.2.below l4_y).rd).mono ?_
        rintro e y2 ⟨rfl, g2⟩
        replace jy := jy.trans (g2.mono jy.size)
        replace my := my.trans (g2.mono my.size)
        replace l1_y := l1_y.trans (g2.mono l1_y.size)
        replace l2_y := l2_y.trans (g2.mono l2_y.size)
        replace l3_y := l3_y.trans (g2.mono l3_y.size)
        replace l4_y := l4_y.trans (g2.mono l4_y.size)
        replace l5_y := l5_y.trans (g2.mono l5_y.size)
        replace l6_y := l6_y.trans (g2.mono l6_y.size)
        clear r0 r1 r2 r3 r4 r5 g2
        obtain ⟨r0, r1, r2, _⟩ := cells3 HB5.out l5_y
        obtain ⟨r3, r4, r5, _⟩ := cells3 HB6.out l6_y
        go_wp2_with fail
        refine (SE.out Z 1 y2 a5 c5 d5 e5 a6 c6 d6 e6 (HO5.out.1.below l5_y).rd (HO5.out.2.below l5_y).rd (HO6.out.1.below l6_y).rd (HO6.out.2.below l6_y).rd).mono ?_
        rintro e y3 ⟨rfl, g3⟩
        replace jy := jy.trans (g3.mono jy.size)
        replace my := my.trans (g3.mono my.size)
        replace l1_y := l1_y.trans (g3.mono l1_y.size)
        replace l2_y := l2_y.trans (g3.mono l2_y.size)
        replace l3_y := l3_y.trans (g3.mono l3_y.size)
        replace l4_y := l4_y.trans (g3.mono l4_y.size)
        replace l5_y := l5_y.trans (g3.mono l5_y.size)
        replace l6_y := l6_y.trans (g3.mono l6_y.size)
        clear r0 r1 r2 r3 r4 r5 g3
        have MY := hid my
        clear jy my l1_y l2_y l3_y l4_y l5_y l6_y
        go_wp2
        exact ⟨⟨1, by omega, rfl, MY⟩, by simp [intOf]⟩
    · obtain ⟨X, Y, Z, E, hE, hord, hsz, hC⟩ := rounds_all HQ.out (by omega) M
      have HC := hid (fun w' (g : Below w0.heap.size w0 w') => hC w' g (HT.out.below g))
      have HO := hid hord
      have HS := hid hsz
      clear hord hsz hC
      have m0 := HI.out
      rcases hE with rfl | rfl
      · obtain ⟨s0, s1, s2, _⟩ := cells3 HH.out j0
        go_wp2_with fail
        refine (HC.out wr j0).1.mono ?_
        rintro e v1 ⟨a1, c1, d1, e1, rfl, o1, u1, f1⟩
        have hy1a := o1.rd.le
        have hy1b := o1.rd.cm
        have hy1c := u1.rd.le
        have hy1d := u1.rd.cm
        have j1 := below_al (j0.trans (f1.mono j0.size)) (.cells #[.bool (rsg X 0), .slice a1 (rnm X 0).length c1, .slice d1 (rdn X 0).length e1] 26)
        have m1 := below_al (m0.trans (f1.mono m0.size)) (.cells #[.bool (rsg X 0), .slice a1 (rnm X 0).length c1, .slice d1 (rdn X 0).length e1] 26)
        have HB1 := hid (heap_alloc_at v1 (.cells #[.bool (rsg X 0), .slice a1 (rnm X 0).length c1, .slice d1 (rdn X 0).length e1] 26))
        have HO1 := hid (And.intro (own_al o1 (.cells #[.bool (rsg X 0), .slice a1 (rnm X 0).length c1, .slice d1 (rdn X 0).length e1] 26)) (own_al u1 (.cells #[.bool (rsg X 0), .slice a1 (rnm X 0).length c1, .slice d1 (rdn X 0).length e1] 26)))
        clear s0 s1 s2 o1 u1 f1 j0 m0 
        go_upto_region 7 with fail
        obtain ⟨z1, hz1⟩ : ∃ x, x = v1.alloc (.cells #[.bool (rsg X 0), .slice a1 (rnm X 0).length c1, .slice d1 (rdn X 0).length e1] 26) := ⟨_, rfl⟩
        rw [← hz1] at j1 m1 HB1 HO1  ⊢
        clear hz1
        obtain ⟨s0, s1, s2, _⟩ := cells3 HH.out j1
        go_wp2_with fail
        refine (HC.out z1 j1).2.1.mono ?_
        rintro e v2 ⟨a2, c2, d2, e2, rfl, o2, u2, f2⟩
        have hy2a := o2.rd.le
        have hy2b := o2.rd.cm
        have hy2c := u2.rd.le
        have hy2d := u2.rd.cm
        have j2 := below_al (j1.trans (f2.mono j1.size)) (.cells #[.bool (rsg X 0), .slice a2 (rnm X 0).length c2, .slice d2 (rdn X 0).length e2] 26)
        have m2 := below_al (m1.trans (f2.mono m1.size)) (.cells #[.bool (rsg X 0), .slice a2 (rnm X 0).length c2, .slice d2 (rdn X 0).length e2] 26)
        have l1_2 := below_al f2 (.cells #[.bool (rsg X 0), .slice a2 (rnm X 0).length c2, .slice d2 (rdn X 0).length e2] 26)
        have HB2 := hid (heap_alloc_at v2 (.cells #[.bool (rsg X 0), .slice a2 (rnm X 0).length c2, .slice d2 (rdn X 0).length e2] 26))
        have HO2 := hid (And.intro (own_al o2 (.cells #[.bool (rsg X 0), .slice a2 (rnm X 0).length c2, .slice d2 (rdn X 0).length e2] 26)) (own_al u2 (.cells #[.bool (rsg X 0), .slice a2 (rnm X 0).length c2, .slice d2 (rdn X 0).length e2] 26)))
        clear s0 s1 s2 o2 u2 f2 j1 m1 
        go_upto_region 8 with fail
        obtain ⟨z2, hz2⟩ : ∃ x, x = v2.alloc (.cells #[.bool (rsg X 0), .slice a2 (rnm X 0).length c2, .slice d2 (rdn X 0).length e2] 26) := ⟨_, rfl⟩
        rw [← hz2] at j2 m2 HB2 HO2 l1_2 ⊢
        clear hz2
        obtain ⟨s0, s1, s2, _⟩ := cells3 HH.out j2
        go_wp2_with fail
        refine (HC.out z2 j2).2.2.1.mono ?_
        rintro e v3 ⟨a3, c3, d3, e3, rfl, o3, u3, f3⟩
        have hy3a := o3.rd.le
        have hy3b := o3.rd.cm
        have hy3c := u3.rd.le
        have hy3d := u3.rd.cm
        have j3 := below_al (j2.trans (f3.mono j2.size)) (.cells #[.bool (rsg Y 0), .slice a3 (rnm Y 0).length c3, .slice d3 (rdn Y 0).length e3] 26)
        have m3 := below_al (m2.trans (f3.mono m2.size)) (.cells #[.bool (rsg Y 0), .slice a3 (rnm Y 0).length c3, .slice d3 (rdn Y 0).length e3] 26)
        have l1_3 := below_al (l1_2.trans (f3.mono l1_2.size)) (.cells #[.bool (rsg Y 0), .slice a3 (rnm Y 0).length c3, .slice d3 (rdn Y 0).length e3] 26)
        have l2_3 := below_al f3 (.cells #[.bool (rsg Y 0), .slice a3 (rnm Y 0).length c3, .slice d3 (rdn Y 0).length e3] 26)
        have HB3 := hid (heap_alloc_at v3 (.cells #[.bool (rsg Y 0), .slice a3 (rnm Y 0).length c3, .slice d3 (rdn Y 0).length e3] 26))
        have HO3 := hid (And.intro (own_al o3 (.cells #[.bool (rsg Y 0), .slice a3 (rnm Y 0).length c3, .slice d3 (rdn Y 0).length e3] 26)) (own_al u3 (.cells #[.bool (rsg Y 0), .slice a3 (rnm Y 0).length c3, .slice d3 (rdn Y 0).length e3] 26)))
        clear s0 s1 s2 o3 u3 f3 j2 m2 l1_2
        go_upto_region 9 with fail
        obtain ⟨z3, hz3⟩ : ∃ x, x = v3.alloc (.cells #[.bool (rsg Y 0), .slice a3 (rnm Y 0).length c3, .slice d3 (rdn Y 0).length e3] 26) := ⟨_, rfl⟩
        rw [← hz3] at j3 m3 HB3 HO3 l1_3 l2_3 ⊢
        clear hz3
        obtain ⟨s0, s1, s2, _⟩ := cells3 HH.out j3
        go_wp2_with fail
        refine (HC.out z3 j3).2.2.2.1.mono ?_
        rintro e v4 ⟨a4, c4, d4, e4, rfl, o4, u4, f4⟩
        have hy4a := o4.rd.le
        have hy4b := o4.rd.cm
        have hy4c := u4.rd.le
        have hy4d := u4.rd.cm
        have j4 := below_al (j3.trans (f4.mono j3.size)) (.cells #[.bool (rsg Y 0), .slice a4 (rnm Y 0).length c4, .slice d4 (rdn Y 0).length e4] 26)
        have m4 := below_al (m3.trans (f4.mono m3.size)) (.cells #[.bool (rsg Y 0), .slice a4 (rnm Y 0).length c4, .slice d4 (rdn Y 0).length e4] 26)
        have l1_4 := below_al (l1_3.trans (f4.mono l1_3.size)) (.cells #[.bool (rsg Y 0), .slice a4 (rnm Y 0).length c4, .slice d4 (rdn Y 0).length e4] 26)
        have l2_4 := below_al (l2_3.trans (f4.mono l2_3.size)) (.cells #[.bool (rsg Y 0), .slice a4 (rnm Y 0).length c4, .slice d4 (rdn Y 0).length e4] 26)
        have l3_4 := below_al f4 (.cells #[.bool (rsg Y 0), .slice a4 (rnm Y 0).length c4, .slice d4 (rdn Y 0).length e4] 26)
        have HB4 := hid (heap_alloc_at v4 (.cells #[.bool (rsg Y 0), .slice a4 (rnm Y 0).length c4, .slice d4 (rdn Y 0).length e4] 26))
        have HO4 := hid (And.intro (own_al o4 (.cells #[.bool (rsg Y 0), .slice a4 (rnm Y 0).length c4, .slice d4 (rdn Y 0).length e4] 26)) (own_al u4 (.cells #[.bool (rsg Y 0), .slice a4 (rnm Y 0).length c4, .slice d4 (rdn Y 0).length e4] 26)))
        clear s0 s1 s2 o4 u4 f4 j3 m3 l1_3 l2_3
        go_upto_region 10 with fail
        obtain ⟨z4, hz4⟩ : ∃ x, x = v4.alloc (.cells #[.bool (rsg Y 0), .slice a4 (rnm Y 0).length c4, .slice d4 (rdn Y 0).length e4] 26) := ⟨_, rfl⟩
        rw [← hz4] at j4 m4 HB4 HO4 l1_4 l2_4 l3_4 ⊢
        clear hz4
        obtain ⟨s0, s1, s2, _⟩ := cells3 HH.out j4
        go_wp2_with fail
        refine (HC.out z4 j4).2.2.2.2.1.mono ?_
        rintro e v5 ⟨a5, c5, d5, e5, rfl, o5, u5, f5⟩
        have hy5a := o5.rd.le
        have hy5b := o5.rd.cm
        have hy5c := u5.rd.le
        have hy5d := u5.rd.cm
        have j5 := below_al (j4.trans (f5.mono j4.size)) (.cells #[.bool (rsg Z 0), .slice a5 (rnm Z 0).length c5, .slice d5 (rdn Z 0).length e5] 26)
        have m5 := below_al (m4.trans (f5.mono m4.size)) (.cells #[.bool (rsg Z 0), .slice a5 (rnm Z 0).length c5, .slice d5 (rdn Z 0).length e5] 26)
        have l1_5 := below_al (l1_4.trans (f5.mono l1_4.size)) (.cells #[.bool (rsg Z 0), .slice a5 (rnm Z 0).length c5, .slice d5 (rdn Z 0).length e5] 26)
        have l2_5 := below_al (l2_4.trans (f5.mono l2_4.size)) (.cells #[.bool (rsg Z 0), .slice a5 (rnm Z 0).length c5, .slice d5 (rdn Z 0).length e5] 26)
        have l3_5 := below_al (l3_4.trans (f5.mono l3_4.size)) (.cells #[.bool (rsg Z 0), .slice a5 (rnm Z 0).length c5, .slice d5 (rdn Z 0).length e5] 26)
        have l4_5 := below_al f5 (.cells #[.bool (rsg Z 0), .slice a5 (rnm Z 0).length c5, .slice d5 (rdn Z 0).length e5] 26)
        have HB5 := hid (heap_alloc_at v5 (.cells #[.bool (rsg Z 0), .slice a5 (rnm Z 0).length c5, .slice d5 (rdn Z 0).length e5] 26))
        have HO5 := hid (And.intro (own_al o5 (.cells #[.bool (rsg Z 0), .slice a5 (rnm Z 0).length c5, .slice d5 (rdn Z 0).length e5] 26)) (own_al u5 (.cells #[.bool (rsg Z 0), .slice a5 (rnm Z 0).length c5, .slice d5 (rdn Z 0).length e5] 26)))
        clear s0 s1 s2 o5 u5 f5 j4 m4 l1_4 l2_4 l3_4
        go_upto_region 11 with fail
        obtain ⟨z5, hz5⟩ : ∃ x, x = v5.alloc (.cells #[.bool (rsg Z 0), .slice a5 (rnm Z 0).length c5, .slice d5 (rdn Z 0).length e5] 26) := ⟨_, rfl⟩
        rw [← hz5] at j5 m5 HB5 HO5 l1_5 l2_5 l3_5 l4_5 ⊢
        clear hz5
        obtain ⟨s0, s1, s2, _⟩ := cells3 HH.out j5
        go_wp2_with fail
        refine (HC.out z5 j5).2.2.2.2.2.mono ?_
        rintro e v6 ⟨a6, c6, d6, e6, rfl, o6, u6, f6⟩
        have hy6a := o6.rd.le
        have hy6b := o6.rd.cm
        have hy6c := u6.rd.le
        have hy6d := u6.rd.cm
        have j6 := below_al (j5.trans (f6.mono j5.size)) (.cells #[.bool (rsg Z 0), .slice a6 (rnm Z 0).length c6, .slice d6 (rdn Z 0).length e6] 26)
        have m6 := below_al (m5.trans (f6.mono m5.size)) (.cells #[.bool (rsg Z 0), .slice a6 (rnm Z 0).length c6, .slice d6 (rdn Z 0).length e6] 26)
        have l1_6 := below_al (l1_5.trans (f6.mono l1_5.size)) (.cells #[.bool (rsg Z 0), .slice a6 (rnm Z 0).length c6, .slice d6 (rdn Z 0).length e6] 26)
        have l2_6 := below_al (l2_5.trans (f6.mono l2_5.size)) (.cells #[.bool (rsg Z 0), .slice a6 (rnm Z 0).length c6, .slice d6 (rdn Z 0).length e6] 26)
        have l3_6 := below_al (l3_5.trans (f6.mono l3_5.size)) (.cells #[.bool (rsg Z 0), .slice a6 (rnm Z 0).length c6, .slice d6 (rdn Z 0).length e6] 26)
        have l4_6 := below_al (l4_5.trans (f6.mono l4_5.size)) (.cells #[.bool (rsg Z 0), .slice a6 (rnm Z 0).length c6, .slice d6 (rdn Z 0).length e6] 26)
        have l5_6 := below_al f6 (.cells #[.bool (rsg Z 0), .slice a6 (rnm Z 0).length c6, .slice d6 (rdn Z 0).length e6] 26)
        have HB6 := hid (heap_alloc_at v6 (.cells #[.bool (rsg Z 0), .slice a6 (rnm Z 0).length c6, .slice d6 (rdn Z 0).length e6] 26))
        have HO6 := hid (And.intro (own_al o6 (.cells #[.bool (rsg Z 0), .slice a6 (rnm Z 0).length c6, .slice d6 (rdn Z 0).length e6] 26)) (own_al u6 (.cells #[.bool (rsg Z 0), .slice a6 (rnm Z 0).length c6, .slice d6 (rdn Z 0).length e6] 26)))
        clear s0 s1 s2 o6 u6 f6 j5 m5 l1_5 l2_5 l3_5 l4_5
        go_upto_region 12 with fail
        obtain ⟨z6, hz6⟩ : ∃ x, x = v6.alloc (.cells #[.bool (rsg Z 0), .slice a6 (rnm Z 0).length c6, .slice d6 (rdn Z 0).length e6] 26) := ⟨_, rfl⟩
        rw [← hz6] at j6 m6 HB6 HO6 l1_6 l2_6 l3_6 l4_6 l5_6 ⊢
        clear hz6
        obtain ⟨s0, s1, s2, _⟩ := cells3 HH.out j6
        have l6_6 : Below z6.heap.size z6 z6 := Below.refl _ _
        clear s0 s1 s2
        obtain ⟨r0, r1, r2, _⟩ := cells3 HB1.out l1_6
        obtain ⟨r3, r4, r5, _⟩ := cells3 HB2.out l2_6
        go_wp2_with fail
        refine (SE.out X 0 z6 a1 c1 d1 e1 a2 c2 d2 e2 (HO1.out.1.below l1_6).rd (HO1.out.2.below l1_6).rd (HO2.out.1.below l2_6).rd (HO2.out.2.below l2_6).rd).mono ?_
        rintro e y1 ⟨rfl, g1⟩
        have jy := j6.trans (g1.mono j6.size)
        have my := m6.trans (g1.mono m6.size)
        have l1_y := l1_6.trans (g1.mono l1_6.size)
        have l2_y := l2_6.trans (g1.mono l2_6.size)
        have l3_y := l3_6.trans (g1.mono l3_6.size)
        have l4_y := l4_6.trans (g1.mono l4_6.size)
        have l5_y := l5_6.trans (g1.mono l5_6.size)
        have l6_y := l6_6.trans (g1.mono l6_6.size)
        clear r0 r1 r2 r3 r4 r5 g1 j6 m6 l1_6 l2_6 l3_6 l4_6 l5_6 l6_6
        obtain ⟨r0, r1, r2, _⟩ := cells3 HB3.out l3_y
        obtain ⟨r3, r4, r5, _⟩ := cells3 HB4.out l4_y
        go_wp2_with fail
        refine (SE.out Y 0 y1 a3 c3 d3 e3 a4 c4 d4 e4 (HO3.out.1.below l3_y).rd (HO3.out.2.below l3_y).rd (HO4.out.1.below l4_y).rd (HO4.out.2.below l4_y).rd).mono ?_
        rintro e y2 ⟨rfl, g2⟩
        replace jy := jy.trans (g2.mono jy.size)
        replace my := my.trans (g2.mono my.size)
        replace l1_y := l1_y.trans (g2.mono l1_y.size)
        replace l2_y := l2_y.trans (g2.mono l2_y.size)
        replace l3_y := l3_y.trans (g2.mono l3_y.size)
        replace l4_y := l4_y.trans (g2.mono l4_y.size)
        replace l5_y := l5_y.trans (g2.mono l5_y.size)
        replace l6_y := l6_y.trans (g2.mono l6_y.size)
        clear r0 r1 r2 r3 r4 r5 g2
        obtain ⟨r0, r1, r2, _⟩ := cells3 HB5.out l5_y
        obtain ⟨r3, r4, r5, _⟩ := cells3 HB6.out l6_y
        go_wp2_with fail
        refine (SE.out Z 0 y2 a5 c5 d5 e5 a6 c6 d6 e6 (HO5.out.1.below l5_y).rd (HO5.out.2.below l5_y).rd (HO6.out.1.below l6_y).rd (HO6.out.2.below l6_y).rd).mono ?_
        rintro e y3 ⟨rfl, g3⟩
        replace jy := jy.trans (g3.mono jy.size)
        replace my := my.trans (g3.mono my.size)
        replace l1_y := l1_y.trans (g3.mono l1_y.size)
        replace l2_y := l2_y.trans (g3.mono l2_y.size)
        replace l3_y := l3_y.trans (g3.mono l3_y.size)
        replace l4_y := l4_y.trans (g3.mono l4_y.size)
        replace l5_y := l5_y.trans (g3.mono l5_y.size)
        replace l6_y := l6_y.trans (g3.mono l6_y.size)
        clear r0 r1 r2 r3 r4 r5 g3
        obtain ⟨s0, s1, s2, _⟩ := cells3 HH.out jy
        obtain ⟨t0, t1, t2, _⟩ := cells3 HB1.out l1_y
        go_wp2_with fail
        refine (lessF (HQ.out.below jy) (Rq.own0 (HO1.out.1.below l1_y) (HO1.out.2.below l1_y) HS.out.1) (HO.out (by trivial)).1).mono ?_
        rintro e x0 ⟨rfl, g0⟩
        replace jy := jy.trans (g0.mono jy.size)
        replace my := my.trans (g0.mono my.size)
        replace l1_y := l1_y.trans (g0.mono l1_y.size)
        replace l2_y := l2_y.trans (g0.mono l2_y.size)
        replace l3_y := l3_y.trans (g0.mono l3_y.size)
        replace l4_y := l4_y.trans (g0.mono l4_y.size)
        replace l5_y := l5_y.trans (g0.mono l5_y.size)
        replace l6_y := l6_y.trans (g0.mono l6_y.size)
        clear g0
        clear s0 s1 s2
        clear t0 t1 t2
        obtain ⟨s0, s1, s2, _⟩ := cells3 HH.out jy
        obtain ⟨r0, r1, r2, _⟩ := cells3 HB3.out l3_y
        go_wp2_with fail
        refine (lessF (Rq.own0 (HO3.out.1.below l3_y) (HO3.out.2.below l3_y) HS.out.2.1) (HQ.out.below jy) (HO.out (by trivial)).2.1).mono ?_
        rintro e x1 ⟨rfl, g1⟩
        replace jy := jy.trans (g1.mono jy.size)
        replace my := my.trans (g1.mono my.size)
        replace l1_y := l1_y.trans (g1.mono l1_y.size)
        replace l2_y := l2_y.trans (g1.mono l2_y.size)
        replace l3_y := l3_y.trans (g1.mono l3_y.size)
        replace l4_y := l4_y.trans (g1.mono l4_y.size)
        replace l5_y := l5_y.trans (g1.mono l5_y.size)
        replace l6_y := l6_y.trans (g1.mono l6_y.size)
        clear g1
        clear s0 s1 s2
        clear r0 r1 r2
        obtain ⟨r0, r1, r2, _⟩ := cells3 HB3.out l3_y
        obtain ⟨t0, t1, t2, _⟩ := cells3 HB5.out l5_y
        go_wp2_with fail
        refine (lessF (Rq.own0 (HO3.out.1.below l3_y) (HO3.out.2.below l3_y) HS.out.2.1) (Rq.own0 (HO5.out.1.below l5_y) (HO5.out.2.below l5_y) HS.out.2.2) (HO.out (by trivial)).2.2.1).mono ?_
        rintro e x2 ⟨rfl, g2⟩
        replace jy := jy.trans (g2.mono jy.size)
        replace my := my.trans (g2.mono my.size)
        replace l1_y := l1_y.trans (g2.mono l1_y.size)
        replace l2_y := l2_y.trans (g2.mono l2_y.size)
        replace l3_y := l3_y.trans (g2.mono l3_y.size)
        replace l4_y := l4_y.trans (g2.mono l4_y.size)
        replace l5_y := l5_y.trans (g2.mono l5_y.size)
        replace l6_y := l6_y.trans (g2.mono l6_y.size)
        clear g2
        clear r0 r1 r2
        clear t0 t1 t2
        obtain ⟨r0, r1, r2, _⟩ := cells3 HB5.out l5_y
        obtain ⟨t0, t1, t2, _⟩ := cells3 HB1.out l1_y
        go_wp2_with fail
        refine (lessF (Rq.own0 (HO5.out.1.below l5_y) (HO5.out.2.below l5_y) HS.out.2.2) (Rq.own0 (HO1.out.1.below l1_y) (HO1.out.2.below l1_y) HS.out.1) (HO.out (by trivial)).2.2.2).mono ?_
        rintro e x3 ⟨rfl, g3⟩
        replace jy := jy.trans (g3.mono jy.size)
        replace my := my.trans (g3.mono my.size)
        replace l1_y := l1_y.trans (g3.mono l1_y.size)
        replace l2_y := l2_y.trans (g3.mono l2_y.size)
        replace l3_y := l3_y.trans (g3.mono l3_y.size)
        replace l4_y := l4_y.trans (g3.mono l4_y.size)
        replace l5_y := l5_y.trans (g3.mono l5_y.size)
        replace l6_y := l6_y.trans (g3.mono l6_y.size)
        clear g3
        clear r0 r1 r2
        clear t0 t1 t2
        have MY := hid my
        clear jy my l1_y l2_y l3_y l4_y l5_y l6_y
        go_wp2
        exact ⟨⟨2, by omega, rfl, MY⟩, by simp [intOf]⟩
      · obtain ⟨s0, s1, s2, _⟩ := cells3 HH.out j0
        go_wp2_with fail
        refine (HC.out wr j0).1.mono ?_
        rintro e v1 ⟨a1, c1, d1, e1, rfl, o1, u1, f1⟩
        have hy1a := o1.rd.le
        have hy1b := o1.rd.cm
        have hy1c := u1.rd.le
        have hy1d := u1.rd.cm
        have j1 := below_al (j0.trans (f1.mono j0.size)) (.cells #[.bool (rsg X 1), .slice a1 (rnm X 1).length c1, .slice d1 (rdn X 1).length e1] 26)
        have m1 := below_al (m0.trans (f1.mono m0.size)) (.cells #[.bool (rsg X 1), .slice a1 (rnm X 1).length c1, .slice d1 (rdn X 1).length e1] 26)
        have HB1 := hid (heap_alloc_at v1 (.cells #[.bool (rsg X 1), .slice a1 (rnm X 1).length c1, .slice d1 (rdn X 1).length e1] 26))
        have HO1 := hid (And.intro (own_al o1 (.cells #[.bool (rsg X 1), .slice a1 (rnm X 1).length c1, .slice d1 (rdn X 1).length e1] 26)) (own_al u1 (.cells #[.bool (rsg X 1), .slice a1 (rnm X 1).length c1, .slice d1 (rdn X 1).length e1] 26)))
        clear s0 s1 s2 o1 u1 f1 j0 m0 
        go_upto_region 7 with fail
        obtain ⟨z1, hz1⟩ : ∃ x, x = v1.alloc (.cells #[.bool (rsg X 1), .slice a1 (rnm X 1).length c1, .slice d1 (rdn X 1).length e1] 26) := ⟨_, rfl⟩
        rw [← hz1] at j1 m1 HB1 HO1  ⊢
        clear hz1
        obtain ⟨s0, s1, s2, _⟩ := cells3 HH.out j1
        go_wp2_with fail
        refine (HC.out z1 j1).2.1.mono ?_
        rintro e v2 ⟨a2, c2, d2, e2, rfl, o2, u2, f2⟩
        have hy2a := o2.rd.le
        have hy2b := o2.rd.cm
        have hy2c := u2.rd.le
        have hy2d := u2.rd.cm
        have j2 := below_al (j1.trans (f2.mono j1.size)) (.cells #[.bool (rsg X 1), .slice a2 (rnm X 1).length c2, .slice d2 (rdn X 1).length e2] 26)
        have m2 := below_al (m1.trans (f2.mono m1.size)) (.cells #[.bool (rsg X 1), .slice a2 (rnm X 1).length c2, .slice d2 (rdn X 1).length e2] 26)
        have l1_2 := below_al f2 (.cells #[.bool (rsg X 1), .slice a2 (rnm X 1).length c2, .slice d2 (rdn X 1).length e2] 26)
        have HB2 := hid (heap_alloc_at v2 (.cells #[.bool (rsg X 1), .slice a2 (rnm X 1).length c2, .slice d2 (rdn X 1).length e2] 26))
        have HO2 := hid (And.intro (own_al o2 (.cells #[.bool (rsg X 1), .slice a2 (rnm X 1).length c2, .slice d2 (rdn X 1).length e2] 26)) (own_al u2 (.cells #[.bool (rsg X 1), .slice a2 (rnm X 1).length c2, .slice d2 (rdn X 1).length e2] 26)))
        clear s0 s1 s2 o2 u2 f2 j1 m1 
        go_upto_region 8 with fail
        obtain ⟨z2, hz2⟩ : ∃ x, x = v2.alloc (.cells #[.bool (rsg X 1), .slice a2 (rnm X 1).length c2, .slice d2 (rdn X 1).length e2] 26) := ⟨_, rfl⟩
        rw [← hz2] at j2 m2 HB2 HO2 l1_2 ⊢
        clear hz2
        obtain ⟨s0, s1, s2, _⟩ := cells3 HH.out j2
        go_wp2_with fail
        refine (HC.out z2 j2).2.2.1.mono ?_
        rintro e v3 ⟨a3, c3, d3, e3, rfl, o3, u3, f3⟩
        have hy3a := o3.rd.le
        have hy3b := o3.rd.cm
        have hy3c := u3.rd.le
        have hy3d := u3.rd.cm
        have j3 := below_al (j2.trans (f3.mono j2.size)) (.cells #[.bool (rsg Y 1), .slice a3 (rnm Y 1).length c3, .slice d3 (rdn Y 1).length e3] 26)
        have m3 := below_al (m2.trans (f3.mono m2.size)) (.cells #[.bool (rsg Y 1), .slice a3 (rnm Y 1).length c3, .slice d3 (rdn Y 1).length e3] 26)
        have l1_3 := below_al (l1_2.trans (f3.mono l1_2.size)) (.cells #[.bool (rsg Y 1), .slice a3 (rnm Y 1).length c3, .slice d3 (rdn Y 1).length e3] 26)
        have l2_3 := below_al f3 (.cells #[.bool (rsg Y 1), .slice a3 (rnm Y 1).length c3, .slice d3 (rdn Y 1).length e3] 26)
        have HB3 := hid (heap_alloc_at v3 (.cells #[.bool (rsg Y 1), .slice a3 (rnm Y 1).length c3, .slice d3 (rdn Y 1).length e3] 26))
        have HO3 := hid (And.intro (own_al o3 (.cells #[.bool (rsg Y 1), .slice a3 (rnm Y 1).length c3, .slice d3 (rdn Y 1).length e3] 26)) (own_al u3 (.cells #[.bool (rsg Y 1), .slice a3 (rnm Y 1).length c3, .slice d3 (rdn Y 1).length e3] 26)))
        clear s0 s1 s2 o3 u3 f3 j2 m2 l1_2
        go_upto_region 9 with fail
        obtain ⟨z3, hz3⟩ : ∃ x, x = v3.alloc (.cells #[.bool (rsg Y 1), .slice a3 (rnm Y 1).length c3, .slice d3 (rdn Y 1).length e3] 26) := ⟨_, rfl⟩
        rw [← hz3] at j3 m3 HB3 HO3 l1_3 l2_3 ⊢
        clear hz3
        obtain ⟨s0, s1, s2, _⟩ := cells3 HH.out j3
        go_wp2_with fail
        refine (HC.out z3 j3).2.2.2.1.mono ?_
        rintro e v4 ⟨a4, c4, d4, e4, rfl, o4, u4, f4⟩
        have hy4a := o4.rd.le
        have hy4b := o4.rd.cm
        have hy4c := u4.rd.le
        have hy4d := u4.rd.cm
        have j4 := below_al (j3.trans (f4.mono j3.size)) (.cells #[.bool (rsg Y 1), .slice a4 (rnm Y 1).length c4, .slice d4 (rdn Y 1).length e4] 26)
        have m4 := below_al (m3.trans (f4.mono m3.size)) (.cells #[.bool (rsg Y 1), .slice a4 (rnm Y 1).length c4, .slice d4 (rdn Y 1).length e4] 26)
        have l1_4 := below_al (l1_3.trans (f4.mono l1_3.size)) (.cells #[.bool (rsg Y 1), .slice a4 (rnm Y 1).length c4, .slice d4 (rdn Y 1).length e4] 26)
        have l2_4 := below_al (l2_3.trans (f4.mono l2_3.size)) (.cells #[.bool (rsg Y 1), .slice a4 (rnm Y 1).length c4, .slice d4 (rdn Y 1).length e4] 26)
        have l3_4 := below_al f4 (.cells #[.bool (rsg Y 1), .slice a4 (rnm Y 1).length c4, .slice d4 (rdn Y 1).length e4] 26)
        have HB4 := hid (heap_alloc_at v4 (.cells #[.bool (rsg Y 1), .slice a4 (rnm Y 1).length c4, .slice d4 (rdn Y 1).length e4] 26))
        have HO4 := hid (And.intro (own_al o4 (.cells #[.bool (rsg Y 1), .slice a4 (rnm Y 1).length c4, .slice d4 (rdn Y 1).length e4] 26)) (own_al u4 (.cells #[.bool (rsg Y 1), .slice a4 (rnm Y 1).length c4, .slice d4 (rdn Y 1).length e4] 26)))
        clear s0 s1 s2 o4 u4 f4 j3 m3 l1_3 l2_3
        go_upto_region 10 with fail
        obtain ⟨z4, hz4⟩ : ∃ x, x = v4.alloc (.cells #[.bool (rsg Y 1), .slice a4 (rnm Y 1).length c4, .slice d4 (rdn Y 1).length e4] 26) := ⟨_, rfl⟩
        rw [← hz4] at j4 m4 HB4 HO4 l1_4 l2_4 l3_4 ⊢
        clear hz4
        obtain ⟨s0, s1, s2, _⟩ := cells3 HH.out j4
        go_wp2_with fail
        refine (HC.out z4 j4).2.2.2.2.1.mono ?_
        rintro e v5 ⟨a5, c5, d5, e5, rfl, o5, u5, f5⟩
        have hy5a := o5.rd.le
        have hy5b := o5.rd.cm
        have hy5c := u5.rd.le
        have hy5d := u5.rd.cm
        have j5 := below_al (j4.trans (f5.mono j4.size)) (.cells #[.bool (rsg Z 1), .slice a5 (rnm Z 1).length c5, .slice d5 (rdn Z 1).length e5] 26)
        have m5 := below_al (m4.trans (f5.mono m4.size)) (.cells #[.bool (rsg Z 1), .slice a5 (rnm Z 1).length c5, .slice d5 (rdn Z 1).length e5] 26)
        have l1_5 := below_al (l1_4.trans (f5.mono l1_4.size)) (.cells #[.bool (rsg Z 1), .slice a5 (rnm Z 1).length c5, .slice d5 (rdn Z 1).length e5] 26)
        have l2_5 := below_al (l2_4.trans (f5.mono l2_4.size)) (.cells #[.bool (rsg Z 1), .slice a5 (rnm Z 1).length c5, .slice d5 (rdn Z 1).length e5] 26)
        have l3_5 := below_al (l3_4.trans (f5.mono l3_4.size)) (.cells #[.bool (rsg Z 1), .slice a5 (rnm Z 1).length c5, .slice d5 (rdn Z 1).length e5] 26)
        have l4_5 := below_al f5 (.cells #[.bool (rsg Z 1), .slice a5 (rnm Z 1).length c5, .slice d5 (rdn Z 1).length e5] 26)
        have HB5 := hid (heap_alloc_at v5 (.cells #[.bool (rsg Z 1), .slice a5 (rnm Z 1).length c5, .slice d5 (rdn Z 1).length e5] 26))
        have HO5 := hid (And.intro (own_al o5 (.cells #[.bool (rsg Z 1), .slice a5 (rnm Z 1).length c5, .slice d5 (rdn Z 1).length e5] 26)) (own_al u5 (.cells #[.bool (rsg Z 1), .slice a5 (rnm Z 1).length c5, .slice d5 (rdn Z 1).length e5] 26)))
        clear s0 s1 s2 o5 u5 f5 j4 m4 l1_4 l2_4 l3_4
        go_upto_region 11 with fail
        obtain ⟨z5, hz5⟩ : ∃ x, x = v5.alloc (.cells #[.bool (rsg Z 1), .slice a5 (rnm Z 1).length c5, .slice d5 (rdn Z 1).length e5] 26) := ⟨_, rfl⟩
        rw [← hz5] at j5 m5 HB5 HO5 l1_5 l2_5 l3_5 l4_5 ⊢
        clear hz5
        obtain ⟨s0, s1, s2, _⟩ := cells3 HH.out j5
        go_wp2_with fail
        refine (HC.out z5 j5).2.2.2.2.2.mono ?_
        rintro e v6 ⟨a6, c6, d6, e6, rfl, o6, u6, f6⟩
        have hy6a := o6.rd.le
        have hy6b := o6.rd.cm
        have hy6c := u6.rd.le
        have hy6d := u6.rd.cm
        have j6 := below_al (j5.trans (f6.mono j5.size)) (.cells #[.bool (rsg Z 1), .slice a6 (rnm Z 1).length c6, .slice d6 (rdn Z 1).length e6] 26)
        have m6 := below_al (m5.trans (f6.mono m5.size)) (.cells #[.bool (rsg Z 1), .slice a6 (rnm Z 1).length c6, .slice d6 (rdn Z 1).length e6] 26)
        have l1_6 := below_al (l1_5.trans (f6.mono l1_5.size)) (.cells #[.bool (rsg Z 1), .slice a6 (rnm Z 1).length c6, .slice d6 (rdn Z 1).length e6] 26)
        have l2_6 := below_al (l2_5.trans (f6.mono l2_5.size)) (.cells #[.bool (rsg Z 1), .slice a6 (rnm Z 1).length c6, .slice d6 (rdn Z 1).length e6] 26)
        have l3_6 := below_al (l3_5.trans (f6.mono l3_5.size)) (.cells #[.bool (rsg Z 1), .slice a6 (rnm Z 1).length c6, .slice d6 (rdn Z 1).length e6] 26)
        have l4_6 := below_al (l4_5.trans (f6.mono l4_5.size)) (.cells #[.bool (rsg Z 1), .slice a6 (rnm Z 1).length c6, .slice d6 (rdn Z 1).length e6] 26)
        have l5_6 := below_al f6 (.cells #[.bool (rsg Z 1), .slice a6 (rnm Z 1).length c6, .slice d6 (rdn Z 1).length e6] 26)
        have HB6 := hid (heap_alloc_at v6 (.cells #[.bool (rsg Z 1), .slice a6 (rnm Z 1).length c6, .slice d6 (rdn Z 1).length e6] 26))
        have HO6 := hid (And.intro (own_al o6 (.cells #[.bool (rsg Z 1), .slice a6 (rnm Z 1).length c6, .slice d6 (rdn Z 1).length e6] 26)) (own_al u6 (.cells #[.bool (rsg Z 1), .slice a6 (rnm Z 1).length c6, .slice d6 (rdn Z 1).length e6] 26)))
        clear s0 s1 s2 o6 u6 f6 j5 m5 l1_5 l2_5 l3_5 l4_5
        go_upto_region 12 with fail
        obtain ⟨z6, hz6⟩ : ∃ x, x = v6.alloc (.cells #[.bool (rsg Z 1), .slice a6 (rnm Z 1).length c6, .slice d6 (rdn Z 1).length e6] 26) := ⟨_, rfl⟩
        rw [← hz6] at j6 m6 HB6 HO6 l1_6 l2_6 l3_6 l4_6 l5_6 ⊢
        clear hz6
        obtain ⟨s0, s1, s2, _⟩ := cells3 HH.out j6
        have l6_6 : Below z6.heap.size z6 z6 := Below.refl _ _
        clear s0 s1 s2
        obtain ⟨r0, r1, r2, _⟩ := cells3 HB1.out l1_6
        obtain ⟨r3, r4, r5, _⟩ := cells3 HB2.out l2_6
        go_wp2_with fail
        refine (SE.out X 1 z6 a1 c1 d1 e1 a2 c2 d2 e2 (HO1.out.1.below l1_6).rd (HO1.out.2.below l1_6).rd (HO2.out.1.below l2_6).rd (HO2.out.2.below l2_6).rd).mono ?_
        rintro e y1 ⟨rfl, g1⟩
        have jy := j6.trans (g1.mono j6.size)
        have my := m6.trans (g1.mono m6.size)
        have l1_y := l1_6.trans (g1.mono l1_6.size)
        have l2_y := l2_6.trans (g1.mono l2_6.size)
        have l3_y := l3_6.trans (g1.mono l3_6.size)
        have l4_y := l4_6.trans (g1.mono l4_6.size)
        have l5_y := l5_6.trans (g1.mono l5_6.size)
        have l6_y := l6_6.trans (g1.mono l6_6.size)
        clear r0 r1 r2 r3 r4 r5 g1 j6 m6 l1_6 l2_6 l3_6 l4_6 l5_6 l6_6
        obtain ⟨r0, r1, r2, _⟩ := cells3 HB3.out l3_y
        obtain ⟨r3, r4, r5, _⟩ := cells3 HB4.out l4_y
        go_wp2_with fail
        refine (SE.out Y 1 y1 a3 c3 d3 e3 a4 c4 d4 e4 (HO3.out.1.below l3_y).rd (HO3.out.2.below l3_y).rd (HO4.out.1.below l4_y).rd (HO4.out.2.below l4_y).rd).mono ?_
        rintro e y2 ⟨rfl, g2⟩
        replace jy := jy.trans (g2.mono jy.size)
        replace my := my.trans (g2.mono my.size)
        replace l1_y := l1_y.trans (g2.mono l1_y.size)
        replace l2_y := l2_y.trans (g2.mono l2_y.size)
        replace l3_y := l3_y.trans (g2.mono l3_y.size)
        replace l4_y := l4_y.trans (g2.mono l4_y.size)
        replace l5_y := l5_y.trans (g2.mono l5_y.size)
        replace l6_y := l6_y.trans (g2.mono l6_y.size)
        clear r0 r1 r2 r3 r4 r5 g2
        obtain ⟨r0, r1, r2, _⟩ := cells3 HB5.out l5_y
        obtain ⟨r3, r4, r5, _⟩ := cells3 HB6.out l6_y
        go_wp2_with fail
        refine (SE.out Z 1 y2 a5 c5 d5 e5 a6 c6 d6 e6 (HO5.out.1.below l5_y).rd (HO5.out.2.below l5_y).rd (HO6.out.1.below l6_y).rd (HO6.out.2.below l6_y).rd).mono ?_
        rintro e y3 ⟨rfl, g3⟩
        replace jy := jy.trans (g3.mono jy.size)
        replace my := my.trans (g3.mono my.size)
        replace l1_y := l1_y.trans (g3.mono l1_y.size)
        replace l2_y := l2_y.trans (g3.mono l2_y.size)
        replace l3_y := l3_y.trans (g3.mono l3_y.size)
        replace l4_y := l4_y.trans (g3.mono l4_y.size)
        replace l5_y := l5_y.trans (g3.mono l5_y.size)
        replace l6_y := l6_y.trans (g3.mono l6_y.size)
        clear r0 r1 r2 r3 r4 r5 g3
        have MY := hid my
        clear jy my l1_y l2_y l3_y l4_y l5_y l6_y
        go_wp2
        exact ⟨⟨2, by omega, rfl, MY⟩, by simp [intOf]⟩
    · obtain ⟨s0, s1, s2, _⟩ := cells3 HH.out j0
      have p0 := j0.trans (below_drewI w0.heap.size wr)
      obtain ⟨F, hF⟩ : ∃ F, F = q.floor := ⟨_, rfl⟩
      have CF1 := hid (fun w' (g : Below w0.heap.size w0 w') => show Calls Tryz.prog 54 #[.agg #[.bool b, .slice ao xs.length c, .slice ad ds.length d]] w' (RetInt w'.heap.size F w') from by
        rw [hF]; exact Floor3_any (HQ.out.below g) (by omega))
      have CF2 := hid (fun w' (g : Below w0.heap.size w0 w') => show Calls Tryz.prog 55 #[.agg #[.bool b, .slice ao xs.length c, .slice ad ds.length d]] w' (RetInt w'.heap.size F w') from by
        rw [hF]; exact rfloor3_any (HQ.out.below g) (by omega))
      clear hF SE
      go_wp2_with fail
      go_region_held3 (fun w' => w'.cell? ⟨w.heap.size, 0, none⟩ = some (.bool b) ∧ w'.cell? ⟨w.heap.size, 1, none⟩ = some (.slice ao xs.length c) ∧ w'.cell? ⟨w.heap.size, 2, none⟩ = some (.slice ad ds.length d)) (go_keep) (first
        | (go_at_call 53; (with_reducible refine (same2_any (decide (F < 0)) (decide (F < 0)) a2 a3 c2 c3 (nd F.natAbs) (nd F.natAbs) true y3 (o2.below g3).rd o3.rd (by simp)).mono ?_); rintro e y4 ⟨rfl, g4⟩; have p4 := p3.trans (g4.mono p3.size); obtain ⟨x4a, x4b, x4c, _⟩ := cells3 HH.out p4)
        | (go_at_call 55; (with_reducible refine (CF2.out y2 p2).mono ?_); rintro e y3 ⟨a3, c3, rfl, o3, g3⟩; have p3 := p2.trans (g3.mono p2.size); obtain ⟨x3a, x3b, x3c, _⟩ := cells3 HH.out p3)
        | (go_at_call 54; (with_reducible refine (CF1.out y1 p1).mono ?_); rintro e y2 ⟨a2, c2, rfl, o2, g2⟩; have p2 := p1.trans (g2.mono p1.size); obtain ⟨x2a, x2b, x2c, _⟩ := cells3 HH.out p2)
        | (go_at_call 15; (with_reducible refine (awake3_any wr.drew (HT.out.below p0)).mono ?_); rintro e y1 ⟨rfl, g1⟩; have p1 := p0.trans (g1.mono p0.size); obtain ⟨x1a, x1b, x1c, _⟩ := cells3 HH.out p1))
      all_goals
        go_wp2
        go_ret
        exact ⟨rfl, HB.out.trans (p4.mono HB.out.size)⟩
end Go.Proofs.YtibfeceainemjaaGreatDoor
