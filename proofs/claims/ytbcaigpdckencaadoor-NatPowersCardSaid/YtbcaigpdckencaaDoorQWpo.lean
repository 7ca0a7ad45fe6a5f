/- The walk of NatPowers. -/
import Derived.Test.YtbcaigpdckencaaDoorQt
import Derived.Test.YtbcaigpdckencaaDoorQv
import Derived.Test.YtbcaigpdckencaaDoorQk

namespace Go.Proofs.YtbcaigpdckencaaDoor
open Go.RowKit Num

theorem int_cell {W w' : World} {g i : Nat} {vs : Array Value} {v : Value} {t : TypeId} (hh : W.heap[g]? = some (.cells vs t (0, 0))) (hb : Below W.heap.size W w') (hv : vs[i]? = some v) : w'.cell? ⟨g, i, none⟩ = some v := by
  have hg : g < W.heap.size := (Array.getElem?_eq_some_iff.1 hh).1
  have h := (hb.block g hg).trans hh
  simp [World.cell?, h, hv]
set_option maxRecDepth 100000 in
set_option maxHeartbeats 6400000 in
theorem walkNatPowers (aa : Option Addr) (ca : Nat) (xs : List Nat) (ab : Option Addr) (cb : Nat) (ys : List Nat) (n k : Int) (w : World)
    (ha : Rd w aa ca xs) (hb : Rd w ab cb ys) (hnw : (Lit.int .i64 n).wf = true) (hkw : (Lit.int .i64 k).wf = true) (hT : Tb w) :
    Calls Tryd.prog 3 #[.slice aa xs.length ca, .slice ab ys.length cb, .int .i64 n, .int .i64 k] w (RetB (.bool true) w) := by
  have hla := ha.le
  have hla2 := ha.cm
  have hlb := hb.le
  have hlb2 := hb.cm
  have hn0 := Go.Joins.in64_of_wf hnw
  have hk0 := Go.Joins.in64_of_wf hkw
  obtain ⟨hn1, hn2⟩ := hn0
  obtain ⟨hk1, hk2⟩ := hk0
  by_cases hx0 : xs.length ≤ 4
  case neg =>
    have hk := awake_any w
    have hi0 : (4 : Int) < (xs.length : Int) := by omega
    clear ha hb hT hnw hkw
    go_enter Tryd.func3, Tryd.ntmps3
    go_wp2_with fail
    refine hk.mono ?_
    rintro e w' ⟨rfl, hbel⟩
    go_wp2
    go_ret
    exact ⟨rfl, hbel⟩
  have hi0 : ¬ ((4 : Int) < (xs.length : Int)) := by omega
  by_cases hx1 : ys.length ≤ 10
  case neg =>
    have hd := digits_any ab ys.length cb false w (by omega) (by simp; omega)
    have hk := awake_any w
    clear ha hb hT hnw hkw
    go_enter Tryd.func3, Tryd.ntmps3
    go_wp2_with fail
    refine hd.mono ?_
    rintro e w' ⟨rfl, rfl⟩
    go_wp2_with fail
    refine hk.mono ?_
    rintro e w' ⟨rfl, hbel⟩
    go_wp2
    go_ret
    exact ⟨rfl, hbel⟩
  have hd := digits_any ab ys.length cb true w (by omega) (by simp; omega)
  have lx : xs.length ≤ 34359738368 := by omega
  have ly : ys.length ≤ 2048 := by omega
  have HP := hid (fun i => powers aa ca i xs lx)
  have HQ := hid (fun i => roots2 ab cb i ys ly)
  have HS := hid (fun (i : Int) (h1 : -9223372036854775808 ≤ i) (h2 : i ≤ 9223372036854775807) => shifts ab cb i ys (by omega) h1 h2)
  have HR := hid (And.intro ha (And.intro hb hT))
  have hm1 := Mod_any k 12 w (by omega) (by omega) hk1 hk2
  have e1 := Int.emod_nonneg k (show (12 : Int) ≠ 0 by omega)
  have e2 := Int.emod_lt_of_pos k (show (0 : Int) < 12 by omega)
  have e3 := Int.emod_nonneg k (show (400 : Int) ≠ 0 by omega)
  have e4 := Int.emod_lt_of_pos k (show (0 : Int) < 400 by omega)
  obtain ⟨r1, hr1⟩ : ∃ r, r = k % 12 := ⟨_, rfl⟩
  obtain ⟨r2, hr2⟩ : ∃ r, r = k % 400 := ⟨_, rfl⟩
  rw [← hr1] at hm1 e1 e2
  rw [← hr2] at e3 e4
  have HM := hid (fun w' => hr2 ▸ Mod_any k 400 w' (by omega) (by omega) hk1 hk2)
  clear ha hb hT hnw hkw hr1 hr2
  go_enter Tryd.func3, Tryd.ntmps3
  go_wp2_with fail
  refine hd.mono ?_
  rintro e w' ⟨rfl, rfl⟩
  go_wp2_with fail
  refine hm1.mono ?_
  rintro e w' ⟨rfl, rfl⟩
  clear hd hm1
  go_wp2_with fail
  have hx1 := heap_alloc_at w (.cells #[.int .i64 n, .int .i64 (r1 - 1)] 3)
  have hb1 := below_alloc w (.cells #[.int .i64 n, .int .i64 (r1 - 1)] 3)
  have hg1 : w.heap.size < (w.alloc (.cells #[.int .i64 n, .int .i64 (r1 - 1)] 3)).heap.size := by simp
  generalize w.alloc (.cells #[.int .i64 n, .int .i64 (r1 - 1)] 3) = w1 at hx1 hb1 hg1 ⊢
  have HX1 := hid hx1
  have HB1 := hid hb1
  clear hx1 hb1
  go_loopw [36] (fun iv wr => ∃ (j : Nat) (J : Int), j ≤ 2 ∧ iv = .int .i64 J ∧ Hid (J = (j : Int)) ∧ Hid (Below w1.heap.size w1 wr)) (fun iv _ => (2 - intOf iv).toNat)
  case atStart => exact ⟨0, 0, by omega, rfl, rfl, Below.refl _ _⟩
  case round =>
    obtain ⟨j, J, hj, rfl, HJ, HW⟩ := hrel
    rcases (by omega : j = 0 ∨ j = 1 ∨ j = 2) with rfl | rfl | rfl
    · obtain rfl : J = 0 := HJ.out
      have hc := int_cell (i := 0) (v := .int .i64 (n)) HX1.out HW.out rfl
      obtain ⟨i, hi⟩ : ∃ i : Int, i = n := ⟨_, rfl⟩
      rw [← hi] at hc
      obtain ⟨X, E, hp⟩ := HP.out i
      obtain ⟨Y, F, hq⟩ := HQ.out i
      have HPI := hid hp
      have HQI := hid hq
      have hEE : (E == E) = true := by simp
      have hFF : (F == F) = true := by simp
      have b0 := HB1.out.trans (HW.out.mono HB1.out.size)
      have m0 := HW.out
      have c1 := (hp wr (HR.out.1.below b0)).1
      clear hi hp hq
      go_wp2_with fail
      refine c1.mono ?_
      rintro e x1 ⟨a1, d1, rfl, o1, k1⟩
      have b1 := b0.trans (k1.mono b0.size)
      have m1 := m0.trans (k1.mono m0.size)
      clear m0
      have c2 := (HPI.out x1 (HR.out.1.below b1)).2
      clear c1 k1
      go_wp2_with fail
      refine c2.mono ?_
      rintro e x2 ⟨a2, d2, rfl, o2, k2⟩
      have b2 := b1.trans (k2.mono b1.size)
      have m2 := m1.trans (k2.mono m1.size)
      clear m1
      have o12 := o1.below k2
      have c3 := (HQI.out x2 (HR.out.2.1.below b2)).1
      clear c2 k2 o1 b1
      go_wp2_with fail
      refine c3.mono ?_
      rintro e x3 ⟨a3, d3, rfl, o3, k3⟩
      have b3 := b2.trans (k3.mono b2.size)
      have m3 := m2.trans (k3.mono m2.size)
      clear m2
      have o13 := o12.below k3
      have o23 := o2.below k3
      have c4 := (HQI.out x3 (HR.out.2.1.below b3)).2
      clear c3 k3 o12 o2 b2
      go_wp2_with fail
      refine c4.mono ?_
      rintro e x4 ⟨a4, d4, rfl, o4, k4⟩
      have b4 := b3.trans (k4.mono b3.size)
      have m4 := m3.trans (k4.mono m3.size)
      clear m3
      have o14 := o13.below k4
      have o24 := o23.below k4
      have o34 := o3.below k4
      clear c4 k4 o13 o23 o3 b3
      have c5 := same_any a1 a2 d1 d2 X X true x4 o14.rd o24.rd ⟨fun _ => rfl, fun _ => rfl⟩
      go_wp2_with fail
      refine c5.mono ?_
      rintro e w' ⟨rfl, q5, rfl⟩
      have c6 := same_any a3 a4 d3 d4 Y Y true (x4.drewN q5) (o34.drewN q5).rd (o4.drewN q5).rd ⟨fun _ => rfl, fun _ => rfl⟩
      clear c5 o14 o24
      go_wp2_with fail
      refine c6.mono ?_
      rintro e w' ⟨rfl, q6, rfl⟩
      have HM4 := hid (m4.trans ((below_drewN x4 q5).trans (below_drewN (x4.drewN q5) q6) |>.mono m4.size))
      clear c6 o34 o4 m4 b4
      go_wp2
      exact ⟨⟨1, 1, by omega, rfl, rfl, by first | exact HM4.out | (rw [← drewN2]; exact HM4.out)⟩, by simp [intOf]⟩
    · obtain rfl : J = 1 := HJ.out
      have hc := int_cell (i := 1) (v := .int .i64 (r1 - 1)) HX1.out HW.out rfl
      obtain ⟨i, hi⟩ : ∃ i : Int, i = r1 - 1 := ⟨_, rfl⟩
      rw [← hi] at hc
      obtain ⟨X, E, hp⟩ := HP.out i
      obtain ⟨Y, F, hq⟩ := HQ.out i
      have HPI := hid hp
      have HQI := hid hq
      have hEE : (E == E) = true := by simp
      have hFF : (F == F) = true := by simp
      have b0 := HB1.out.trans (HW.out.mono HB1.out.size)
      have m0 := HW.out
      have c1 := (hp wr (HR.out.1.below b0)).1
      clear hi hp hq
      go_wp2_with fail
      refine c1.mono ?_
      rintro e x1 ⟨a1, d1, rfl, o1, k1⟩
      have b1 := b0.trans (k1.mono b0.size)
      have m1 := m0.trans (k1.mono m0.size)
      clear m0
      have c2 := (HPI.out x1 (HR.out.1.below b1)).2
      clear c1 k1
      go_wp2_with fail
      refine c2.mono ?_
      rintro e x2 ⟨a2, d2, rfl, o2, k2⟩
      have b2 := b1.trans (k2.mono b1.size)
      have m2 := m1.trans (k2.mono m1.size)
      clear m1
      have o12 := o1.below k2
      have c3 := (HQI.out x2 (HR.out.2.1.below b2)).1
      clear c2 k2 o1 b1
      go_wp2_with fail
      refine c3.mono ?_
      rintro e x3 ⟨a3, d3, rfl, o3, k3⟩
      have b3 := b2.trans (k3.mono b2.size)
      have m3 := m2.trans (k3.mono m2.size)
      clear m2
      have o13 := o12.below k3
      have o23 := o2.below k3
      have c4 := (HQI.out x3 (HR.out.2.1.below b3)).2
      clear c3 k3 o12 o2 b2
      go_wp2_with fail
      refine c4.mono ?_
      rintro e x4 ⟨a4, d4, rfl, o4, k4⟩
      have b4 := b3.trans (k4.mono b3.size)
      have m4 := m3.trans (k4.mono m3.size)
      clear m3
      have o14 := o13.below k4
      have o24 := o23.below k4
      have o34 := o3.below k4
      clear c4 k4 o13 o23 o3 b3
      have c5 := same_any a1 a2 d1 d2 X X true x4 o14.rd o24.rd ⟨fun _ => rfl, fun _ => rfl⟩
      go_wp2_with fail
      refine c5.mono ?_
      rintro e w' ⟨rfl, q5, rfl⟩
      have c6 := same_any a3 a4 d3 d4 Y Y true (x4.drewN q5) (o34.drewN q5).rd (o4.drewN q5).rd ⟨fun _ => rfl, fun _ => rfl⟩
      clear c5 o14 o24
      go_wp2_with fail
      refine c6.mono ?_
      rintro e w' ⟨rfl, q6, rfl⟩
      have HM4 := hid (m4.trans ((below_drewN x4 q5).trans (below_drewN (x4.drewN q5) q6) |>.mono m4.size))
      clear c6 o34 o4 m4 b4
      go_wp2
      exact ⟨⟨2, 2, by omega, rfl, rfl, by first | exact HM4.out | (rw [← drewN2]; exact HM4.out)⟩, by simp [intOf]⟩
    · obtain rfl : J = 2 := HJ.out
      have b0 := HB1.out.trans (HW.out.mono HB1.out.size)
      have c1 := HM.out wr
      clear HX1 HP HQ hg1 HB1 HW HJ
      go_wp2_with fail
      refine c1.mono ?_
      rintro e w' ⟨rfl, rfl⟩
      clear c1
      go_wp2_with fail
      have hx1 := heap_alloc_at wr (.cells #[.int .i64 n, .int .i64 (r2 - 200), .int .i64 k] 3)
      have hb1 := below_alloc wr (.cells #[.int .i64 n, .int .i64 (r2 - 200), .int .i64 k] 3)
      have hg1 : wr.heap.size < (wr.alloc (.cells #[.int .i64 n, .int .i64 (r2 - 200), .int .i64 k] 3)).heap.size := by simp
      generalize wr.alloc (.cells #[.int .i64 n, .int .i64 (r2 - 200), .int .i64 k] 3) = w2 at hx1 hb1 hg1 ⊢
      have HX1 := hid hx1
      have HB1 := hid (b0.trans (hb1.mono b0.size))
      clear hx1 hb1 b0
      go_loopw [92] (fun iv wq => ∃ (j : Nat) (J : Int), j ≤ 3 ∧ iv = .int .i64 J ∧ Hid (J = (j : Int)) ∧ Hid (Below w2.heap.size w2 wq)) (fun iv _ => (3 - intOf iv).toNat)
      case atStart => exact ⟨0, 0, by omega, rfl, rfl, Below.refl _ _⟩
      case round =>
        obtain ⟨j, J, hj, rfl, HJ, HW⟩ := hrel
        rcases (by omega : j = 0 ∨ j = 1 ∨ j = 2 ∨ j = 3) with rfl | rfl | rfl | rfl
        · obtain rfl : J = 0 := HJ.out
          have hc := int_cell (i := 0) (v := .int .i64 (n)) HX1.out HW.out rfl
          obtain ⟨i, hi⟩ : ∃ i : Int, i = n := ⟨_, rfl⟩
          rw [← hi] at hc
          obtain ⟨X, hp⟩ := HS.out i (by omega) (by omega)
          have HPI := hid hp
          have b0 := HB1.out.trans (HW.out.mono HB1.out.size)
          have m0 := HW.out
          have c1 := (hp wr (HR.out.2.1.below b0)).1
          clear hi hp
          go_wp2_with fail
          refine c1.mono ?_
          rintro e x1 ⟨a1, d1, rfl, o1, k1⟩
          have b1 := b0.trans (k1.mono b0.size)
          have m1 := m0.trans (k1.mono m0.size)
          have c2 := (HPI.out x1 (HR.out.2.1.below b1)).2
          clear c1 k1 m0 b0
          go_wp2_with fail
          refine c2.mono ?_
          rintro e x2 ⟨a2, d2, rfl, o2, k2⟩
          have m2 := m1.trans (k2.mono m1.size)
          have o12 := o1.below k2
          clear c2 k2 o1 b1 m1
          have c5 := same_any a1 a2 d1 d2 X X true x2 o12.rd o2.rd ⟨fun _ => rfl, fun _ => rfl⟩
          go_wp2_with fail
          refine c5.mono ?_
          rintro e w' ⟨rfl, q5, rfl⟩
          have HM4 := hid (m2.trans ((below_drewN x2 q5).mono m2.size))
          clear c5 o12 o2 m2
          go_wp2
          exact ⟨⟨1, 1, by omega, rfl, rfl, HM4.out⟩, by simp [intOf]⟩
        · obtain rfl : J = 1 := HJ.out
          have hc := int_cell (i := 1) (v := .int .i64 (r2 - 200)) HX1.out HW.out rfl
          obtain ⟨i, hi⟩ : ∃ i : Int, i = r2 - 200 := ⟨_, rfl⟩
          rw [← hi] at hc
          obtain ⟨X, hp⟩ := HS.out i (by omega) (by omega)
          have HPI := hid hp
          have b0 := HB1.out.trans (HW.out.mono HB1.out.size)
          have m0 := HW.out
          have c1 := (hp wr (HR.out.2.1.below b0)).1
          clear hi hp
          go_wp2_with fail
          refine c1.mono ?_
          rintro e x1 ⟨a1, d1, rfl, o1, k1⟩
          have b1 := b0.trans (k1.mono b0.size)
          have m1 := m0.trans (k1.mono m0.size)
          have c2 := (HPI.out x1 (HR.out.2.1.below b1)).2
          clear c1 k1 m0 b0
          go_wp2_with fail
          refine c2.mono ?_
          rintro e x2 ⟨a2, d2, rfl, o2, k2⟩
          have m2 := m1.trans (k2.mono m1.size)
          have o12 := o1.below k2
          clear c2 k2 o1 b1 m1
          have c5 := same_any a1 a2 d1 d2 X X true x2 o12.rd o2.rd ⟨fun _ => rfl, fun _ => rfl⟩
          go_wp2_with fail
          refine c5.mono ?_
          rintro e w' ⟨rfl, q5, rfl⟩
          have HM4 := hid (m2.trans ((below_drewN x2 q5).mono m2.size))
          clear c5 o12 o2 m2
          go_wp2
          exact ⟨⟨2, 2, by omega, rfl, rfl, HM4.out⟩, by simp [intOf]⟩
        · obtain rfl : J = 2 := HJ.out
          have hc := int_cell (i := 2) (v := .int .i64 (k)) HX1.out HW.out rfl
          obtain ⟨i, hi⟩ : ∃ i : Int, i = k := ⟨_, rfl⟩
          rw [← hi] at hc
          obtain ⟨X, hp⟩ := HS.out i (by omega) (by omega)
          have HPI := hid hp
          have b0 := HB1.out.trans (HW.out.mono HB1.out.size)
          have m0 := HW.out
          have c1 := (hp wr (HR.out.2.1.below b0)).1
          clear hi hp
          go_wp2_with fail
          refine c1.mono ?_
          rintro e x1 ⟨a1, d1, rfl, o1, k1⟩
          have b1 := b0.trans (k1.mono b0.size)
          have m1 := m0.trans (k1.mono m0.size)
          have c2 := (HPI.out x1 (HR.out.2.1.below b1)).2
          clear c1 k1 m0 b0
          go_wp2_with fail
          refine c2.mono ?_
          rintro e x2 ⟨a2, d2, rfl, o2, k2⟩
          have m2 := m1.trans (k2.mono m1.size)
          have o12 := o1.below k2
          clear c2 k2 o1 b1 m1
          have c5 := same_any a1 a2 d1 d2 X X true x2 o12.rd o2.rd ⟨fun _ => rfl, fun _ => rfl⟩
          go_wp2_with fail
          refine c5.mono ?_
          rintro e w' ⟨rfl, q5, rfl⟩
          have HM4 := hid (m2.trans ((below_drewN x2 q5).mono m2.size))
          clear c5 o12 o2 m2
          go_wp2
          exact ⟨⟨3, 3, by omega, rfl, rfl, HM4.out⟩, by simp [intOf]⟩
        · obtain rfl : J = 3 := HJ.out
          have b0 := HB1.out.trans (HW.out.mono HB1.out.size)
          clear HX1 HB1 HW HJ HS hg1
          go_wp2_with fail
          refine (awake_any wr).mono ?_
          rintro e x1 ⟨rfl, k1⟩
          have b1 := b0.trans (k1.mono b0.size)
          have c2 := bitlen_any ab cb ys x1 (HR.out.2.1.below b1) (by omega)
          have c3 := rbitlen_any ab cb ys x1 (HR.out.2.1.below b1) (by omega)
          obtain ⟨L, hL⟩ : ∃ L : Int, L = (blen (val ys) : Int) := ⟨_, rfl⟩
          rw [← hL] at c2 c3
          have hLL : (L == L) = true := by simp
          clear hL k1 b0
          go_wp2_with fail
          refine c2.mono ?_
          rintro e w' ⟨rfl, rfl⟩
          go_wp2_with fail
          refine c3.mono ?_
          rintro e x2 ⟨rfl, k2⟩
          have b2 := b1.trans (k2.mono b1.size)
          clear c2 c3 k2 b1
          have c4 := gcd_any aa ab ca cb xs ys x2 (HR.out.1.below b2) (HR.out.2.1.below b2) (by omega) (by omega) (HR.out.2.2.below b2)
          go_wp2_with fail
          refine c4.mono ?_
          rintro e x3 ⟨a3, d3, rfl, o3, k3⟩
          have b3 := b2.trans (k3.mono b2.size)
          have c5 := rgcd_any aa ab ca cb xs ys x3 (HR.out.1.below b3) (HR.out.2.1.below b3) (by omega) (by omega)
          clear c4 k3 b2
          go_wp2_with fail
          refine c5.mono ?_
          rintro e x4 ⟨a4, d4, rfl, o4, k4⟩
          have b4 := b3.trans (k4.mono b3.size)
          have o34 := o3.below k4
          clear c5 k4 b3 o3
          have c6 := same_any a3 a4 d3 d4 _ _ true x4 o34.rd o4.rd ⟨fun _ => rfl, fun _ => rfl⟩
          go_wp2_with fail
          refine c6.mono ?_
          rintro e w' ⟨rfl, q6, rfl⟩
          have HB := hid (b4.trans ((below_drewN x4 q6).mono b4.size))
          clear c6 b4 o34 o4
          go_wp2
          go_ret
          exact ⟨rfl, HB.out⟩
end Go.Proofs.YtbcaigpdckencaaDoor
