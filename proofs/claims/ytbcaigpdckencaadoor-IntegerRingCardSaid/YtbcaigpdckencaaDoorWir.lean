/- The walk of IntegerRing, begun. -/
import Derived.Test.YtbcaigpdckencaaDoorIn9
import Derived.Deep.RegionHeld3
namespace Go.Proofs.YtbcaigpdckencaaDoor
open Go.RowKit Num

theorem iv_canon (z : Int) : iv (decide (z < 0)) (val (nd z.natAbs)) = z := by rw [val_nd, iv_self]
theorem iadd_z (b1 b2 : Bool) (aa ab : Option Addr) (ca cb : Nat) (xs ys : List Nat) (w : World) (ha : Rd w aa ca xs) (hb : Rd w ab cb ys) (hl1 : xs.length ≤ 4398046511104) (hl2 : ys.length ≤ 4398046511104) {z : Int} (hz : iv b1 (val xs) + iv b2 (val ys) = z) :
    Calls Tryd.prog 39 #[.agg #[.bool b1, .slice aa xs.length ca], .agg #[.bool b2, .slice ab ys.length cb]] w (RetInt w.heap.size z w) := hz ▸ iadd_any b1 b2 aa ab ca cb xs ys w ha hb hl1 hl2
theorem imul_z (b1 b2 : Bool) (aa ab : Option Addr) (ca cb : Nat) (xs ys : List Nat) (w : World) (ha : Rd w aa ca xs) (hb : Rd w ab cb ys) (hl1 : xs.length ≤ 4398046511104) (hl2 : ys.length ≤ 4398046511104) {z : Int} (hz : iv b1 (val xs) * iv b2 (val ys) = z) :
    Calls Tryd.prog 40 #[.agg #[.bool b1, .slice aa xs.length ca], .agg #[.bool b2, .slice ab ys.length cb]] w (RetInt w.heap.size z w) := hz ▸ imul_any b1 b2 aa ab ca cb xs ys w ha hb hl1 hl2
theorem ineg_z (b : Bool) (ao : Option Addr) (c : Nat) (xs : List Nat) (w : World) (h : Rd w ao c xs) (hl : xs.length ≤ 4398046511104) {z : Int} (hz : -(iv b (val xs)) = z) :
    Calls Tryd.prog 50 #[.agg #[.bool b, .slice ao xs.length c]] w (RetInt w.heap.size z w) := hz ▸ neg_any b ao c xs w h (by omega)
/-- the boxes of three arguments -/
def B3 (w : World) (b1 b2 b3 : Bool) (aa ab ac : Option Addr) (n1 n2 n3 ca cb cc : Nat) : World :=
  ((w.alloc (.cells #[.bool b1, .slice aa n1 ca] 43)).alloc (.cells #[.bool b2, .slice ab n2 cb] 43)).alloc (.cells #[.bool b3, .slice ac n3 cc] 43)
theorem B3_below (w : World) (b1 b2 b3 : Bool) (aa ab ac : Option Addr) (n1 n2 n3 ca cb cc : Nat) : Below w.heap.size w (B3 w b1 b2 b3 aa ab ac n1 n2 n3 ca cb cc) := by
  have h1 := below_alloc w (.cells #[.bool b1, .slice aa n1 ca] 43)
  have h2 := h1.trans ((below_alloc _ (.cells #[.bool b2, .slice ab n2 cb] 43)).mono h1.size)
  exact h2.trans ((below_alloc _ (.cells #[.bool b3, .slice ac n3 cc] 43)).mono h2.size)
theorem B3_cells {w w' : World} {b1 b2 b3 : Bool} {aa ab ac : Option Addr} {n1 n2 n3 ca cb cc : Nat} (hb : Below (B3 w b1 b2 b3 aa ab ac n1 n2 n3 ca cb cc).heap.size (B3 w b1 b2 b3 aa ab ac n1 n2 n3 ca cb cc) w') :
    w'.cell? ⟨w.heap.size, 0, none⟩ = some (.bool b1) ∧ w'.cell? ⟨w.heap.size, 1, none⟩ = some (.slice aa n1 ca) ∧ w'.cell? ⟨w.heap.size + 1, 0, none⟩ = some (.bool b2) ∧ w'.cell? ⟨w.heap.size + 1, 1, none⟩ = some (.slice ab n2 cb) ∧ w'.cell? ⟨w.heap.size + 1 + 1, 0, none⟩ = some (.bool b3) ∧ w'.cell? ⟨w.heap.size + 1 + 1, 1, none⟩ = some (.slice ac n3 cc) := by
  have x1 := heap_alloc_at w (.cells #[.bool b1, .slice aa n1 ca] 43)
  have z1 : (w.alloc (.cells #[.bool b1, .slice aa n1 ca] 43)).heap.size = w.heap.size + 1 := by simp
  have x2 := heap_alloc_at (w.alloc (.cells #[.bool b1, .slice aa n1 ca] 43)) (.cells #[.bool b2, .slice ab n2 cb] 43)
  rw [z1] at x2
  have y2 := (below_alloc (w.alloc (.cells #[.bool b1, .slice aa n1 ca] 43)) (.cells #[.bool b2, .slice ab n2 cb] 43)).block w.heap.size (by omega)
  have z2 : ((w.alloc (.cells #[.bool b1, .slice aa n1 ca] 43)).alloc (.cells #[.bool b2, .slice ab n2 cb] 43)).heap.size = w.heap.size + 1 + 1 := by simp
  have b3' := below_alloc ((w.alloc (.cells #[.bool b1, .slice aa n1 ca] 43)).alloc (.cells #[.bool b2, .slice ab n2 cb] 43)) (.cells #[.bool b3, .slice ac n3 cc] 43)
  have x3 := heap_alloc_at ((w.alloc (.cells #[.bool b1, .slice aa n1 ca] 43)).alloc (.cells #[.bool b2, .slice ab n2 cb] 43)) (.cells #[.bool b3, .slice ac n3 cc] 43)
  rw [z2] at x3
  have e0 : (B3 w b1 b2 b3 aa ab ac n1 n2 n3 ca cb cc).heap[w.heap.size]? = some (.cells #[.bool b1, .slice aa n1 ca] 43 (0, 0)) := (b3'.block w.heap.size (by omega)).trans (y2.trans x1)
  have e1 : (B3 w b1 b2 b3 aa ab ac n1 n2 n3 ca cb cc).heap[w.heap.size + 1]? = some (.cells #[.bool b2, .slice ab n2 cb] 43 (0, 0)) := (b3'.block (w.heap.size + 1) (by omega)).trans x2
  obtain ⟨c0, c1, _, _⟩ := pair_cells e0 hb
  obtain ⟨c2, c3, _, _⟩ := pair_cells e1 hb
  obtain ⟨c4, c5, _, _⟩ := pair_cells (W := B3 w b1 b2 b3 aa ab ac n1 n2 n3 ca cb cc) x3 hb
  exact ⟨c0, c1, c2, c3, c4, c5⟩

set_option maxRecDepth 100000 in
set_option maxHeartbeats 6400000 in
theorem walkIntegerRing (b1 b2 b3 : Bool) (aa : Option Addr) (ca : Nat) (xs : List Nat) (ab : Option Addr) (cb : Nat) (ys : List Nat) (ac : Option Addr) (cc : Nat) (zs : List Nat) (w : World)
    (ha : Rd w aa ca xs) (hb : Rd w ab cb ys) (hc : Rd w ac cc zs) :
    Calls Tryd.prog 9 #[.agg #[.bool b1, .slice aa xs.length ca], .agg #[.bool b2, .slice ab ys.length cb], .agg #[.bool b3, .slice ac zs.length cc]] w (RetB (.bool true) w) := by
  have hla := ha.le
  have hla2 := ha.cm
  have hlb := hb.le
  have hlb2 := hb.cm
  have hlc := hc.le
  have hlc2 := hc.cm
  by_cases hx0 : xs.length ≤ 10
  case neg =>
    have hB := B3_below w b1 b2 b3 aa ab ac xs.length ys.length zs.length ca cb cc
    have HC := hid (fun w' => B3_cells (w' := w') (w := w) (b1 := b1) (b2 := b2) (b3 := b3) (aa := aa) (ab := ab) (ac := ac) (n1 := xs.length) (n2 := ys.length) (n3 := zs.length) (ca := ca) (cb := cb) (cc := cc))
    have HB := hid hB
    unfold B3 at HC HB
    clear ha hb hc hB
    go_enter Tryd.func9, Tryd.ntmps9
    go_wp2_with fail
    obtain ⟨w0, hw0⟩ : ∃ x, x = ((w.alloc (.cells #[.bool b1, .slice aa xs.length ca] 43)).alloc (.cells #[.bool b2, .slice ab ys.length cb] 43)).alloc (.cells #[.bool b3, .slice ac zs.length cc] 43) := ⟨_, rfl⟩
    rw [← hw0] at HC HB ⊢
    clear hw0
    have k0 := Below.refl w0.heap.size w0
    obtain ⟨s0, s1, s2, s3, s4, s5⟩ := HC.out w0 k0
    have c1 := small2_any b1 aa xs.length ca false w0 (by omega) (by simp; omega)
    refine c1.mono ?_
    rintro e w1 ⟨rfl, f1⟩
    clear s0 s1 s2 s3 s4 s5 c1
    have k1 := k0.trans (f1.mono k0.size)
    obtain ⟨s0, s1, s2, s3, s4, s5⟩ := HC.out w1 k1
    clear f1 k0
    have hk := awake2_any w1
    go_wp2_with fail
    refine hk.mono ?_
    rintro e wz ⟨rfl, fz⟩
    have kz := HB.out.trans ((k1.trans (fz.mono k1.size)).mono HB.out.size)
    clear hk fz k1 s0 s1 s2 s3 s4 s5
    go_wp2
    go_ret
    exact ⟨rfl, kz⟩
  by_cases hx1 : ys.length ≤ 10
  case neg =>
    have hB := B3_below w b1 b2 b3 aa ab ac xs.length ys.length zs.length ca cb cc
    have HC := hid (fun w' => B3_cells (w' := w') (w := w) (b1 := b1) (b2 := b2) (b3 := b3) (aa := aa) (ab := ab) (ac := ac) (n1 := xs.length) (n2 := ys.length) (n3 := zs.length) (ca := ca) (cb := cb) (cc := cc))
    have HB := hid hB
    unfold B3 at HC HB
    clear ha hb hc hB
    go_enter Tryd.func9, Tryd.ntmps9
    go_wp2_with fail
    obtain ⟨w0, hw0⟩ : ∃ x, x = ((w.alloc (.cells #[.bool b1, .slice aa xs.length ca] 43)).alloc (.cells #[.bool b2, .slice ab ys.length cb] 43)).alloc (.cells #[.bool b3, .slice ac zs.length cc] 43) := ⟨_, rfl⟩
    rw [← hw0] at HC HB ⊢
    clear hw0
    have k0 := Below.refl w0.heap.size w0
    obtain ⟨s0, s1, s2, s3, s4, s5⟩ := HC.out w0 k0
    have c1 := small2_any b1 aa xs.length ca true w0 (by omega) (by simp; omega)
    refine c1.mono ?_
    rintro e w1 ⟨rfl, f1⟩
    clear s0 s1 s2 s3 s4 s5 c1
    have k1 := k0.trans (f1.mono k0.size)
    obtain ⟨s0, s1, s2, s3, s4, s5⟩ := HC.out w1 k1
    clear f1 k0
    have c2 := small2_any b2 ab ys.length cb false w1 (by omega) (by simp; omega)
    go_wp2_with fail
    refine c2.mono ?_
    rintro e w2 ⟨rfl, f2⟩
    clear s0 s1 s2 s3 s4 s5 c2
    have k2 := k1.trans (f2.mono k1.size)
    obtain ⟨s0, s1, s2, s3, s4, s5⟩ := HC.out w2 k2
    clear f2 k1
    have hk := awake2_any w2
    go_wp2_with fail
    refine hk.mono ?_
    rintro e wz ⟨rfl, fz⟩
    have kz := HB.out.trans ((k2.trans (fz.mono k2.size)).mono HB.out.size)
    clear hk fz k2 s0 s1 s2 s3 s4 s5
    go_wp2
    go_ret
    exact ⟨rfl, kz⟩
  by_cases hx2 : zs.length ≤ 10
  case neg =>
    have hB := B3_below w b1 b2 b3 aa ab ac xs.length ys.length zs.length ca cb cc
    have HC := hid (fun w' => B3_cells (w' := w') (w := w) (b1 := b1) (b2 := b2) (b3 := b3) (aa := aa) (ab := ab) (ac := ac) (n1 := xs.length) (n2 := ys.length) (n3 := zs.length) (ca := ca) (cb := cb) (cc := cc))
    have HB := hid hB
    unfold B3 at HC HB
    clear ha hb hc hB
    go_enter Tryd.func9, Tryd.ntmps9
    go_wp2_with fail
    obtain ⟨w0, hw0⟩ : ∃ x, x = ((w.alloc (.cells #[.bool b1, .slice aa xs.length ca] 43)).alloc (.cells #[.bool b2, .slice ab ys.length cb] 43)).alloc (.cells #[.bool b3, .slice ac zs.length cc] 43) := ⟨_, rfl⟩
    rw [← hw0] at HC HB ⊢
    clear hw0
    have k0 := Below.refl w0.heap.size w0
    obtain ⟨s0, s1, s2, s3, s4, s5⟩ := HC.out w0 k0
    have c1 := small2_any b1 aa xs.length ca true w0 (by omega) (by simp; omega)
    refine c1.mono ?_
    rintro e w1 ⟨rfl, f1⟩
    clear s0 s1 s2 s3 s4 s5 c1
    have k1 := k0.trans (f1.mono k0.size)
    obtain ⟨s0, s1, s2, s3, s4, s5⟩ := HC.out w1 k1
    clear f1 k0
    have c2 := small2_any b2 ab ys.length cb true w1 (by omega) (by simp; omega)
    go_wp2_with fail
    refine c2.mono ?_
    rintro e w2 ⟨rfl, f2⟩
    clear s0 s1 s2 s3 s4 s5 c2
    have k2 := k1.trans (f2.mono k1.size)
    obtain ⟨s0, s1, s2, s3, s4, s5⟩ := HC.out w2 k2
    clear f2 k1
    have c3 := small2_any b3 ac zs.length cc false w2 (by omega) (by simp; omega)
    go_wp2_with fail
    refine c3.mono ?_
    rintro e w3 ⟨rfl, f3⟩
    clear s0 s1 s2 s3 s4 s5 c3
    have k3 := k2.trans (f3.mono k2.size)
    obtain ⟨s0, s1, s2, s3, s4, s5⟩ := HC.out w3 k3
    clear f3 k2
    have hk := awake2_any w3
    go_wp2_with fail
    refine hk.mono ?_
    rintro e wz ⟨rfl, fz⟩
    have kz := HB.out.trans ((k3.trans (fz.mono k3.size)).mono HB.out.size)
    clear hk fz k3 s0 s1 s2 s3 s4 s5
    go_wp2
    go_ret
    exact ⟨rfl, kz⟩
  have hB := B3_below w b1 b2 b3 aa ab ac xs.length ys.length zs.length ca cb cc
  have HC := hid (fun w' => B3_cells (w' := w') (w := w) (b1 := b1) (b2 := b2) (b3 := b3) (aa := aa) (ab := ab) (ac := ac) (n1 := xs.length) (n2 := ys.length) (n3 := zs.length) (ca := ca) (cb := cb) (cc := cc))
  have HB := hid hB
  have HR := hid (And.intro (ha.below hB) (And.intro (hb.below hB) (hc.below hB)))
  obtain ⟨A, hA⟩ : ∃ A, A = iv b1 (val xs) := ⟨_, rfl⟩
  obtain ⟨B, hBv⟩ : ∃ B, B = iv b2 (val ys) := ⟨_, rfl⟩
  obtain ⟨C, hCv⟩ : ∃ C, C = iv b3 (val zs) := ⟨_, rfl⟩
  have HABC := hid (And.intro hA (And.intro hBv hCv))
  obtain ⟨zab, e1⟩ : ∃ z, z = A + B := ⟨_, rfl⟩
  obtain ⟨zm, e2⟩ : ∃ z, z = A * B := ⟨_, rfl⟩
  obtain ⟨zabc, e3⟩ : ∃ z, z = A + B + C := ⟨_, rfl⟩
  obtain ⟨zbc, e4⟩ : ∃ z, z = B + C := ⟨_, rfl⟩
  obtain ⟨zmc, e5⟩ : ∃ z, z = A * B * C := ⟨_, rfl⟩
  obtain ⟨zmbc, e6⟩ : ∃ z, z = B * C := ⟨_, rfl⟩
  obtain ⟨zd, e7⟩ : ∃ z, z = A * (B + C) := ⟨_, rfl⟩
  obtain ⟨zac, e8⟩ : ∃ z, z = A * C := ⟨_, rfl⟩
  obtain ⟨zn, e9⟩ : ∃ z, z = -A := ⟨_, rfl⟩
  obtain ⟨z0, e10⟩ : ∃ z : Int, z = 0 := ⟨_, rfl⟩
  have HE := hid (show zab = A + B ∧ B + A = zab ∧ zm = A * B ∧ B * A = zm from ⟨e1, by rw [e1, Int.add_comm], e2, by rw [e2, Int.mul_comm]⟩)
  have HF := hid (show zab + C = zabc ∧ zbc = B + C ∧ A + zbc = zabc ∧ True from ⟨by rw [e1, e3], e4, by rw [e4, e3, Int.add_assoc], trivial⟩)
  have HG := hid (show zm * C = zmc ∧ zmbc = B * C ∧ A * zmbc = zmc from ⟨by rw [e2, e5], e6, by rw [e6, e5, Int.mul_assoc]⟩)
  have HK := hid (show A * zbc = zd ∧ zac = A * C ∧ zm + zac = zd ∧ zn = -A ∧ A + zn = z0 ∧ sgn z0 = 0 from ⟨by rw [e4, e7], e8, by rw [e2, e8, e7, Int.mul_add], e9, by rw [e9, e10]; omega, by rw [e10]; rfl⟩)
  have lA : (nd A.natAbs).length ≤ 10 := by rw [hA, iv_abs]; exact Nat.le_trans (nd_length_le_of ha.dg) hx0
  have lB : (nd B.natAbs).length ≤ 10 := by rw [hBv, iv_abs]; exact Nat.le_trans (nd_length_le_of hb.dg) hx1
  have lC : (nd C.natAbs).length ≤ 10 := by rw [hCv, iv_abs]; exact Nat.le_trans (nd_length_le_of hc.dg) hx2
  have l1 : (nd zab.natAbs).length ≤ 21 := by rw [e1]; exact Nat.le_trans (nd_length_mono (Int.natAbs_add_le A B)) (len_add lA lB)
  have l2 : (nd zm.natAbs).length ≤ 20 := by rw [e2, Int.natAbs_mul]; exact len_mul lA lB
  have l3 : (nd zbc.natAbs).length ≤ 21 := by rw [e4]; exact Nat.le_trans (nd_length_mono (Int.natAbs_add_le B C)) (len_add lB lC)
  have l4 : (nd zmbc.natAbs).length ≤ 20 := by rw [e6, Int.natAbs_mul]; exact len_mul lB lC
  have l5 : (nd zac.natAbs).length ≤ 20 := by rw [e8, Int.natAbs_mul]; exact len_mul lA lC
  have l6 : (nd zn.natAbs).length ≤ 10 := by rw [e9, Int.natAbs_neg]; exact lA
  have l7 : (nd z0.natAbs).length ≤ 1 := by rw [e10]; rw [show nd (0 : Int).natAbs = [] from nd_zero]; simp
  have lx : xs.length ≤ 4398046511104 := by omega
  have ly : ys.length ≤ 4398046511104 := by omega
  have lz : zs.length ≤ 4398046511104 := by omega
  replace l1 := Nat.le_trans l1 (show 21 ≤ 4398046511104 by omega)
  replace l2 := Nat.le_trans l2 (show 20 ≤ 4398046511104 by omega)
  replace l3 := Nat.le_trans l3 (show 21 ≤ 4398046511104 by omega)
  replace l4 := Nat.le_trans l4 (show 20 ≤ 4398046511104 by omega)
  replace l5 := Nat.le_trans l5 (show 20 ≤ 4398046511104 by omega)
  replace l6 := Nat.le_trans l6 (show 10 ≤ 4398046511104 by omega)
  replace l7 := Nat.le_trans l7 (show 1 ≤ 4398046511104 by omega)
  clear e1 e2 e3 e4 e5 e6 e7 e8 e9 e10 hA hBv hCv
  unfold B3 at HC HB HR
  clear ha hb hc hB
  go_enter Tryd.func9, Tryd.ntmps9
  go_wp2_with fail
  obtain ⟨w0, hw0⟩ : ∃ x, x = ((w.alloc (.cells #[.bool b1, .slice aa xs.length ca] 43)).alloc (.cells #[.bool b2, .slice ab ys.length cb] 43)).alloc (.cells #[.bool b3, .slice ac zs.length cc] 43) := ⟨_, rfl⟩
  rw [← hw0] at HC HB HR ⊢
  clear hw0
  have k0 := Below.refl w0.heap.size w0
  obtain ⟨s0, s1, s2, s3, s4, s5⟩ := HC.out w0 k0
  have c1 := small2_any b1 aa xs.length ca true w0 (by omega) (by simp; omega)
  refine c1.mono ?_
  rintro e w1 ⟨rfl, f1⟩
  clear s0 s1 s2 s3 s4 s5 c1
  have k1 := k0.trans (f1.mono k0.size)
  obtain ⟨s0, s1, s2, s3, s4, s5⟩ := HC.out w1 k1
  clear f1  
  have c2 := small2_any b2 ab ys.length cb true w1 (by omega) (by simp; omega)
  go_wp2_with fail
  refine c2.mono ?_
  rintro e w2 ⟨rfl, f2⟩
  clear s0 s1 s2 s3 s4 s5 c2
  have k2 := k1.trans (f2.mono k1.size)
  obtain ⟨s0, s1, s2, s3, s4, s5⟩ := HC.out w2 k2
  clear f2 k1 
  have c3 := small2_any b3 ac zs.length cc true w2 (by omega) (by simp; omega)
  go_wp2_with fail
  refine c3.mono ?_
  rintro e w3 ⟨rfl, f3⟩
  clear s0 s1 s2 s3 s4 s5 c3
  have k3 := k2.trans (f3.mono k2.size)
  obtain ⟨s0, s1, s2, s3, s4, s5⟩ := HC.out w3 k3
  clear f3 k2 
  go_wp2_with fail
  have kd : Below w0.heap.size w0 w3.drew := k3.drew
  have N2 := hid (show iv b1 (val xs) + iv b2 (val ys) = zab by rw [← HABC.out.1, ← HABC.out.2.1]; exact HE.out.1.symm)
  have N3 := hid (show iv b2 (val ys) + iv b1 (val xs) = zab by rw [← HABC.out.2.1, ← HABC.out.1]; exact HE.out.2.1)
  have N5 := hid (show iv b1 (val xs) * iv b2 (val ys) = zm by rw [← HABC.out.1, ← HABC.out.2.1]; exact HE.out.2.2.1.symm)
  have N6 := hid (show iv b2 (val ys) * iv b1 (val xs) = zm by rw [← HABC.out.2.1, ← HABC.out.1]; exact HE.out.2.2.2)
  have N8 := hid (show iv b1 (val xs) + iv b2 (val ys) = zab by rw [← HABC.out.1, ← HABC.out.2.1]; exact HE.out.1.symm)
  have N9 := hid (show iv (decide (zab < 0)) (val (nd zab.natAbs)) + iv b3 (val zs) = zabc by rw [← HABC.out.2.2, iv_canon]; exact HF.out.1)
  have N10 := hid (show iv b2 (val ys) + iv b3 (val zs) = zbc by rw [← HABC.out.2.1, ← HABC.out.2.2]; exact HF.out.2.1.symm)
  have N11 := hid (show iv b1 (val xs) + iv (decide (zbc < 0)) (val (nd zbc.natAbs)) = zabc by rw [← HABC.out.1, iv_canon]; exact HF.out.2.2.1)
  have N13 := hid (show iv b1 (val xs) * iv b2 (val ys) = zm by rw [← HABC.out.1, ← HABC.out.2.1]; exact HE.out.2.2.1.symm)
  have N14 := hid (show iv (decide (zm < 0)) (val (nd zm.natAbs)) * iv b3 (val zs) = zmc by rw [← HABC.out.2.2, iv_canon]; exact HG.out.1)
  have N15 := hid (show iv b2 (val ys) * iv b3 (val zs) = zmbc by rw [← HABC.out.2.1, ← HABC.out.2.2]; exact HG.out.2.1.symm)
  have N16 := hid (show iv b1 (val xs) * iv (decide (zmbc < 0)) (val (nd zmbc.natAbs)) = zmc by rw [← HABC.out.1, iv_canon]; exact HG.out.2.2)
  have N18 := hid (show iv b2 (val ys) + iv b3 (val zs) = zbc by rw [← HABC.out.2.1, ← HABC.out.2.2]; exact HF.out.2.1.symm)
  have N19 := hid (show iv b1 (val xs) * iv (decide (zbc < 0)) (val (nd zbc.natAbs)) = zd by rw [← HABC.out.1, iv_canon]; exact HK.out.1)
  have N20 := hid (show iv b1 (val xs) * iv b2 (val ys) = zm by rw [← HABC.out.1, ← HABC.out.2.1]; exact HE.out.2.2.1.symm)
  have N21 := hid (show iv b1 (val xs) * iv b3 (val zs) = zac by rw [← HABC.out.1, ← HABC.out.2.2]; exact HK.out.2.1.symm)
  have N22 := hid (show iv (decide (zm < 0)) (val (nd zm.natAbs)) + iv (decide (zac < 0)) (val (nd zac.natAbs)) = zd by rw [iv_canon, iv_canon]; exact HK.out.2.2.1)
  have N24 := hid (show -(iv b1 (val xs)) = zn by rw [← HABC.out.1]; exact HK.out.2.2.2.1.symm)
  have N25 := hid (show iv b1 (val xs) + iv (decide (zn < 0)) (val (nd zn.natAbs)) = z0 by rw [← HABC.out.1, iv_canon]; exact HK.out.2.2.2.2.1)
  have HTRUE := hid (fun (b : Bool) (l : List Nat) => (by simp : (true = true) ↔ b = b ∧ l = l))
  have HSG := hid (fun (w : World) (a : Option Addr) (c : Nat) (h : Rd w a c (nd z0.natAbs)) => (by
    have h1 := Sign_any (decide (z0 < 0)) a c (nd z0.natAbs) w h (by omega)
    rw [iv_canon, HK.out.2.2.2.2.2] at h1
    exact h1 : Calls Tryd.prog 36 #[.agg #[.bool (decide (z0 < 0)), .slice a (nd z0.natAbs).length c]] w (RetB (.int .i64 0) w)))
  simp only [List.append_eq, List.cons_append, List.nil_append]
  go_region_held3 (fun w' => w'.cell? ⟨w.heap.size, 0, none⟩ = some (.bool b1) ∧ w'.cell? ⟨w.heap.size, 1, none⟩ = some (.slice aa xs.length ca) ∧ w'.cell? ⟨w.heap.size + 1, 0, none⟩ = some (.bool b2) ∧ w'.cell? ⟨w.heap.size + 1, 1, none⟩ = some (.slice ab ys.length cb) ∧ w'.cell? ⟨w.heap.size + 1 + 1, 0, none⟩ = some (.bool b3) ∧ w'.cell? ⟨w.heap.size + 1 + 1, 1, none⟩ = some (.slice ac zs.length cc)) (go_keep) (first
    | (go_at_call 36; (with_reducible refine (HSG.out y25 a25 d25 (o25).rd).mono ?_); rintro e y26 ⟨rfl, g26⟩; have q26 := q25.trans (g26.mono q25.size); obtain ⟨s260, s261, s262, s263, s264, s265⟩ := HC.out y26 q26; clear s250 s251 s252 s253 s254 s255)
    | (go_at_call 39; (with_reducible refine (iadd_z b1 (decide (zn < 0)) aa a24 ca d24 xs (nd zn.natAbs) y24 (HR.out.1.below q24) (o24).rd lx l6 N25.out).mono ?_); rintro e y25 ⟨a25, d25, rfl, o25, g25⟩; have q25 := q24.trans (g25.mono q24.size); obtain ⟨s250, s251, s252, s253, s254, s255⟩ := HC.out y25 q25; clear s240 s241 s242 s243 s244 s245)
    | (go_at_call 50; (with_reducible refine (ineg_z b1 aa ca xs y23 (HR.out.1.below q23) lx N24.out).mono ?_); rintro e y24 ⟨a24, d24, rfl, o24, g24⟩; have q24 := q23.trans (g24.mono q23.size); obtain ⟨s240, s241, s242, s243, s244, s245⟩ := HC.out y24 q24; clear s230 s231 s232 s233 s234 s235)
    | (go_at_call 35; (with_reducible refine (same2_any (decide (zd < 0)) (decide (zd < 0)) a19 a22 d19 d22 (nd zd.natAbs) (nd zd.natAbs) true y22 (((o19.below g20).below g21).below g22).rd (o22).rd (by simp)).mono ?_); rintro e y23 ⟨rfl, g23⟩; have q23 := q22.trans (g23.mono q22.size); obtain ⟨s230, s231, s232, s233, s234, s235⟩ := HC.out y23 q23; clear s220 s221 s222 s223 s224 s225)
    | (go_at_call 39; (with_reducible refine (iadd_z (decide (zm < 0)) (decide (zac < 0)) a20 a21 d20 d21 (nd zm.natAbs) (nd zac.natAbs) y21 (o20.below g21).rd (o21).rd l2 l5 N22.out).mono ?_); rintro e y22 ⟨a22, d22, rfl, o22, g22⟩; have q22 := q21.trans (g22.mono q21.size); obtain ⟨s220, s221, s222, s223, s224, s225⟩ := HC.out y22 q22; clear s210 s211 s212 s213 s214 s215)
    | (go_at_call 40; (with_reducible refine (imul_z b1 b3 aa ac ca cc xs zs y20 (HR.out.1.below q20) (HR.out.2.2.below q20) lx lz N21.out).mono ?_); rintro e y21 ⟨a21, d21, rfl, o21, g21⟩; have q21 := q20.trans (g21.mono q20.size); obtain ⟨s210, s211, s212, s213, s214, s215⟩ := HC.out y21 q21; clear s200 s201 s202 s203 s204 s205)
    | (go_at_call 40; (with_reducible refine (imul_z b1 b2 aa ab ca cb xs ys y19 (HR.out.1.below q19) (HR.out.2.1.below q19) lx ly N20.out).mono ?_); rintro e y20 ⟨a20, d20, rfl, o20, g20⟩; have q20 := q19.trans (g20.mono q19.size); obtain ⟨s200, s201, s202, s203, s204, s205⟩ := HC.out y20 q20; clear s190 s191 s192 s193 s194 s195)
    | (go_at_call 40; (with_reducible refine (imul_z b1 (decide (zbc < 0)) aa a18 ca d18 xs (nd zbc.natAbs) y18 (HR.out.1.below q18) (o18).rd lx l3 N19.out).mono ?_); rintro e y19 ⟨a19, d19, rfl, o19, g19⟩; have q19 := q18.trans (g19.mono q18.size); obtain ⟨s190, s191, s192, s193, s194, s195⟩ := HC.out y19 q19; clear s180 s181 s182 s183 s184 s185)
    | (go_at_call 39; (with_reducible refine (iadd_z b2 b3 ab ac cb cc ys zs y17 (HR.out.2.1.below q17) (HR.out.2.2.below q17) ly lz N18.out).mono ?_); rintro e y18 ⟨a18, d18, rfl, o18, g18⟩; have q18 := q17.trans (g18.mono q17.size); obtain ⟨s180, s181, s182, s183, s184, s185⟩ := HC.out y18 q18; clear s170 s171 s172 s173 s174 s175)
    | (go_at_call 35; (with_reducible refine (same2_any (decide (zmc < 0)) (decide (zmc < 0)) a14 a16 d14 d16 (nd zmc.natAbs) (nd zmc.natAbs) true y16 ((o14.below g15).below g16).rd (o16).rd (by simp)).mono ?_); rintro e y17 ⟨rfl, g17⟩; have q17 := q16.trans (g17.mono q16.size); obtain ⟨s170, s171, s172, s173, s174, s175⟩ := HC.out y17 q17; clear s160 s161 s162 s163 s164 s165)
    | (go_at_call 40; (with_reducible refine (imul_z b1 (decide (zmbc < 0)) aa a15 ca d15 xs (nd zmbc.natAbs) y15 (HR.out.1.below q15) (o15).rd lx l4 N16.out).mono ?_); rintro e y16 ⟨a16, d16, rfl, o16, g16⟩; have q16 := q15.trans (g16.mono q15.size); obtain ⟨s160, s161, s162, s163, s164, s165⟩ := HC.out y16 q16; clear s150 s151 s152 s153 s154 s155)
    | (go_at_call 40; (with_reducible refine (imul_z b2 b3 ab ac cb cc ys zs y14 (HR.out.2.1.below q14) (HR.out.2.2.below q14) ly lz N15.out).mono ?_); rintro e y15 ⟨a15, d15, rfl, o15, g15⟩; have q15 := q14.trans (g15.mono q14.size); obtain ⟨s150, s151, s152, s153, s154, s155⟩ := HC.out y15 q15; clear s140 s141 s142 s143 s144 s145)
    | (go_at_call 40; (with_reducible refine (imul_z (decide (zm < 0)) b3 a13 ac d13 cc (nd zm.natAbs) zs y13 (o13).rd (HR.out.2.2.below q13) l2 lz N14.out).mono ?_); rintro e y14 ⟨a14, d14, rfl, o14, g14⟩; have q14 := q13.trans (g14.mono q13.size); obtain ⟨s140, s141, s142, s143, s144, s145⟩ := HC.out y14 q14; clear s130 s131 s132 s133 s134 s135)
    | (go_at_call 40; (with_reducible refine (imul_z b1 b2 aa ab ca cb xs ys y12 (HR.out.1.below q12) (HR.out.2.1.below q12) lx ly N13.out).mono ?_); rintro e y13 ⟨a13, d13, rfl, o13, g13⟩; have q13 := q12.trans (g13.mono q12.size); obtain ⟨s130, s131, s132, s133, s134, s135⟩ := HC.out y13 q13; clear s120 s121 s122 s123 s124 s125)
    | (go_at_call 35; (with_reducible refine (same2_any (decide (zabc < 0)) (decide (zabc < 0)) a9 a11 d9 d11 (nd zabc.natAbs) (nd zabc.natAbs) true y11 ((o9.below g10).below g11).rd (o11).rd (by simp)).mono ?_); rintro e y12 ⟨rfl, g12⟩; have q12 := q11.trans (g12.mono q11.size); obtain ⟨s120, s121, s122, s123, s124, s125⟩ := HC.out y12 q12; clear s110 s111 s112 s113 s114 s115)
    | (go_at_call 39; (with_reducible refine (iadd_z b1 (decide (zbc < 0)) aa a10 ca d10 xs (nd zbc.natAbs) y10 (HR.out.1.below q10) (o10).rd lx l3 N11.out).mono ?_); rintro e y11 ⟨a11, d11, rfl, o11, g11⟩; have q11 := q10.trans (g11.mono q10.size); obtain ⟨s110, s111, s112, s113, s114, s115⟩ := HC.out y11 q11; clear s100 s101 s102 s103 s104 s105)
    | (go_at_call 39; (with_reducible refine (iadd_z b2 b3 ab ac cb cc ys zs y9 (HR.out.2.1.below q9) (HR.out.2.2.below q9) ly lz N10.out).mono ?_); rintro e y10 ⟨a10, d10, rfl, o10, g10⟩; have q10 := q9.trans (g10.mono q9.size); obtain ⟨s100, s101, s102, s103, s104, s105⟩ := HC.out y10 q10; clear s90 s91 s92 s93 s94 s95)
    | (go_at_call 39; (with_reducible refine (iadd_z (decide (zab < 0)) b3 a8 ac d8 cc (nd zab.natAbs) zs y8 (o8).rd (HR.out.2.2.below q8) l1 lz N9.out).mono ?_); rintro e y9 ⟨a9, d9, rfl, o9, g9⟩; have q9 := q8.trans (g9.mono q8.size); obtain ⟨s90, s91, s92, s93, s94, s95⟩ := HC.out y9 q9; clear s80 s81 s82 s83 s84 s85)
    | (go_at_call 39; (with_reducible refine (iadd_z b1 b2 aa ab ca cb xs ys y7 (HR.out.1.below q7) (HR.out.2.1.below q7) lx ly N8.out).mono ?_); rintro e y8 ⟨a8, d8, rfl, o8, g8⟩; have q8 := q7.trans (g8.mono q7.size); obtain ⟨s80, s81, s82, s83, s84, s85⟩ := HC.out y8 q8; clear s70 s71 s72 s73 s74 s75)
    | (go_at_call 35; (with_reducible refine (same2_any (decide (zm < 0)) (decide (zm < 0)) a5 a6 d5 d6 (nd zm.natAbs) (nd zm.natAbs) true y6 (o5.below g6).rd (o6).rd (by simp)).mono ?_); rintro e y7 ⟨rfl, g7⟩; have q7 := q6.trans (g7.mono q6.size); obtain ⟨s70, s71, s72, s73, s74, s75⟩ := HC.out y7 q7; clear s60 s61 s62 s63 s64 s65)
    | (go_at_call 40; (with_reducible refine (imul_z b2 b1 ab aa cb ca ys xs y5 (HR.out.2.1.below q5) (HR.out.1.below q5) ly lx N6.out).mono ?_); rintro e y6 ⟨a6, d6, rfl, o6, g6⟩; have q6 := q5.trans (g6.mono q5.size); obtain ⟨s60, s61, s62, s63, s64, s65⟩ := HC.out y6 q6; clear s50 s51 s52 s53 s54 s55)
    | (go_at_call 40; (with_reducible refine (imul_z b1 b2 aa ab ca cb xs ys y4 (HR.out.1.below q4) (HR.out.2.1.below q4) lx ly N5.out).mono ?_); rintro e y5 ⟨a5, d5, rfl, o5, g5⟩; have q5 := q4.trans (g5.mono q4.size); obtain ⟨s50, s51, s52, s53, s54, s55⟩ := HC.out y5 q5; clear s40 s41 s42 s43 s44 s45)
    | (go_at_call 35; (with_reducible refine (same2_any (decide (zab < 0)) (decide (zab < 0)) a2 a3 d2 d3 (nd zab.natAbs) (nd zab.natAbs) true y3 (o2.below g3).rd (o3).rd (by simp)).mono ?_); rintro e y4 ⟨rfl, g4⟩; have q4 := q3.trans (g4.mono q3.size); obtain ⟨s40, s41, s42, s43, s44, s45⟩ := HC.out y4 q4; clear s30 s31 s32 s33 s34 s35)
    | (go_at_call 39; (with_reducible refine (iadd_z b2 b1 ab aa cb ca ys xs y2 (HR.out.2.1.below q2) (HR.out.1.below q2) ly lx N3.out).mono ?_); rintro e y3 ⟨a3, d3, rfl, o3, g3⟩; have q3 := q2.trans (g3.mono q2.size); obtain ⟨s30, s31, s32, s33, s34, s35⟩ := HC.out y3 q3; clear s20 s21 s22 s23 s24 s25)
    | (go_at_call 39; (with_reducible refine (iadd_z b1 b2 aa ab ca cb xs ys y1 (HR.out.1.below q1) (HR.out.2.1.below q1) lx ly N2.out).mono ?_); rintro e y2 ⟨a2, d2, rfl, o2, g2⟩; have q2 := q1.trans (g2.mono q1.size); obtain ⟨s20, s21, s22, s23, s24, s25⟩ := HC.out y2 q2; clear s10 s11 s12 s13 s14 s15)
    | (go_at_call 32; (with_reducible refine (awake2_any w3.drew).mono ?_); rintro e y1 ⟨rfl, g1⟩; have q1 := kd.trans (g1.mono kd.size); obtain ⟨s10, s11, s12, s13, s14, s15⟩ := HC.out y1 q1; clear s0 s1 s2 s3 s4 s5))
  all_goals
    go_wp2
    go_ret
    exact ⟨rfl, HB.out.trans (q26.mono HB.out.size)⟩
end Go.Proofs.YtbcaigpdckencaaDoor
