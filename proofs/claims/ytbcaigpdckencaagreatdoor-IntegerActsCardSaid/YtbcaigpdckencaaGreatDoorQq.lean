/- Integers: Div, the walk. · Integers: Small at an integer of 64 bits in its canonical form. · Integers: Format of what is not negative; awake, the examples of the chapter. -/
import Derived.Test.YtbcaigpdckencaaGreatDoorQp
import Derived.Deep.RegionHeld3

namespace Go.Proofs.YtbcaigpdckencaaGreatDoor
open Go.RowKit Num

/-- the boxes of two arguments and of two results -/
def W4 (w : World) (b1 b2 : Bool) (aa ab : Option Addr) (n1 n2 ca cb : Nat) : World :=
  (((w.alloc (.cells #[.bool b1, .slice aa n1 ca] 24)).alloc (.cells #[.bool b2, .slice ab n2 cb] 24)).alloc (.cells #[.bool false, .slice none 0 0] 24)).alloc (.cells #[.bool false, .slice none 0 0] 24)
theorem W4_size (w : World) (b1 b2 : Bool) (aa ab : Option Addr) (n1 n2 ca cb : Nat) : (W4 w b1 b2 aa ab n1 n2 ca cb).heap.size = w.heap.size + 4 := by simp [W4]
theorem W4_of3 {w w' : World} {b1 b2 : Bool} {aa ab : Option Addr} {n1 n2 ca cb : Nat} (h : Below (W4 w b1 b2 aa ab n1 n2 ca cb).heap.size (W4 w b1 b2 aa ab n1 n2 ca cb) w') :
    Below (W3 w b1 b2 aa ab n1 n2 ca cb).heap.size (W3 w b1 b2 aa ab n1 n2 ca cb) w' := by
  have h1 := below_alloc (((w.alloc (.cells #[.bool b1, .slice aa n1 ca] 24)).alloc (.cells #[.bool b2, .slice ab n2 cb] 24)).alloc (.cells #[.bool false, .slice none 0 0] 24)) (.cells #[.bool false, .slice none 0 0] 24)
  have h2 := h1.trans (h.mono h1.size)
  exact ⟨h2.os, h2.tape, h2.output, h2.size, h2.block⟩
theorem W4_below (w : World) (b1 b2 : Bool) (aa ab : Option Addr) (n1 n2 ca cb : Nat) : Below w.heap.size w (W4 w b1 b2 aa ab n1 n2 ca cb) := by
  have h0 := W3_below w b1 b2 aa ab n1 n2 ca cb
  exact h0.trans ((W4_of3 (Below.refl _ _)).mono h0.size)
theorem W4_cells {w w' : World} {b1 b2 : Bool} {aa ab : Option Addr} {n1 n2 ca cb : Nat} (hb : Below (W4 w b1 b2 aa ab n1 n2 ca cb).heap.size (W4 w b1 b2 aa ab n1 n2 ca cb) w') :
    (w'.cell? ⟨w.heap.size, 0, none⟩ = some (.bool b1) ∧ w'.cell? ⟨w.heap.size, 1, none⟩ = some (.slice aa n1 ca) ∧ w'.cell? ⟨w.heap.size + 1, 0, none⟩ = some (.bool b2) ∧ w'.cell? ⟨w.heap.size + 1, 1, none⟩ = some (.slice ab n2 cb)) ∧
    (w'.cell? ⟨w.heap.size + 2, 0, none⟩ = some (.bool false) ∧ w'.cell? ⟨w.heap.size + 2, 1, none⟩ = some (.slice none 0 0) ∧ w'.frozen? ⟨w.heap.size + 2, 0, none⟩ = false ∧ w'.frozen? ⟨w.heap.size + 2, 1, none⟩ = false) ∧
    (w'.cell? ⟨w.heap.size + 3, 0, none⟩ = some (.bool false) ∧ w'.cell? ⟨w.heap.size + 3, 1, none⟩ = some (.slice none 0 0) ∧ w'.frozen? ⟨w.heap.size + 3, 0, none⟩ = false ∧ w'.frozen? ⟨w.heap.size + 3, 1, none⟩ = false) := by
  obtain ⟨h1, h2⟩ := W3_cells (W4_of3 hb)
  have e := heap_alloc_at (((w.alloc (.cells #[.bool b1, .slice aa n1 ca] 24)).alloc (.cells #[.bool b2, .slice ab n2 cb] 24)).alloc (.cells #[.bool false, .slice none 0 0] 24)) (.cells #[.bool false, .slice none 0 0] 24)
  rw [show (((w.alloc (.cells #[.bool b1, .slice aa n1 ca] 24)).alloc (.cells #[.bool b2, .slice ab n2 cb] 24)).alloc (.cells #[.bool false, .slice none 0 0] 24)).heap.size = w.heap.size + 3 by simp] at e
  exact ⟨h1, h2, pair_cells (W := W4 w b1 b2 aa ab n1 n2 ca cb) e hb⟩
/-- the results stand in their boxes -/
theorem RetIDiv.fin {B g1 g2 c1 c2 : Nat} {z1 z2 er : Int} {w w4 : World} {a1 a2 : Option Addr} (h1 : Own B w4 a1 c1 (nd z1.natAbs)) (h2 : Own B w4 a2 c2 (nd z2.natAbs)) (hg1 : g1 < B) (hg2 : g2 < B) (hb : Below w.heap.size w w4) (hw1 : w.heap.size ≤ g1) (hw2 : w.heap.size ≤ g2) (v0 v1 v2 v3 : Value) :
    RetIDiv w.heap.size z1 z2 er w (.returned (.tuple #[.agg #[.bool (decide (z1 < 0)), .slice a1 (nd z1.natAbs).length c1], .agg #[.bool (decide (z2 < 0)), .slice a2 (nd z2.natAbs).length c2], .int .i64 er]))
      ((((w4.setCell ⟨g1, 0, none⟩ v0).setCell ⟨g1, 1, none⟩ v1).setCell ⟨g2, 0, none⟩ v2).setCell ⟨g2, 1, none⟩ v3) := by
  have hk : ∀ {ao : Option Addr} {c : Nat} {xs : List Nat}, Own B w4 ao c xs → Own w.heap.size ((((w4.setCell ⟨g1, 0, none⟩ v0).setCell ⟨g1, 1, none⟩ v1).setCell ⟨g2, 0, none⟩ v2).setCell ⟨g2, 1, none⟩ v3) ao c xs := by
    intro ao c xs ho
    refine (ho.keep fun a ha => ?_).mono (by omega)
    subst ha
    have h1 : B ≤ a.block := ho.block.1
    rw [Below.heap_setCell _ ⟨g2, 1, none⟩ _ _ (show a.block ≠ g2 by omega), Below.heap_setCell _ ⟨g2, 0, none⟩ _ _ (show a.block ≠ g2 by omega), Below.heap_setCell _ ⟨g1, 1, none⟩ _ _ (show a.block ≠ g1 by omega), Below.heap_setCell _ ⟨g1, 0, none⟩ _ _ (show a.block ≠ g1 by omega)]
  exact ⟨a1, c1, a2, c2, rfl, hk h1, hk h2, (((hb.setCell (p := ⟨g1, 0, none⟩) hw1 _).setCell (p := ⟨g1, 1, none⟩) hw1 _).setCell (p := ⟨g2, 0, none⟩) hw2 _).setCell (p := ⟨g2, 1, none⟩) hw2 _⟩

set_option maxRecDepth 100000 in
set_option maxHeartbeats 1600000 in
theorem idiv_zero (b1 b2 : Bool) (aa ab : Option Addr) (ca cb : Nat) (xs ys : List Nat) (w : World) (ha : Rd w aa ca xs) (hb : Rd w ab cb ys) (h0 : val ys = 0) :
    Calls Tryz.prog 79 #[.agg #[.bool b1, .slice aa xs.length ca], .agg #[.bool b2, .slice ab ys.length cb]] w (RetIDiv w.heap.size 0 0 3 w) := by
  have hB := W4_below w b1 b2 aa ab xs.length ys.length ca cb
  have HD := hid (divmod_zero aa ab ca cb xs ys _ (ha.below hB) (hb.below hB) h0)
  have HC := hid (fun w' => W4_cells (w' := w') (w := w) (b1 := b1) (b2 := b2) (aa := aa) (ab := ab) (n1 := xs.length) (n2 := ys.length) (ca := ca) (cb := cb))
  have HSZ := hid (W4_size w b1 b2 aa ab xs.length ys.length ca cb)
  have HB := hid hB
  have hn0 : ¬ (w.heap.size + 1 + 1 = w.heap.size + 1 + 1 + 1) := by omega
  unfold W4 at HD HC HSZ HB
  clear ha hb hB h0
  go_enter Tryz.func79, Tryz.ntmps79
  go_wp2_with fail
  refine HD.out.mono ?_
  rintro e w3 ⟨ax, cx, ay, cy, rfl, hx3, hy3, hb3⟩
  obtain ⟨⟨s0, s1, s2, s3⟩, ⟨k0, k1, k2, k3⟩, k4, k5, k6, k7⟩ := HC.out w3 hb3
  have HB3 := hid (HB.out.trans (hb3.mono HB.out.size))
  have HS3 := hid hb3.size
  clear hx3 hy3 hb3
  go_wp2
  have hs3 := HS3.out
  have hsz := HSZ.out
  refine bodyPost_ret (v := .tuple #[.agg #[.bool false, .slice none 0 0], .agg #[.bool false, .slice none 0 0], .int .i64 3]) (by simp [results, Tryz.results79, go_sem, k0, k1, k4, k5]) rfl ?_
  have h := RetIDiv.fin (B := w3.heap.size) (g1 := w.heap.size + 2) (g2 := w.heap.size + 3) (c1 := 0) (c2 := 0) (z1 := 0) (z2 := 0) (er := 3) (w := w) (w4 := w3) (a1 := none) (a2 := none) (by rw [show nd (0 : Int).natAbs = [] from nd_zero]; exact Own.nil _ _) (by rw [show nd (0 : Int).natAbs = [] from nd_zero]; exact Own.nil _ _) (by omega) (by omega) HB3.out (by omega) (by omega) (.bool false) (.slice none 0 0) (.bool false) (.slice none 0 0)
  rw [show nd (0 : Int).natAbs = [] from nd_zero] at h
  exact h

set_option maxRecDepth 100000 in
set_option maxHeartbeats 3200000 in
theorem idiv_any (b1 b2 : Bool) (aa ab : Option Addr) (ca cb : Nat) (xs ys : List Nat) (w : World) (ha : Rd w aa ca xs) (hb : Rd w ab cb ys) (h0 : val ys ≠ 0) (hl1 : xs.length ≤ 4398046511104) (hl2 : ys.length ≤ 4398046511104) :
    Calls Tryz.prog 79 #[.agg #[.bool b1, .slice aa xs.length ca], .agg #[.bool b2, .slice ab ys.length cb]] w (RetIDiv w.heap.size (iv b1 (val xs) / iv b2 (val ys)) (iv b1 (val xs) % iv b2 (val ys)) 0 w) := by
  have hB := W4_below w b1 b2 aa ab xs.length ys.length ca cb
  have HD := hid (divmod_any aa ab ca cb xs ys _ (ha.below hB) (hb.below hB) h0 hl1)
  have HC := hid (fun w' => W4_cells (w' := w') (w := w) (b1 := b1) (b2 := b2) (aa := aa) (ab := ab) (n1 := xs.length) (n2 := ys.length) (ca := ca) (cb := cb))
  have HSZ := hid (W4_size w b1 b2 aa ab xs.length ys.length ca cb)
  have HB := hid hB
  have hn0 : ¬ (w.heap.size + 1 + 1 = w.heap.size + 1 + 1 + 1) := by omega
  have hlr : (nd (val xs % val ys)).length ≤ xs.length := Nat.le_trans (nd_length_mono (Nat.mod_le _ _)) (nd_length_le_of ha.dg)
  have hlq : (nd (val xs / val ys)).length ≤ xs.length := Nat.le_trans (nd_length_mono (Nat.div_le_self _ _)) (nd_length_le_of ha.dg)
  unfold W4 at HD HC HSZ HB
  by_cases hup : b1 = true ∧ val xs % val ys ≠ 0
  · obtain ⟨rfl, hne⟩ := hup
    have hu0 := idiv_up (b2 := b2) h0 hne
    rw [show (!(true == b2)) = !b2 by cases b2 <;> rfl] at hu0
    have HU := hid hu0
    clear hu0
    obtain ⟨q, hq⟩ : ∃ q, q = val xs / val ys := ⟨_, rfl⟩
    obtain ⟨r, hr⟩ : ∃ r, r = val xs % val ys := ⟨_, rfl⟩
    rw [← hq, ← hr] at HU HD
    rw [← hr] at hne hlr
    rw [← hq] at hlq
    have hrp : 0 < (nd r).length := Nat.pos_of_ne_zero fun h => hne (nd_eq_nil.1 (List.eq_nil_of_length_eq_zero h))
    have hg : decide (((nd r).length : Int) > 0) = true := decide_eq_true (by omega)
    have HRB := hid hb
    clear ha hb hB h0 hq hr hne
    go_enter Tryz.func79, Tryz.ntmps79
    go_wp2_with fail
    (with_reducible refine HD.out.mono ?_)
    rintro e w3 ⟨ax, cx, ay, cy, rfl, hx3, hy3, hb3⟩
    obtain ⟨⟨s0, s1, s2, s3⟩, _, _⟩ := HC.out w3 hb3
    have hone := Own.one w3 w3.heap.size 1 (Nat.le_refl _) (by omega)
    have hba := below_alloc w3 (.cells #[.int .u32 ((1 : Nat) : Int)] 62)
    have hadd := add_any ax _ cx 1 (nd q) [1] _ (hx3.below hba).rd hone.rd (by omega) (by simp)
    rw [val_nd, show val [1] = 1 by simp [val]] at hadd
    have hb3a := hb3.trans (hba.mono hb3.size)
    have hy3a := hy3.below hba
    have HADD := hid hadd
    have H3 := hid (And.intro hb3a hy3a)
    clear hadd hone hba hx3 hy3 hb3 hb3a hy3a
    go_wp2_with fail
    refine HADD.out.mono ?_
    rintro e w5 ⟨a5, c5, rfl, ho5, hb5⟩
    have hb05 := H3.out.1.trans (hb5.mono H3.out.1.size)
    obtain ⟨⟨t0, t1, t2, t3⟩, _, _⟩ := HC.out w5 hb05
    have hsub := sub_any ab ay cb cy ys (nd r) w5 (HRB.out.below (HB.out.trans (hb05.mono HB.out.size))) (H3.out.2.below hb5).rd (by omega) (by omega)
    rw [val_nd] at hsub
    have H5 := hid (And.intro (ho5.mono (H3.out.1.size)) hb05)
    have HSUB := hid hsub
    clear ho5 hb5 hb05 hsub s0 s1 s2 s3
    go_wp2_with fail
    (with_reducible refine HSUB.out.mono ?_)
    rintro e w6 ⟨a6, c6, rfl, ho6, hb6⟩
    have hb06 := H5.out.2.trans (hb6.mono H5.out.2.size)
    obtain ⟨⟨u0, u1, u2, u3⟩, _, _⟩ := HC.out w6 hb06
    have hs1 := signed_any _ (!b2) a5 c5 (q + 1) w6 (H5.out.1.below hb6)
    rw [← HU.out.1] at hs1
    have H6 := hid (And.intro (ho6.mono H5.out.2.size) hb06)
    have HS1 := hid hs1
    clear ho6 hb6 hb06 hs1 t0 t1 t2 t3
    go_wp2_with fail
    (with_reducible refine HS1.out.mono ?_)
    rintro e w7 ⟨a7, c7, rfl, ho7, hb7⟩
    have hb07 := H6.out.2.trans (hb7.mono H6.out.2.size)
    have hs2 := signed_any _ false a6 c6 (val ys - r) w7 (H6.out.1.below hb7)
    rw [← HU.out.2] at hs2
    have H7 := hid (And.intro ho7 hb07)
    have HS2 := hid hs2
    clear ho7 hb7 hb07 hs2 u0 u1 u2 u3
    go_wp2_with fail
    (with_reducible refine HS2.out.mono ?_)
    rintro e w8 ⟨a8, c8, rfl, ho8, hb8⟩
    have hb08 := H7.out.2.trans (hb8.mono H7.out.2.size)
    obtain ⟨_, ⟨k0, k1, k2, k3⟩, k4, k5, k6, k7⟩ := HC.out w8 hb08
    have H8 := hid (And.intro (H7.out.1.below hb8) (And.intro ho8 (HB.out.trans (hb08.mono HB.out.size))))
    clear ho8 hb8 hb08
    go_wp2
    have hsz := HSZ.out
    refine bodyPost_ret (v := .tuple #[.agg #[.bool (decide (iv true (val xs) / iv b2 (val ys) < 0)), .slice a7 (nd (iv true (val xs) / iv b2 (val ys)).natAbs).length c7], .agg #[.bool (decide (iv true (val xs) % iv b2 (val ys) < 0)), .slice a8 (nd (iv true (val xs) % iv b2 (val ys)).natAbs).length c8], .int .i64 0]) (by simp [results, Tryz.results79, go_sem, k0, k1, k4, k5]) rfl ?_
    exact RetIDiv.fin H8.out.1 H8.out.2.1 (by omega) (by omega) H8.out.2.2 (by omega) (by omega) _ _ _ _
  · have HU := hid (idiv_plain (b1 := b1) (b2 := b2) (x := val xs) (y := val ys) h0 (by
      cases b1
      · exact Or.inl rfl
      · exact Or.inr (Classical.byContradiction fun h => hup ⟨rfl, h⟩)))
    obtain ⟨q, hq⟩ : ∃ q, q = val xs / val ys := ⟨_, rfl⟩
    obtain ⟨r, hr⟩ : ∃ r, r = val xs % val ys := ⟨_, rfl⟩
    rw [← hq, ← hr] at HU HD
    rw [← hr] at hup
    have hg : b1 = true → decide (((nd r).length : Int) > 0) = false := by
      intro hb1
      have : r = 0 := Classical.byContradiction fun h => hup ⟨hb1, h⟩
      rw [this, nd_zero]; simp
    clear ha hb hB h0 hq hr hup hlr hlq
    cases b1
    · clear hg
      have hu0 := HU.out
      rw [show (!(false == b2)) = b2 by cases b2 <;> rfl] at hu0
      clear HU
      have HU := hid hu0
      clear hu0
      go_enter Tryz.func79, Tryz.ntmps79
      go_wp2_with fail
      (with_reducible refine HD.out.mono ?_)
      rintro e w3 ⟨ax, cx, ay, cy, rfl, hx3, hy3, hb3⟩
      obtain ⟨⟨s0, s1, s2, s3⟩, _, _⟩ := HC.out w3 hb3
      have hs1 := signed_any _ b2 ax cx q w3 hx3
      rw [← HU.out.1] at hs1
      have H3 := hid (And.intro hy3 hb3)
      have HS1 := hid hs1
      clear hx3 hy3 hb3 hs1
      go_wp2_with fail
      (with_reducible refine HS1.out.mono ?_)
      rintro e w7 ⟨a7, c7, rfl, ho7, hb7⟩
      have hb07 := H3.out.2.trans (hb7.mono H3.out.2.size)
      have hs2 := signed_any _ false ay cy r w7 (H3.out.1.below hb7)
      rw [← HU.out.2] at hs2
      have H7 := hid (And.intro ho7 hb07)
      have HS2 := hid hs2
      clear ho7 hb7 hb07 hs2 s0 s1 s2 s3
      go_wp2_with fail
      (with_reducible refine HS2.out.mono ?_)
      rintro e w8 ⟨a8, c8, rfl, ho8, hb8⟩
      have hb08 := H7.out.2.trans (hb8.mono H7.out.2.size)
      obtain ⟨_, ⟨k0, k1, k2, k3⟩, k4, k5, k6, k7⟩ := HC.out w8 hb08
      have H8 := hid (And.intro (H7.out.1.below hb8) (And.intro ho8 (HB.out.trans (hb08.mono HB.out.size))))
      clear ho8 hb8 hb08
      go_wp2
      have hsz := HSZ.out
      refine bodyPost_ret (v := .tuple #[.agg #[.bool (decide (iv false (val xs) / iv b2 (val ys) < 0)), .slice a7 (nd (iv false (val xs) / iv b2 (val ys)).natAbs).length c7], .agg #[.bool (decide (iv false (val xs) % iv b2 (val ys) < 0)), .slice a8 (nd (iv false (val xs) % iv b2 (val ys)).natAbs).length c8], .int .i64 0]) (by simp [results, Tryz.results79, go_sem, k0, k1, k4, k5]) rfl ?_
      exact RetIDiv.fin H8.out.1 H8.out.2.1 (by omega) (by omega) H8.out.2.2 (by omega) (by omega) _ _ _ _
    · obtain rfl : r = 0 := by
        have h := of_decide_eq_false (hg rfl)
        exact nd_eq_nil.1 (List.eq_nil_of_length_eq_zero (by omega))
      rw [nd_zero] at HD
      clear hg
      have hu0 := HU.out
      rw [show (!(true == b2)) = (!b2) by cases b2 <;> rfl] at hu0
      clear HU
      have HU := hid hu0
      clear hu0
      go_enter Tryz.func79, Tryz.ntmps79
      go_wp2_with fail
      (with_reducible refine HD.out.mono ?_)
      rintro e w3 ⟨ax, cx, ay, cy, rfl, hx3, hy3, hb3⟩
      obtain ⟨⟨s0, s1, s2, s3⟩, _, _⟩ := HC.out w3 hb3
      have hs1 := signed_any _ (!b2) ax cx q w3 hx3
      rw [← HU.out.1] at hs1
      have H3 := hid (And.intro hy3 hb3)
      have HS1 := hid hs1
      clear hx3 hy3 hb3 hs1
      go_wp2_with fail
      (with_reducible refine HS1.out.mono ?_)
      rintro e w7 ⟨a7, c7, rfl, ho7, hb7⟩
      have hb07 := H3.out.2.trans (hb7.mono H3.out.2.size)
      have hs2 := signed_any _ false ay cy 0 w7 (by rw [nd_zero]; exact H3.out.1.below hb7)
      rw [← HU.out.2, nd_zero] at hs2
      have H7 := hid (And.intro ho7 hb07)
      have HS2 := hid hs2
      clear ho7 hb7 hb07 hs2 s0 s1 s2 s3
      go_wp2_with fail
      refine HS2.out.mono ?_
      rintro e w8 ⟨a8, c8, rfl, ho8, hb8⟩
      have hb08 := H7.out.2.trans (hb8.mono H7.out.2.size)
      obtain ⟨_, ⟨k0, k1, k2, k3⟩, k4, k5, k6, k7⟩ := HC.out w8 hb08
      have H8 := hid (And.intro (H7.out.1.below hb8) (And.intro ho8 (HB.out.trans (hb08.mono HB.out.size))))
      clear ho8 hb8 hb08
      go_wp2
      have hsz := HSZ.out
      refine bodyPost_ret (v := .tuple #[.agg #[.bool (decide (iv true (val xs) / iv b2 (val ys) < 0)), .slice a7 (nd (iv true (val xs) / iv b2 (val ys)).natAbs).length c7], .agg #[.bool (decide (iv true (val xs) % iv b2 (val ys) < 0)), .slice a8 (nd (iv true (val xs) % iv b2 (val ys)).natAbs).length c8], .int .i64 0]) (by simp [results, Tryz.results79, go_sem, k0, k1, k4, k5]) rfl ?_
      exact RetIDiv.fin H8.out.1 H8.out.2.1 (by omega) (by omega) H8.out.2.2 (by omega) (by omega) _ _ _ _
end Go.Proofs.YtbcaigpdckencaaGreatDoor

namespace Go.Proofs.YtbcaigpdckencaaGreatDoor
open Go.RowKit Num

theorem or_join (k S x t : Nat) (hk : k ≤ 1) (hS : S < 4294967296 ^ k) (hx : x < 4294967296) (ht : t = S + x * 4294967296 ^ k) :
    bits BinOp.or IntKind.u64 (S : Int) ((x * 4294967296 ^ k : Nat) : Int) = (t : Int) ∧ t < 18446744073709551616 := by
  rcases (by omega : k = 0 ∨ k = 1) with rfl | rfl
  · simp only [Nat.pow_zero, Nat.mul_one] at hS ht ⊢
    have h := or_low 0 S x (by omega) (Nat.mod_one _) (by omega) (by omega)
    rw [h, ht]; exact ⟨rfl, by omega⟩
  · simp only [Nat.pow_one] at hS ht ⊢
    have h := or_low 32 S (x * 4294967296) (by omega) (Nat.mul_mod_left _ _) (by omega) (by omega)
    rw [h, ht]; exact ⟨rfl, by omega⟩

set_option maxRecDepth 100000 in
set_option maxHeartbeats 1600000 in
theorem Small_any (n : Int) (ao : Option Addr) (c : Nat) (w : World) (h : Rd w ao c (nd n.natAbs)) (h1 : -9223372036854775808 ≤ n) (h2 : n ≤ 9223372036854775807) :
    Calls Tryz.prog 10 #[.agg #[.bool (decide (n < 0)), .slice ao (nd n.natAbs).length c]] w fun e w' => e = .returned (.tuple #[.int .i64 n, .bool true]) ∧ Below w.heap.size w w' := by
  obtain ⟨b, hb⟩ : ∃ b, b = decide (n < 0) := ⟨_, rfl⟩
  obtain ⟨m, hm⟩ : ∃ m, m = n.natAbs := ⟨_, rfl⟩
  rw [← hb, ← hm]
  rw [← hm] at h
  have hml : m ≤ 9223372036854775808 := by omega
  have hlen : (nd m).length ≤ 2 := nd_length_le (by rw [show (4294967296 : Nat) ^ 2 = 18446744073709551616 from rfl]; omega)
  obtain ⟨ds, hds⟩ : ∃ ds, ds = nd m := ⟨_, rfl⟩
  have hvd : val ds = m := by rw [hds, val_nd]
  rw [← hds] at h hlen ⊢
  have hle := h.le
  have hcm := h.cm
  have hdw := h.dg
  have hba := below_alloc w (.cells #[.bool b, .slice ao ds.length c] 24)
  have hrd := h.below hba
  have hbl := bitlen_any ao c ds _ hrd (by omega)
  rw [hvd] at hbl
  have hb64 : blen m ≤ 64 := blen_u64 (by omega)
  obtain ⟨B, hB⟩ : ∃ B, B = blen m := ⟨_, rfl⟩
  rw [← hB] at hbl hb64
  have HA := hid hba
  have HV := hid hvd
  have HN := hid (And.intro hb hm)
  clear hb hm hds hvd hB h
  go_enter Tryz.func10, Tryz.ntmps10
  go_wp2_with fail
  refine hbl.mono ?_
  rintro e w' ⟨rfl, rfl⟩
  have hx1 := heap_alloc_at w (.cells #[.bool b, .slice ao ds.length c] 24)
  obtain ⟨s0, s1, _, _⟩ := pair_cells (W := w.alloc (.cells #[.bool b, .slice ao ds.length c] 24)) hx1 (Below.refl _ _)
  clear hbl hba hx1
  generalize w.alloc (.cells #[.bool b, .slice ao ds.length c] 24) = w1 at HA hrd s0 s1 ⊢
  have hb64' : ¬ (64 < (B : Int)) := by omega
  go_wp2_with fail
  go_loopw [4, 14] (fun sv kv wr => ∃ (k S : Nat) (K : Int), k ≤ ds.length ∧ kv = .int .i64 K ∧ Hid (K = (k : Int)) ∧ sv = .int .u64 (S : Int) ∧ S < 18446744073709551616 ∧ Hid (S = val (ds.take k)) ∧ wr = w1) (fun _ kv _ => ds.length - (intOf kv).toNat)
  case atStart => exact ⟨0, 0, 0, Nat.zero_le _, rfl, rfl, rfl, by omega, by simp [Hid, val], rfl⟩
  case round =>
    obtain ⟨k, S, K, hk, rfl, HK, rfl, hSl, HS, rfl⟩ := hrel
    by_cases hlt : k < ds.length
    · rcases hrd.lies with h9 | ⟨b1, o1, rfl, hc1⟩
      · simp [h9] at hlt
      have g1 := hc1 k hlt
      obtain ⟨x, hx⟩ : ∃ x, x = ds.getD k 0 := ⟨_, rfl⟩
      rw [← hx] at g1
      have hxl : x < 4294967296 := by rw [hx]; exact wf_getD hdw k
      have hSk : S < 4294967296 ^ k := by rw [HS.out]; exact val_take_lt hdw k
      obtain ⟨t, ht⟩ : ∃ t, t = S + x * 4294967296 ^ k := ⟨_, rfl⟩
      have hor := or_join k S x t (by omega) hSk hxl ht
      have HT := hid (show t = val (ds.take (k + 1)) by rw [val_take_getD, ← hx, ← HS.out, ht, Nat.mul_comm])
      clear hc1 hx ht
      rcases (by omega : k = 0 ∨ k = 1) with hk0 | hk0
      · obtain rfl : K = 0 := by have := HK.out; omega
        subst hk0
        simp only [Nat.pow_zero, Nat.mul_one] at hor
        rw [Nat.add_zero] at g1
        obtain ⟨hor1, hor2⟩ := hor
        have hki : (0 : Int) < (ds.length : Int) := by omega
        clear HK hk
        go_wp2
        exact ⟨⟨1, t, 1, by omega, rfl, rfl, rfl, hor2, HT.out, trivial⟩, by simp [intOf]; omega⟩
      · obtain rfl : K = 1 := by have := HK.out; omega
        subst hk0
        simp only [Nat.pow_one] at hor
        obtain ⟨hor1, hor2⟩ := hor
        have hki : (1 : Int) < (ds.length : Int) := by omega
        clear HK hk
        go_wp2
        exact ⟨⟨2, t, 2, by omega, rfl, rfl, int_eq (by simpa using hor1), hor2, HT.out, trivial⟩, by simp [intOf]; omega⟩
    · obtain rfl : k = ds.length := by omega
      obtain rfl : K = (ds.length : Int) := HK.out
      have hS : S = m := by rw [HS.out, List.take_length, HV.out]
      subst hS
      have hke : ¬ ((ds.length : Int) < (ds.length : Int)) := by omega
      obtain ⟨Z, hZ⟩ : ∃ Z : Int, Z = (S : Int) := ⟨_, rfl⟩
      have hn := HN.out
      rw [← hZ]
      have hZ0 : 0 ≤ Z := by omega
      have hZ1 : Z ≤ 9223372036854775808 := by omega
      cases b
      · have hnn : 0 ≤ n := by have := of_decide_eq_false hn.1.symm; omega
        have hle2 : Z ≤ 9223372036854775807 := by omega
        obtain rfl : n = Z := by omega
        clear hn HN hZ
        go_wp2
        go_ret2
        exact ⟨rfl, HA.out⟩
      · have hnn : n < 0 := of_decide_eq_true hn.1.symm
        by_cases hmin : Z = 9223372036854775808
        · obtain rfl : n = -9223372036854775808 := by omega
          subst hmin
          clear hn HN hZ
          go_wp2
          go_ret2
          exact ⟨rfl, HA.out⟩
        · have hle2 : Z ≤ 9223372036854775807 := by omega
          obtain rfl : n = -Z := by omega
          clear hn HN hZ hmin
          go_wp2
          go_ret2
          exact ⟨rfl, HA.out⟩
end Go.Proofs.YtbcaigpdckencaaGreatDoor

namespace Go.Proofs.YtbcaigpdckencaaGreatDoor
open Go.RowKit Num

theorem iv_self (z : Int) : iv (decide (z < 0)) z.natAbs = z := by
  unfold iv
  by_cases h : z < 0
  · rw [if_pos (decide_eq_true h)]; omega
  · rw [if_neg (by simp [h])]; omega

set_option maxRecDepth 100000 in
theorem iformat_nn (b : Bool) (ao : Option Addr) (c : Nat) (xs : List Nat) (w : World) (h : Rd w ao c xs) (hl : xs.length ≤ 1073741824) (hn : ¬ iv b (val xs) < 0) :
    Calls Tryz.prog 82 #[.agg #[.bool b, .slice ao xs.length c]] w (RetFmt (val xs) w) := by
  have hba := below_alloc w (.cells #[.bool b, .slice ao xs.length c] 24)
  have hx1 := heap_alloc_at w (.cells #[.bool b, .slice ao xs.length c] 24)
  have HF := hid (format_any ao c xs _ (h.below hba) hl)
  have HP := hid (fun w' => pair_cells (w' := w') hx1)
  have HI := hid (fun w' (hb : Below w.heap.size w w') => isNegative_any b ao c xs w' (h.below hb) (by omega) false (by simp; omega))
  have HA := hid hba
  clear h hba hx1 hn
  go_enter Tryz.func82, Tryz.ntmps82
  go_wp2_with fail
  refine HF.out.mono ?_
  rintro e w3 ⟨rfl, hb3⟩
  obtain ⟨s0, s1, _, _⟩ := HP.out w3 hb3
  have hb03 := HA.out.trans (hb3.mono HA.out.size)
  have hi := HI.out w3 hb03
  clear hb3
  go_wp2_with fail
  refine hi.mono ?_
  rintro e w4 ⟨rfl, hb4⟩
  have HB := hid (hb03.trans (hb4.mono hb03.size))
  clear hi hb03 hb4 s0 s1
  go_wp2
  go_ret
  exact ⟨rfl, HB.out⟩

set_option maxRecDepth 100000 in
set_option maxHeartbeats 3200000 in
theorem awake2_any (w : World) : Calls Tryz.prog 9 #[] w (RetB (.bool true) w) := by
  obtain ⟨z7, h7⟩ : ∃ z : Int, z = 7 := ⟨_, rfl⟩
  obtain ⟨z2, h2⟩ : ∃ z : Int, z = -2 := ⟨_, rfl⟩
  obtain ⟨zq, hq⟩ : ∃ z : Int, z = -3 := ⟨_, rfl⟩
  obtain ⟨zr, hr⟩ : ∃ z : Int, z = 1 := ⟨_, rfl⟩
  obtain ⟨z5, h5⟩ : ∃ z : Int, z = -5 := ⟨_, rfl⟩
  have C7 := hid (fun w => (by rw [h7]; exact of_nn 7 w (by omega) (by omega) : Calls Tryz.prog 80 #[.int .i64 7] w (RetInt w.heap.size z7 w)))
  have C2 := hid (fun w => (by rw [h2]; exact of_neg (-2) w (by omega) (by omega) : Calls Tryz.prog 80 #[.int .i64 (-2)] w (RetInt w.heap.size z2 w)))
  have C5 := hid (fun w => (by rw [h5]; exact of_neg (-5) w (by omega) (by omega) : Calls Tryz.prog 80 #[.int .i64 (-5)] w (RetInt w.heap.size z5 w)))
  have CM := hid (fun w => (of_neg (-9223372036854775808) w (by omega) (by omega) : Calls Tryz.prog 80 #[.int .i64 (-9223372036854775808)] w (RetInt w.heap.size (-9223372036854775808) w)))
  have R3 := hid (fun w => (by rw [hq]; exact rof_neg (-3) w (by omega) (by omega) : Calls Tryz.prog 81 #[.int .i64 (-3)] w (RetInt w.heap.size zq w)))
  have R1 := hid (fun w => (by rw [hr]; exact rof_nn 1 w (by omega) (by omega) : Calls Tryz.prog 81 #[.int .i64 1] w (RetInt w.heap.size zr w)))
  have HQ := hid (show z7 / z2 = zq ∧ z7 % z2 = zr ∧ sgn z5 = -1 ∧ z2 ≠ 0 by rw [h7, h2, hq, hr, h5]; exact ⟨by decide, by decide, by decide, by decide⟩)
  have HS := hid (And.intro h7 h2)
  have hl5 : (nd z5.natAbs).length ≤ 17592186044416 := Nat.le_trans (nd_length_le (k := 1) (by rw [h5]; decide)) (by omega)
  have CS := hid (fun (w : World) (a : Option Addr) (c : Nat) (h : Rd w a c (nd z5.natAbs)) => (by
    have h1 := Sign_any (decide (z5 < 0)) a c (nd z5.natAbs) w h hl5
    rw [val_nd, iv_self, HQ.out.2.2.1] at h1
    exact h1 : Calls Tryz.prog 14 #[.agg #[.bool (decide (z5 < 0)), .slice a (nd z5.natAbs).length c]] w (RetB (.int .i64 (-1)) w)))
  clear hl5
  have CF := hid (fun (y : World) => (by
    have h1 := iformat_nn true (some ⟨y.heap.size, 0, none⟩) 1 [0] (y.alloc (.cells #[.int .u32 ((0 : Nat) : Int)] 62)) (Own.one y y.heap.size 0 (Nat.le_refl _) (by omega)).rd (by simp) (by simp [iv, val])
    have e : fmtS (val [0]) = (⟨#[48]⟩ : ByteArray) := by
      rw [show val [0] = 0 by simp [val], fmtS, decT, if_pos rfl]; rfl
    exact h1.mono (fun e' w' h => ⟨by rw [h.1, e], h.2⟩) : Calls Tryz.prog 82 #[.agg #[.bool true, .slice (some ⟨y.heap.size, 0, none⟩) 1 1]] (y.alloc (.cells #[.int .u32 0] 62)) (RetB (.string ⟨#[48]⟩) (y.alloc (.cells #[.int .u32 0] 62)))))
  clear h7 h2 hq hr h5
  go_enter Tryz.func9, Tryz.ntmps9
  go_wp2_with fail
  refine (C7.out _).mono ?_
  rintro e w1 ⟨a1, c1, rfl, ho1, hb1⟩
  go_wp2_with fail
  refine (C2.out _).mono ?_
  rintro e w2 ⟨a2, c2, rfl, ho2, hb2⟩
  have hb02 := hb1.trans (hb2.mono hb1.size)
  have hv2 : val (nd z2.natAbs) ≠ 0 := by rw [val_nd]; have := HQ.out.2.2.2; omega
  have hl1 : (nd z7.natAbs).length ≤ 4398046511104 := Nat.le_trans (nd_length_le (k := 1) (by rw [HS.out.1]; decide)) (by omega)
  have hl2 : (nd z2.natAbs).length ≤ 4398046511104 := Nat.le_trans (nd_length_le (k := 1) (by rw [HS.out.2]; decide)) (by omega)
  have hd := idiv_any (decide (z7 < 0)) (decide (z2 < 0)) a1 a2 c1 c2 (nd z7.natAbs) (nd z2.natAbs) w2 (ho1.below hb2).rd ho2.rd hv2 hl1 hl2
  rw [val_nd, val_nd, iv_self, iv_self, HQ.out.1, HQ.out.2.1] at hd
  have HB2 := hid hb02
  clear ho1 hb1 ho2 hb2 hb02 hv2
  go_wp2_with fail
  refine hd.mono ?_
  rintro e w3 ⟨aq, cq, ar, cr, rfl, hq3, hr3, hb3⟩
  have hb03 := HB2.out.trans (hb3.mono HB2.out.size)
  clear hd hb3
  have HQR := hid (And.intro hq3 hr3)
  have HB3 := hid hb03
  clear hq3 hr3 hb03
  go_wp2_with fail
  have hbq := below_alloc w3 (.cells #[.bool (decide (zq < 0)), .slice aq (nd zq.natAbs).length cq] 24)
  have hxq := heap_alloc_at w3 (.cells #[.bool (decide (zq < 0)), .slice aq (nd zq.natAbs).length cq] 24)
  have hzq : (w3.alloc (.cells #[.bool (decide (zq < 0)), .slice aq (nd zq.natAbs).length cq] 24)).heap.size = w3.heap.size + 1 := by simp
  have hbr := below_alloc (w3.alloc (.cells #[.bool (decide (zq < 0)), .slice aq (nd zq.natAbs).length cq] 24)) (.cells #[.bool (decide (zr < 0)), .slice ar (nd zr.natAbs).length cr] 24)
  have hxr := heap_alloc_at (w3.alloc (.cells #[.bool (decide (zq < 0)), .slice aq (nd zq.natAbs).length cq] 24)) (.cells #[.bool (decide (zr < 0)), .slice ar (nd zr.natAbs).length cr] 24)
  rw [hzq] at hxr
  have hxq2 := (hbr.block w3.heap.size (by omega)).trans hxq
  have hb05 := (HB3.out.trans (hbq.mono HB3.out.size)).trans (hbr.mono (by have := HB3.out.size; omega))
  have hq5 := (HQR.out.1.below hbq).below hbr
  have hr5 := (HQR.out.2.below hbq).below hbr
  generalize (w3.alloc (.cells #[.bool (decide (zq < 0)), .slice aq (nd zq.natAbs).length cq] 24)).alloc (.cells #[.bool (decide (zr < 0)), .slice ar (nd zr.natAbs).length cr] 24) = w5 at hxr hxq2 hb05 hq5 hr5 ⊢
  have HP5 := hid (fun w' (hb : Below w5.heap.size w5 w') => And.intro (pair_cells hxq2 hb) (pair_cells hxr hb))
  have H5 := hid (And.intro hb05 (And.intro hq5 hr5))
  clear hbq hxq hzq hbr hxr hxq2 hb05 hq5 hr5
  refine (CM.out _).mono ?_
  rintro e w6 ⟨am, cm, rfl, hm6, hb6⟩
  have hsm := Small_any (-9223372036854775808) am cm w6 hm6.rd (by omega) (by omega)
  have HB6 := hid hb6
  clear hm6 hb6
  go_wp2_with fail
  refine hsm.mono ?_
  rintro e w7 ⟨rfl, hb7⟩
  have hb57 := HB6.out.trans (hb7.mono HB6.out.size)
  have HB7 := hid hb57
  obtain ⟨⟨s0, s1, _, _⟩, s2, s3, _, _⟩ := HP5.out w7 hb57
  clear hsm hb7 hb57
  have k0 : Below w5.heap.size w5 w7.drew := HB7.out.drew
  have z0 : (0 : Int) = 0 := rfl
  go_wp2_with fail
  go_region_held3 (fun w' => w'.cell? ⟨w3.heap.size, 0, none⟩ = some (.bool (decide (zq < 0))) ∧ w'.cell? ⟨w3.heap.size, 1, none⟩ = some (.slice aq (nd zq.natAbs).length cq) ∧ w'.cell? ⟨w3.heap.size + 1, 0, none⟩ = some (.bool (decide (zr < 0))) ∧ w'.cell? ⟨w3.heap.size + 1, 1, none⟩ = some (.slice ar (nd zr.natAbs).length cr)) (go_keep) (first
    | (go_at_call 81; (with_reducible refine (R3.out w7.drew).mono ?_); rintro e y1 ⟨b1, d1, rfl, p1, e1⟩; have k1 := k0.trans (e1.mono k0.size); obtain ⟨⟨t0, t1, _, _⟩, t2, t3, _, _⟩ := HP5.out y1 k1)
    | (go_at_call 18; (with_reducible refine (same2_any (decide (zq < 0)) (decide (zq < 0)) aq b1 cq d1 (nd zq.natAbs) (nd zq.natAbs) true y1 (H5.out.2.1.below k1).rd p1.rd (by simp)).mono ?_); rintro e y2 ⟨rfl, e2⟩; have k2 := k1.trans (e2.mono k1.size); obtain ⟨⟨t4, t5, _, _⟩, t6, t7, _, _⟩ := HP5.out y2 k2)
    | (go_at_call 81; (with_reducible refine (R1.out y2).mono ?_); rintro e y3 ⟨b3, d3, rfl, p3, e3⟩; have k3 := k2.trans (e3.mono k2.size); obtain ⟨⟨u0, u1, _, _⟩, u2, u3, _, _⟩ := HP5.out y3 k3)
    | (go_at_call 18; (with_reducible refine (same2_any (decide (zr < 0)) (decide (zr < 0)) ar b3 cr d3 (nd zr.natAbs) (nd zr.natAbs) true y3 (H5.out.2.2.below k3).rd p3.rd (by simp)).mono ?_); rintro e y4 ⟨rfl, e4⟩; have k4 := k3.trans (e4.mono k3.size); obtain ⟨⟨u4, u5, _, _⟩, u6, u7, _, _⟩ := HP5.out y4 k4)
    | (go_at_call 82; (refine (CF.out y4).mono ?_); rintro e y5 ⟨rfl, e5⟩; have k5 := (k4.trans ((below_alloc y4 (.cells #[.int .u32 0] 62)).mono k4.size)).trans (e5.mono (Nat.le_trans k4.size (below_alloc y4 (.cells #[.int .u32 0] 62)).size)); obtain ⟨⟨v0, v1, _, _⟩, v2, v3, _, _⟩ := HP5.out y5 k5)
    | (go_at_call 80; (with_reducible refine (C5.out y5).mono ?_); rintro e y6 ⟨b6, d6, rfl, p6, e6⟩; have k6 := k5.trans (e6.mono k5.size); obtain ⟨⟨v4, v5, _, _⟩, v6, v7, _, _⟩ := HP5.out y6 k6)
    | (go_at_call 14; (with_reducible refine (CS.out y6 b6 d6 p6.rd).mono ?_); rintro e y7 ⟨rfl, e7⟩; have k7 := k6.trans (e7.mono k6.size); obtain ⟨⟨x0, x1, _, _⟩, x2, x3, _, _⟩ := HP5.out y7 k7))
  all_goals
    go_wp2
    go_ret
    exact ⟨rfl, H5.out.1.trans (k7.mono H5.out.1.size)⟩
end Go.Proofs.YtbcaigpdckencaaGreatDoor
