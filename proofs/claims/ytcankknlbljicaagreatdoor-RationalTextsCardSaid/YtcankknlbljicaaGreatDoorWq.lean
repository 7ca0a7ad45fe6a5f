/-  -/
import Derived.Test.YtcankknlbljicaaGreatDoorWp

set_option linter.unusedVariables false
set_option linter.unusedSimpArgs false
set_option linter.unusedSectionVars false
set_option maxRecDepth 100000
set_option maxHeartbeats 3200000

namespace Go.Proofs.YtcankknlbljicaaGreatDoor
open Go.RowKit Num

def W4 (w : World) (b1 b2 : Bool) (aa ab : Option Addr) (n1 n2 ca cb : Nat) : World :=
 (((w.alloc (.cells #[.bool b1, .slice aa n1 ca] 24)).alloc (.cells #[.bool b2, .slice ab n2 cb] 24)).alloc (.cells #[.bool false, .slice none 0 0] 24)).alloc (.cells #[.bool false, .slice none 0 0] 24)
theorem W4_size (w : World) (b1 b2 : Bool) (aa ab : Option Addr) (n1 n2 ca cb : Nat) : (W4 w b1 b2 aa ab n1 n2 ca cb).heap.size = w.heap.size + 4 := by simp [W4]
theorem W4_of3 {w w' : World} {b1 b2 : Bool} {aa ab : Option Addr} {n1 n2 ca cb : Nat} (h : Below (W4 w b1 b2 aa ab n1 n2 ca cb).heap.size (W4 w b1 b2 aa ab n1 n2 ca cb) w') :
  Below (W3 w b1 b2 aa ab n1 n2 ca cb).heap.size (W3 w b1 b2 aa ab n1 n2 ca cb) w' := by
 have h1 := below_alloc (((w.alloc (.cells #[.bool b1, .slice aa n1 ca] 24)).alloc (.cells #[.bool b2, .slice ab n2 cb] 24)).alloc (.cells #[.bool false, .slice none 0 0] 24)) (.cells #[.bool false, .slice none 0 0] 24)
 have h2 := h1.trans (h.mono h1.size)
 exact ⟨h2.os, h2.tape, h2.output, h2.size, h2.block⟩
theorem W4_below (w : World) (b1 b2 : Bool) (aa ab : Option Addr) (n1 n2 ca cb : Nat) : Below w.heap.size w (W4 w b1 b2 aa ab n1 n2 ca cb) := by
 have h0 := W3_below w b1 b2 aa ab n1 n2 ca cb
 exact h0.trans ((W4_of3 (Below.refl _ _)).mono h0.size)
theorem W4_cells {w w' : World} {b1 b2 : Bool} {aa ab : Option Addr} {n1 n2 ca cb : Nat} (hb : Below (W4 w b1 b2 aa ab n1 n2 ca cb).heap.size (W4 w b1 b2 aa ab n1 n2 ca cb) w') :
  (w'.cell? ⟨w.heap.size, 0, none⟩ = some (.bool b1) ∧ w'.cell? ⟨w.heap.size, 1, none⟩ = some (.slice aa n1 ca) ∧ w'.cell? ⟨w.heap.size + 1, 0, none⟩ = some (.bool b2) ∧ w'.cell? ⟨w.heap.size + 1, 1, none⟩ = some (.slice ab n2 cb)) ∧
  (w'.cell? ⟨w.heap.size + 2, 0, none⟩ = some (.bool false) ∧ w'.cell? ⟨w.heap.size + 2, 1, none⟩ = some (.slice none 0 0) ∧ w'.frozen? ⟨w.heap.size + 2, 0, none⟩ = false ∧ w'.frozen? ⟨w.heap.size + 2, 1, none⟩ = false) ∧
  (w'.cell? ⟨w.heap.size + 3, 0, none⟩ = some (.bool false) ∧ w'.cell? ⟨w.heap.size + 3, 1, none⟩ = some (.slice none 0 0) ∧ w'.frozen? ⟨w.heap.size + 3, 0, none⟩ = false ∧ w'.frozen? ⟨w.heap.size + 3, 1, none⟩ = false) := by
 obtain ⟨h1, h2⟩ := W3_cells (W4_of3 hb)
 have e := heap_alloc_at (((w.alloc (.cells #[.bool b1, .slice aa n1 ca] 24)).alloc (.cells #[.bool b2, .slice ab n2 cb] 24)).alloc (.cells #[.bool false, .slice none 0 0] 24)) (.cells #[.bool false, .slice none 0 0] 24)
 rw [show (((w.alloc (.cells #[.bool b1, .slice aa n1 ca] 24)).alloc (.cells #[.bool b2, .slice ab n2 cb] 24)).alloc (.cells #[.bool false, .slice none 0 0] 24)).heap.size = w.heap.size + 3 by simp] at e
 exact ⟨h1, h2, pair_cells (W := W4 w b1 b2 aa ab n1 n2 ca cb) e hb⟩
theorem RetIDiv.fin {B g1 g2 c1 c2 : Nat} {z1 z2 er : Int} {w w4 : World} {a1 a2 : Option Addr} (h1 : Own B w4 a1 c1 (nd z1.natAbs)) (h2 : Own B w4 a2 c2 (nd z2.natAbs)) (hg1 : g1 < B) (hg2 : g2 < B) (hb : Below w.heap.size w w4) (hw1 : w.heap.size ≤ g1) (hw2 : w.heap.size ≤ g2) (v0 v1 v2 v3 : Value) :
  RetIDiv w.heap.size z1 z2 er w (.returned (.tuple #[.agg #[.bool (decide (z1 < 0)), .slice a1 (nd z1.natAbs).length c1], .agg #[.bool (decide (z2 < 0)), .slice a2 (nd z2.natAbs).length c2], .int .i64 er]))
   ((((w4.setCell ⟨g1, 0, none⟩ v0).setCell ⟨g1, 1, none⟩ v1).setCell ⟨g2, 0, none⟩ v2).setCell ⟨g2, 1, none⟩ v3) := by
 have hk : ∀ {ao : Option Addr} {c : Nat} {xs : List Nat}, Own B w4 ao c xs → Own w.heap.size ((((w4.setCell ⟨g1, 0, none⟩ v0).setCell ⟨g1, 1, none⟩ v1).setCell ⟨g2, 0, none⟩ v2).setCell ⟨g2, 1, none⟩ v3) ao c xs := by
  intro ao c xs ho
  refine (ho.keep fun a ha => ?_).mono (by omega)
  subst ha
  have h1 : B ≤ a.block := ho.block.1
  rw [Below.heap_setCell _ ⟨g2, 1, none⟩ _ _ (show a.block ≠ g2 by omega), Below.heap_setCell _ ⟨g2, 0, none⟩ _ _ (show a.block ≠ g2 by omega), Below.heap_setCell _ ⟨g1, 1, none⟩ _ _ (show a.block ≠ g1 by omega), Below.heap_setCell _ ⟨g1, 0, none⟩ _ _ (show a.block ≠ g1 by omega)]
 exact ⟨a1, c1, a2, c2, rfl, hk h1, hk h2, (((hb.setCell (p := ⟨g1, 0, none⟩) hw1 _).setCell (p := ⟨g1, 1, none⟩) hw1 _).setCell (p := ⟨g2, 0, none⟩) hw2 _).setCell (p := ⟨g2, 1, none⟩) hw2 _⟩

theorem idiv_any (b1 b2 : Bool) (aa ab : Option Addr) (ca cb : Nat) (xs ys : List Nat) (w : World) (ha : Rd w aa ca xs) (hb : Rd w ab cb ys) (h0 : val ys ≠ 0) (hl1 : xs.length ≤ 4398046511104) (hl2 : ys.length ≤ 4398046511104) :
  Calls Tryz.prog 191 #[.agg #[.bool b1, .slice aa xs.length ca], .agg #[.bool b2, .slice ab ys.length cb]] w (RetIDiv w.heap.size (iv b1 (val xs) / iv b2 (val ys)) (iv b1 (val xs) % iv b2 (val ys)) 0 w) := by
 have hB := W4_below w b1 b2 aa ab xs.length ys.length ca cb
 have HD := hid (divmod_any aa ab ca cb xs ys _ (ha.below hB) (hb.below hB) h0 hl1)
 have HC := hid (fun w' => W4_cells (w' := w') (w := w) (b1 := b1) (b2 := b2) (aa := aa) (ab := ab) (n1 := xs.length) (n2 := ys.length) (ca := ca) (cb := cb))
 have HSZ := hid (W4_size w b1 b2 aa ab xs.length ys.length ca cb)
 have HB := hid hB
 have hn0 : ¬ (w.heap.size + 1 + 1 = w.heap.size + 1 + 1 + 1) := by omega
 have hlr : (nd (val xs % val ys)).length ≤ xs.length := Nat.le_trans (nd_length_mono (Nat.mod_le _ _)) (nd_length_le_of ha.dg)
 have hlq : (nd (val xs / val ys)).length ≤ xs.length := Nat.le_trans (nd_length_mono (Nat.div_le_self _ _)) (nd_length_le_of ha.dg)
 unfold W4 at HD HC HSZ HB
 by_cases hup : b1 = true ∧ val xs % val ys ≠ 0
 ·obtain ⟨rfl, hne⟩ := hup
  have hu0 := idiv_up (b2 := b2) h0 hne
  rw [show (!(true == b2)) = !b2 by cases b2 <;> rfl] at hu0
  have HU := hid hu0
  clear hu0
  obtain ⟨q, hq⟩ : ∃ q, q = val xs / val ys := ⟨_, rfl⟩
  obtain ⟨r, hr⟩ : ∃ r, r = val xs % val ys := ⟨_, rfl⟩
  rw [← hq, ← hr] at HU HD
  rw [← hr] at hne hlr
  rw [← hq] at hlq
  have hrp : 0 < (nd r).length := Nat.pos_of_ne_zero fun h => hne (nd_eq_nil.1 (List.eq_nil_of_length_eq_zero h))
  have hg : decide (((nd r).length : Int) > 0) = true := decide_eq_true (by omega)
  have HRB := hid hb
  clear ha hb hB h0 hq hr hne
  go_enter Tryz.func191, Tryz.ntmps191
  go_wp2_with fail
  (with_reducible refine HD.out.mono ?_)
  rintro e w3 ⟨ax, cx, ay, cy, rfl, hx3, hy3, hb3⟩
  obtain ⟨⟨s0, s1, s2, s3⟩, _, _⟩ := HC.out w3 hb3
  have hone := Own.one w3 w3.heap.size 1 (Nat.le_refl _) (by omega)
  have hba := below_alloc w3 (.cells #[.int .u32 ((1 : Nat) : Int)] 88)
  have hadd := add_any ax _ cx 1 (nd q) [1] _ (hx3.below hba).rd hone.rd (by omega) (by simp)
  rw [val_nd, show val [1] = 1 by simp [val]] at hadd
  have hb3a := hb3.trans (hba.mono hb3.size)
  have hy3a := hy3.below hba
  have HADD := hid hadd
  have H3 := hid (And.intro hb3a hy3a)
  clear hadd hone hba hx3 hy3 hb3 hb3a hy3a
  go_wp2_with fail
  refine HADD.out.mono ?_
  rintro e w5 ⟨a5, c5, rfl, ho5, hb5⟩
  have hb05 := H3.out.1.trans (hb5.mono H3.out.1.size)
  obtain ⟨⟨t0, t1, t2, t3⟩, _, _⟩ := HC.out w5 hb05
  have hsub := sub_any ab ay cb cy ys (nd r) w5 (HRB.out.below (HB.out.trans (hb05.mono HB.out.size))) (H3.out.2.below hb5).rd (by omega) (by omega)
  rw [val_nd] at hsub
  have H5 := hid (And.intro (ho5.mono (H3.out.1.size)) hb05)
  have HSUB := hid hsub
  clear ho5 hb5 hb05 hsub s0 s1 s2 s3
  go_wp2_with fail
  (with_reducible refine HSUB.out.mono ?_)
  rintro e w6 ⟨a6, c6, rfl, ho6, hb6⟩
  have hb06 := H5.out.2.trans (hb6.mono H5.out.2.size)
  obtain ⟨⟨u0, u1, u2, u3⟩, _, _⟩ := HC.out w6 hb06
  have hs1 := signed_any _ (!b2) a5 c5 (q + 1) w6 (H5.out.1.below hb6)
  rw [← HU.out.1] at hs1
  have H6 := hid (And.intro (ho6.mono H5.out.2.size) hb06)
  have HS1 := hid hs1
  clear ho6 hb6 hb06 hs1 t0 t1 t2 t3
  go_wp2_with fail
  (with_reducible refine HS1.out.mono ?_)
  rintro e w7 ⟨a7, c7, rfl, ho7, hb7⟩
  have hb07 := H6.out.2.trans (hb7.mono H6.out.2.size)
  have hs2 := signed_any _ false a6 c6 (val ys - r) w7 (H6.out.1.below hb7)
  rw [← HU.out.2] at hs2
  have H7 := hid (And.intro ho7 hb07)
  have HS2 := hid hs2
  clear ho7 hb7 hb07 hs2 u0 u1 u2 u3
  go_wp2_with fail
  (with_reducible refine HS2.out.mono ?_)
  rintro e w8 ⟨a8, c8, rfl, ho8, hb8⟩
  have hb08 := H7.out.2.trans (hb8.mono H7.out.2.size)
  obtain ⟨_, ⟨k0, k1, k2, k3⟩, k4, k5, k6, k7⟩ := HC.out w8 hb08
  have H8 := hid (And.intro (H7.out.1.below hb8) (And.intro ho8 (HB.out.trans (hb08.mono HB.out.size))))
  clear ho8 hb8 hb08
  go_wp2
  have hsz := HSZ.out
  refine bodyPost_ret (v := .tuple #[.agg #[.bool (decide (iv true (val xs) / iv b2 (val ys) < 0)), .slice a7 (nd (iv true (val xs) / iv b2 (val ys)).natAbs).length c7], .agg #[.bool (decide (iv true (val xs) % iv b2 (val ys) < 0)), .slice a8 (nd (iv true (val xs) % iv b2 (val ys)).natAbs).length c8], .int .i64 0]) (by simp [results, Tryz.results191, go_sem, k0, k1, k4, k5]) rfl ?_
  exact RetIDiv.fin H8.out.1 H8.out.2.1 (by omega) (by omega) H8.out.2.2 (by omega) (by omega) _ _ _ _
 ·have HU := hid (idiv_plain (b1 := b1) (b2 := b2) (x := val xs) (y := val ys) h0 (by
   cases b1
   ·exact Or.inl rfl
   ·exact Or.inr (Classical.byContradiction fun h => hup ⟨rfl, h⟩)))
  obtain ⟨q, hq⟩ : ∃ q, q = val xs / val ys := ⟨_, rfl⟩
  obtain ⟨r, hr⟩ : ∃ r, r = val xs % val ys := ⟨_, rfl⟩
  rw [← hq, ← hr] at HU HD
  rw [← hr] at hup
  have hg : b1 = true → decide (((nd r).length : Int) > 0) = false := by
   intro hb1
   have : r = 0 := Classical.byContradiction fun h => hup ⟨hb1, h⟩
   rw [this, nd_zero]; simp
  clear ha hb hB h0 hq hr hup hlr hlq
  cases b1
  ·clear hg
   have hu0 := HU.out
   rw [show (!(false == b2)) = b2 by cases b2 <;> rfl] at hu0
   clear HU
   have HU := hid hu0
   clear hu0
   go_enter Tryz.func191, Tryz.ntmps191
   go_wp2_with fail
   (with_reducible refine HD.out.mono ?_)
   rintro e w3 ⟨ax, cx, ay, cy, rfl, hx3, hy3, hb3⟩
   obtain ⟨⟨s0, s1, s2, s3⟩, _, _⟩ := HC.out w3 hb3
   have hs1 := signed_any _ b2 ax cx q w3 hx3
   rw [← HU.out.1] at hs1
   have H3 := hid (And.intro hy3 hb3)
   have HS1 := hid hs1
   clear hx3 hy3 hb3 hs1
   go_wp2_with fail
   (with_reducible refine HS1.out.mono ?_)
   rintro e w7 ⟨a7, c7, rfl, ho7, hb7⟩
   have hb07 := H3.out.2.trans (hb7.mono H3.out.2.size)
   have hs2 := signed_any _ false ay cy r w7 (H3.out.1.below hb7)
   rw [← HU.out.2] at hs2
   have H7 := hid (And.intro ho7 hb07)
   have HS2 := hid hs2
   clear ho7 hb7 hb07 hs2 s0 s1 s2 s3
   go_wp2_with fail
   (with_reducible refine HS2.out.mono ?_)
   rintro e w8 ⟨a8, c8, rfl, ho8, hb8⟩
   have hb08 := H7.out.2.trans (hb8.mono H7.out.2.size)
   obtain ⟨_, ⟨k0, k1, k2, k3⟩, k4, k5, k6, k7⟩ := HC.out w8 hb08
   have H8 := hid (And.intro (H7.out.1.below hb8) (And.intro ho8 (HB.out.trans (hb08.mono HB.out.size))))
   clear ho8 hb8 hb08
   go_wp2
   have hsz := HSZ.out
   refine bodyPost_ret (v := .tuple #[.agg #[.bool (decide (iv false (val xs) / iv b2 (val ys) < 0)), .slice a7 (nd (iv false (val xs) / iv b2 (val ys)).natAbs).length c7], .agg #[.bool (decide (iv false (val xs) % iv b2 (val ys) < 0)), .slice a8 (nd (iv false (val xs) % iv b2 (val ys)).natAbs).length c8], .int .i64 0]) (by simp [results, Tryz.results191, go_sem, k0, k1, k4, k5]) rfl ?_
   exact RetIDiv.fin H8.out.1 H8.out.2.1 (by omega) (by omega) H8.out.2.2 (by omega) (by omega) _ _ _ _
  ·obtain rfl : r = 0 := by
    have h := of_decide_eq_false (hg rfl)
    exact nd_eq_nil.1 (List.eq_nil_of_length_eq_zero (by omega))
   rw [nd_zero] at HD
   clear hg
   have hu0 := HU.out
   rw [show (!(true == b2)) = (!b2) by cases b2 <;> rfl] at hu0
   clear HU
   have HU := hid hu0
   clear hu0
   go_enter Tryz.func191, Tryz.ntmps191
   go_wp2_with fail
   (with_reducible refine HD.out.mono ?_)
   rintro e w3 ⟨ax, cx, ay, cy, rfl, hx3, hy3, hb3⟩
   obtain ⟨⟨s0, s1, s2, s3⟩, _, _⟩ := HC.out w3 hb3
   have hs1 := signed_any _ (!b2) ax cx q w3 hx3
   rw [← HU.out.1] at hs1
   have H3 := hid (And.intro hy3 hb3)
   have HS1 := hid hs1
   clear hx3 hy3 hb3 hs1
   go_wp2_with fail
   (with_reducible refine HS1.out.mono ?_)
   rintro e w7 ⟨a7, c7, rfl, ho7, hb7⟩
   have hb07 := H3.out.2.trans (hb7.mono H3.out.2.size)
   have hs2 := signed_any _ false ay cy 0 w7 (by rw [nd_zero]; exact H3.out.1.below hb7)
   rw [← HU.out.2, nd_zero] at hs2
   have H7 := hid (And.intro ho7 hb07)
   have HS2 := hid hs2
   clear ho7 hb7 hb07 hs2 s0 s1 s2 s3
   go_wp2_with fail
   refine HS2.out.mono ?_
   rintro e w8 ⟨a8, c8, rfl, ho8, hb8⟩
   have hb08 := H7.out.2.trans (hb8.mono H7.out.2.size)
   obtain ⟨_, ⟨k0, k1, k2, k3⟩, k4, k5, k6, k7⟩ := HC.out w8 hb08
   have H8 := hid (And.intro (H7.out.1.below hb8) (And.intro ho8 (HB.out.trans (hb08.mono HB.out.size))))
   clear ho8 hb8 hb08
   go_wp2
   have hsz := HSZ.out
   refine bodyPost_ret (v := .tuple #[.agg #[.bool (decide (iv true (val xs) / iv b2 (val ys) < 0)), .slice a7 (nd (iv true (val xs) / iv b2 (val ys)).natAbs).length c7], .agg #[.bool (decide (iv true (val xs) % iv b2 (val ys) < 0)), .slice a8 (nd (iv true (val xs) % iv b2 (val ys)).natAbs).length c8], .int .i64 0]) (by simp [results, Tryz.results191, go_sem, k0, k1, k4, k5]) rfl ?_
   exact RetIDiv.fin H8.out.1 H8.out.2.1 (by omega) (by omega) H8.out.2.2 (by omega) (by omega) _ _ _ _
end Go.Proofs.YtcankknlbljicaaGreatDoor

namespace Go.Proofs.YtcankknlbljicaaGreatDoor
open Go.RowKit Num

theorem or_join (k S x t : Nat) (hk : k ≤ 1) (hS : S < 4294967296 ^ k) (hx : x < 4294967296) (ht : t = S + x * 4294967296 ^ k) :
  bits BinOp.or IntKind.u64 (S : Int) ((x * 4294967296 ^ k : Nat) : Int) = (t : Int) ∧ t < 18446744073709551616 := by
 rcases (by omega : k = 0 ∨ k = 1) with rfl | rfl
 ·simp only [Nat.pow_zero, Nat.mul_one] at hS ht ⊢
  have h := or_low 0 S x (by omega) (Nat.mod_one _) (by omega) (by omega)
  rw [h, ht]; exact ⟨rfl, by omega⟩
 ·simp only [Nat.pow_one] at hS ht ⊢
  have h := or_low 32 S (x * 4294967296) (by omega) (Nat.mul_mod_left _ _) (by omega) (by omega)
  rw [h, ht]; exact ⟨rfl, by omega⟩

end Go.Proofs.YtcankknlbljicaaGreatDoor

namespace Go.Proofs.YtcankknlbljicaaGreatDoor
open Go.RowKit Num

theorem iv_self (z : Int) : iv (decide (z < 0)) z.natAbs = z := by
 unfold iv
 by_cases h : z < 0
 ·rw [if_pos (decide_eq_true h)]; omega
 ·rw [if_neg (by simp [h])]; omega

theorem iformat_nn (b : Bool) (ao : Option Addr) (c : Nat) (xs : List Nat) (w : World) (h : Rd w ao c xs) (hl : xs.length ≤ 1073741824) (hn : ¬ iv b (val xs) < 0) :
  Calls Tryz.prog 89 #[.agg #[.bool b, .slice ao xs.length c]] w (RetFmt (val xs) w) := by
 have hba := below_alloc w (.cells #[.bool b, .slice ao xs.length c] 24)
 have hx1 := heap_alloc_at w (.cells #[.bool b, .slice ao xs.length c] 24)
 have HF := hid (format_any ao c xs _ (h.below hba) hl)
 have HP := hid (fun w' => pair_cells (w' := w') hx1)
 have HI := hid (fun w' (hb : Below w.heap.size w w') => isNegative_any b ao c xs w' (h.below hb) (by omega) false (by simp; omega))
 have HA := hid hba
 clear h hba hx1 hn
 go_enter Tryz.func89, Tryz.ntmps89
 go_wp2_with fail
 refine HF.out.mono ?_
 rintro e w3 ⟨rfl, hb3⟩
 obtain ⟨s0, s1, _, _⟩ := HP.out w3 hb3
 have hb03 := HA.out.trans (hb3.mono HA.out.size)
 have hi := HI.out w3 hb03
 clear hb3
 go_wp2_with fail
 refine hi.mono ?_
 rintro e w4 ⟨rfl, hb4⟩
 have HB := hid (hb03.trans (hb4.mono hb03.size))
 clear hi hb03 hb4 s0 s1
 go_wp2
 go_ret
 exact ⟨rfl, HB.out⟩

end Go.Proofs.YtcankknlbljicaaGreatDoor
