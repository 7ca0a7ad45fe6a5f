/-  -/
import Derived.Test.YtcankknlbljicaaGreatDoorWk
import Derived.Test.YtcankknlbljicaaGreatDoorWj
import Derived.Deep.RegionHeld3

set_option linter.unusedVariables false
set_option linter.unusedSimpArgs false
set_option linter.unusedSectionVars false
set_option maxRecDepth 100000
set_option maxHeartbeats 3200000

namespace Go.Proofs.YtcankknlbljicaaGreatDoor
open Go.RowKit Num

def iv (b : Bool) (v : Nat) : Int := if b = true then -(v : Int) else (v : Int)
def RetInt (B : Nat) (z : Int) (w : World) (e : Ending) (w' : World) : Prop :=
 ∃ ao c, e = .returned (.agg #[.bool (decide (z < 0)), .slice ao (nd z.natAbs).length c]) ∧ Own B w' ao c (nd z.natAbs) ∧ Below w.heap.size w w'
theorem iv_abs (b : Bool) (v : Nat) : (iv b v).natAbs = v := by unfold iv; split <;> omega
theorem iv_neg (b : Bool) (v : Nat) : decide (iv b v < 0) = (b && decide (0 < v)) := by
 unfold iv; cases b <;> simp <;> omega
theorem bcell {W w1 : World} (hb : Below W.heap.size W w1) : (∀ b o, b < W.heap.size → w1.cell? ⟨b, o, none⟩ = W.cell? ⟨b, o, none⟩) ∧ (∀ b o, b < W.heap.size → w1.frozen? ⟨b, o, none⟩ = W.frozen? ⟨b, o, none⟩) :=
 ⟨fun b o h => hb.cell (p := ⟨b, o, none⟩) h, fun b o h => hb.frozen (p := ⟨b, o, none⟩) h⟩

theorem signed_any (B : Nat) (b : Bool) (ao : Option Addr) (c v : Nat) (w : World) (h : Own B w ao c (nd v)) :
  Calls Tryz.prog 145 #[.bool b, .slice ao (nd v).length c] w (RetInt B (iv b v) w) := by
 have hle := h.rd.le
 have hcm := h.rd.cm
 by_cases h0 : v = 0
 ·subst h0
  have hb0 : (((nd 0).length : Int) == 0) = true := by simp [nd_zero]
  have H := hid (And.intro (below_alloc w (.cells #[.bool false, .slice none 0 0] 24)) (iv_neg b 0))
  clear h
  go_enter Tryz.func145, Tryz.ntmps145
  go_wp2
  refine bodyPost_ret (v := .agg #[.bool false, .slice none 0 0]) (by simp [results, Tryz.results145, go_sem]) rfl ?_
  refine ⟨none, 0, ?_, ?_, H.out.1⟩
  ·rw [iv_abs, H.out.2, nd_zero]; simp
  ·rw [iv_abs, nd_zero]; exact Own.nil _ _
 ·have hne : (nd v).length ≠ 0 := fun h => h0 (nd_eq_nil.1 (List.eq_nil_of_length_eq_zero h))
  have hb0 : (((nd v).length : Int) == 0) = false := beq_eq_false_iff_ne.2 (by omega)
  have H := hid (And.intro (below_alloc w (.cells #[.bool b, .slice ao (nd v).length c] 24)) (And.intro (iv_neg b v) h))
  clear h hne
  go_enter Tryz.func145, Tryz.ntmps145
  go_wp2
  refine bodyPost_ret (v := .agg #[.bool b, .slice ao (nd v).length c]) (by simp [results, Tryz.results145, go_sem]) rfl ?_
  refine ⟨ao, c, ?_, ?_, H.out.1⟩
  ·rw [iv_abs, H.out.2.1]; simp; intro _; omega
  ·rw [iv_abs]; exact H.out.2.2.below H.out.1

theorem isZero_any (b : Bool) (ao : Option Addr) (c : Nat) (xs : List Nat) (w : World) (h : Rd w ao c xs) (hl : xs.length ≤ 17592186044416) (r : Bool) (hr : r = true ↔ val xs = 0) :
  Calls Tryz.prog 204 #[.agg #[.bool b, .slice ao xs.length c]] w (RetB (.bool r) w) := by
 have hba := below_alloc w (.cells #[.bool b, .slice ao xs.length c] 24)
 have hbl := bitlen_any ao c xs _ (h.below hba) hl
 have hrr : ((blen (val xs) : Int) == 0) = r := by
  rw [Bool.eq_iff_iff, hr, beq_iff_eq, ← blen_eq_zero]; omega
 obtain ⟨q, hq⟩ : ∃ q, q = blen (val xs) := ⟨_, rfl⟩
 rw [← hq] at hrr hbl
 have H := hid hba
 clear hq hba h hr
 go_enter Tryz.func204, Tryz.ntmps204
 go_wp2_with fail
 refine hbl.mono ?_
 rintro e w' ⟨rfl, rfl⟩
 go_wp2
 go_ret
 exact ⟨rfl, H.out⟩
end Go.Proofs.YtcankknlbljicaaGreatDoor

namespace Go.Proofs.YtcankknlbljicaaGreatDoor
open Go.RowKit Num

def sgn (z : Int) : Int := if z < 0 then -1 else if z = 0 then 0 else 1

theorem isNegative_any (b : Bool) (ao : Option Addr) (c : Nat) (xs : List Nat) (w : World) (h : Rd w ao c xs) (hl : xs.length ≤ 17592186044416) (r : Bool) (hr : r = true ↔ iv b (val xs) < 0) :
  Calls Tryz.prog 154 #[.agg #[.bool b, .slice ao xs.length c]] w (RetB (.bool r) w) := by
 have hba := below_alloc w (.cells #[.bool b, .slice ao xs.length c] 24)
 cases b with
 | false =>
  obtain rfl : r = false := by
   cases r with
   | false => rfl
   | true => have := hr.1 rfl; simp [iv] at this; omega
  have H := hid hba
  clear hba h hr
  go_enter Tryz.func154, Tryz.ntmps154
  go_wp2
  go_ret
  exact ⟨rfl, H.out⟩
 | true =>
  have hz := isZero_any true ao c xs _ (h.below hba) hl (!r) (by
   rw [Bool.not_eq_true', ← Bool.not_eq_true, hr, iv, if_pos rfl]; omega)
  have H := hid hba
  clear hba h hr
  go_enter Tryz.func154, Tryz.ntmps154
  go_wp2_with fail
  refine hz.mono ?_
  rintro e w' ⟨rfl, hb⟩
  have hb2 := H.out.trans (hb.mono H.out.size)
  clear hz hb
  have HB := hid hb2
  clear hb2
  go_wp2
  go_ret
  exact ⟨by simp, HB.out⟩

theorem Sign_any (b : Bool) (ao : Option Addr) (c : Nat) (xs : List Nat) (w : World) (h : Rd w ao c xs) (hl : xs.length ≤ 17592186044416) :
  Calls Tryz.prog 165 #[.agg #[.bool b, .slice ao xs.length c]] w (RetB (.int .i64 (sgn (iv b (val xs)))) w) := by
 have hba := below_alloc w (.cells #[.bool b, .slice ao xs.length c] 24)
 have H := hid hba
 have hsz : w.heap.size < (w.alloc (.cells #[.bool b, .slice ao xs.length c] 24)).heap.size := by simp
 by_cases h0 : val xs = 0
 ·have hz := isZero_any b ao c xs _ (h.below hba) hl true (by simp [h0])
  have HS := hid (show sgn (iv b (val xs)) = 0 by rw [h0]; cases b <;> rfl)
  clear hba h h0
  go_enter Tryz.func165, Tryz.ntmps165
  go_wp2_with fail
  refine hz.mono ?_
  rintro e w' ⟨rfl, hb⟩
  have HB := hid (H.out.trans (hb.mono H.out.size))
  clear hz hb
  go_wp2
  go_ret
  exact ⟨by rw [HS.out]; rfl, HB.out⟩
 ·have hz := isZero_any b ao c xs _ (h.below hba) hl false (by simp [h0])
  have HS := hid (show sgn (iv b (val xs)) = if b = true then -1 else 1 by
   unfold sgn iv; cases b
   ·simp only [Bool.false_eq_true, if_false]; rw [if_neg (by omega), if_neg (by omega)]
   ·simp only [if_true]; rw [if_pos (by omega)])
  clear hba h h0
  go_enter Tryz.func165, Tryz.ntmps165
  go_wp2_with fail
  refine hz.mono ?_
  rintro e w' ⟨rfl, hb⟩
  have HB := hid (H.out.trans (hb.mono H.out.size))
  obtain ⟨hc, hf⟩ := bcell hb
  clear hz hb hf
  cases b <;> (go_wp2; go_ret; exact ⟨by rw [HS.out]; rfl, HB.out⟩)

theorem same2_any (b1 b2 : Bool) (aa ab : Option Addr) (ca cb : Nat) (xs ys : List Nat) (r : Bool) (w : World) (ha : Rd w aa ca xs) (hb : Rd w ab cb ys) (hr : r = true ↔ b1 = b2 ∧ xs = ys) :
  Calls Tryz.prog 76 #[.agg #[.bool b1, .slice aa xs.length ca], .agg #[.bool b2, .slice ab ys.length cb]] w (RetB (.bool r) w) := by
 have hb1 := below_alloc w (.cells #[.bool b1, .slice aa xs.length ca] 24)
 have hb2 := below_alloc (w.alloc (.cells #[.bool b1, .slice aa xs.length ca] 24)) (.cells #[.bool b2, .slice ab ys.length cb] 24)
 have hb12 := hb1.trans (hb2.mono hb1.size)
 have H := hid hb12
 by_cases hbb : b1 = b2
 ·subst hbb
  have hs := same_any aa ab ca cb xs ys r _ (ha.below hb12) (hb.below hb12) (by rw [hr]; simp)
  have hee : (b1 == b1) = true := by simp
  clear hb1 hb2 hb12 ha hb hr
  go_enter Tryz.func76, Tryz.ntmps76
  go_wp2_with fail
  refine hs.mono ?_
  rintro e w' ⟨rfl, q, rfl⟩
  have HB := hid (H.out.trans ((below_drewN _ q).mono H.out.size))
  clear hs
  go_wp2
  go_ret
  exact ⟨rfl, HB.out⟩
 ·obtain rfl : r = false := by
   cases r with
   | false => rfl
   | true => exact absurd (hr.1 rfl).1 hbb
  have hee : (b1 == b2) = false := by simpa using hbb
  clear hb1 hb2 hb12 ha hb hr hbb
  go_enter Tryz.func76, Tryz.ntmps76
  go_wp2
  go_ret
  exact ⟨rfl, H.out⟩

end Go.Proofs.YtcankknlbljicaaGreatDoor

namespace Go.Proofs.YtcankknlbljicaaGreatDoor
open Go.RowKit Num

theorem RetInt.of {B : Nat} {z z' : Int} {w w0 : World} {e : Ending} {w' : World} (h : RetInt B z w e w') (hz : z = z') (hb : Below w0.heap.size w0 w) : RetInt B z' w0 e w' := by
 obtain ⟨ao, c, he, ho, hbe⟩ := h
 subst hz
 exact ⟨ao, c, he, ho, hb.trans (hbe.mono hb.size)⟩

theorem pair_cells {W w' : World} {g : Nat} {v0 v1 : Value} {t : TypeId} (hh : W.heap[g]? = some (.cells #[v0, v1] t (0, 0))) (hb : Below W.heap.size W w') :
  w'.cell? ⟨g, 0, none⟩ = some v0 ∧ w'.cell? ⟨g, 1, none⟩ = some v1 ∧ w'.frozen? ⟨g, 0, none⟩ = false ∧ w'.frozen? ⟨g, 1, none⟩ = false := by
 have hg : g < W.heap.size := (Array.getElem?_eq_some_iff.1 hh).1
 have h := (hb.block g hg).trans hh
 simp [World.cell?, World.frozen?, h]

theorem RetInt.fin {B g c4 : Nat} {z : Int} {w w4 : World} {a4 : Option Addr} (ho : Own B w4 a4 c4 (nd z.natAbs)) (hg : g < B) (hb : Below w.heap.size w w4) (hgw : w.heap.size ≤ g) (v0 v1 : Value) :
  RetInt w.heap.size z w (.returned (.agg #[.bool (decide (z < 0)), .slice a4 (nd z.natAbs).length c4])) ((w4.setCell ⟨g, 0, none⟩ v0).setCell ⟨g, 1, none⟩ v1) := by
 refine ⟨a4, c4, rfl, (ho.keep fun a ha => ?_).mono (by omega), (hb.setCell (p := ⟨g, 0, none⟩) hgw _).setCell (p := ⟨g, 1, none⟩) hgw _⟩
 subst ha
 have h1 : B ≤ a.block := ho.block.1
 have h2 : a.block ≠ g := by omega
 rw [Below.heap_setCell _ ⟨g, 1, none⟩ _ _ h2, Below.heap_setCell _ ⟨g, 0, none⟩ _ _ h2]

theorem neg_any (b : Bool) (ao : Option Addr) (c : Nat) (xs : List Nat) (w : World) (h : Rd w ao c xs) (hl : xs.length ≤ 17592186044416) :
  Calls Tryz.prog 193 #[.agg #[.bool b, .slice ao xs.length c]] w (RetInt w.heap.size (-(iv b (val xs))) w) := by
 have hb1 := below_alloc w (.cells #[.bool b, .slice ao xs.length c] 24)
 have HV := hid (show iv (!b) (val xs) = -(iv b (val xs)) by cases b <;> simp [iv])
 have hle := h.le
 have hcm := h.cm
 have hb2 := hb1.trans ((below_alloc (w.alloc (.cells #[.bool b, .slice ao xs.length c] 24)) (.cells #[.bool false, .slice none 0 0] 24)).mono hb1.size)
 have hb3 : Below w.heap.size w ((w.alloc (.cells #[.bool b, .slice ao xs.length c] 24)).alloc (.cells #[.bool false, .slice none 0 0] 24)).drew := hb2.drew
 have HT := hid (trim_any ao c xs _ (h.below hb3) (by omega))
 have hP : ((w.alloc (.cells #[.bool b, .slice ao xs.length c] 24)).alloc (.cells #[.bool false, .slice none 0 0] 24)).drew.heap[w.heap.size + 1]? = some (.cells #[.bool false, .slice none 0 0] 24 (0, 0)) := by
  have := heap_alloc_at (w.alloc (.cells #[.bool b, .slice ao xs.length c] 24)) (.cells #[.bool false, .slice none 0 0] 24)
  rw [show (w.alloc (.cells #[.bool b, .slice ao xs.length c] 24)).heap.size = w.heap.size + 1 by simp] at this
  exact this
 have HP := hid hP
 have HB := hid hb3
 clear h hb1 hb2 hb3 hP
 go_enter Tryz.func193, Tryz.ntmps193
 go_wp2_with fail
 go_region_with (first
  | (go_at_call 155; (with_reducible refine HT.out.mono ?_); rintro e w3 ⟨a3, c3, rfl, ho3, hb3⟩; obtain ⟨hc3, hf3⟩ := bcell hb3)
  | (go_at_call 145; (with_reducible refine (signed_any _ (!b) a3 c3 (val xs) w3 ho3).mono ?_); rintro e w4 ⟨a4, c4, rfl, ho4, hb4⟩; obtain ⟨k0, k1, k2, k3⟩ := pair_cells HP.out (hb3.trans (hb4.mono hb3.size))))
 all_goals
  go_wp2
  have hsz : ((w.alloc (.cells #[.bool b, .slice ao xs.length c] 24)).alloc (.cells #[.bool false, .slice none 0 0] 24)).drew.heap.size = w.heap.size + 2 := by simp [World.drew]
  refine bodyPost_ret (v := .agg #[.bool (decide (iv (!b) (val xs) < 0)), .slice a4 (nd (iv (!b) (val xs)).natAbs).length c4]) (by simp [results, Tryz.results193, go_sem, k0, k1]) rfl ?_
  rw [← HV.out]
  exact RetInt.fin ho4 (by omega) (HB.out.trans ((hb3.trans (hb4.mono hb3.size)).mono (by omega))) (by omega) _ _
end Go.Proofs.YtcankknlbljicaaGreatDoor

namespace Go.Proofs.YtcankknlbljicaaGreatDoor
open Go.RowKit Num

def W3 (w : World) (b1 b2 : Bool) (aa ab : Option Addr) (n1 n2 ca cb : Nat) : World :=
 (((w.alloc (.cells #[.bool b1, .slice aa n1 ca] 24)).alloc (.cells #[.bool b2, .slice ab n2 cb] 24)).alloc (.cells #[.bool false, .slice none 0 0] 24)).drew
theorem W3_below (w : World) (b1 b2 : Bool) (aa ab : Option Addr) (n1 n2 ca cb : Nat) : Below w.heap.size w (W3 w b1 b2 aa ab n1 n2 ca cb) := by
 have h1 := below_alloc w (.cells #[.bool b1, .slice aa n1 ca] 24)
 have h2 := h1.trans ((below_alloc _ (.cells #[.bool b2, .slice ab n2 cb] 24)).mono h1.size)
 have h3 := h2.trans ((below_alloc _ (.cells #[.bool false, .slice none 0 0] 24)).mono h2.size)
 exact h3.drew
theorem W3_size (w : World) (b1 b2 : Bool) (aa ab : Option Addr) (n1 n2 ca cb : Nat) : (W3 w b1 b2 aa ab n1 n2 ca cb).heap.size = w.heap.size + 3 := by simp [W3, World.drew]
theorem W3_pair (w : World) (b1 b2 : Bool) (aa ab : Option Addr) (n1 n2 ca cb : Nat) : (W3 w b1 b2 aa ab n1 n2 ca cb).heap[w.heap.size + 2]? = some (.cells #[.bool false, .slice none 0 0] 24 (0, 0)) := by
 have := heap_alloc_at ((w.alloc (.cells #[.bool b1, .slice aa n1 ca] 24)).alloc (.cells #[.bool b2, .slice ab n2 cb] 24)) (.cells #[.bool false, .slice none 0 0] 24)
 rw [show ((w.alloc (.cells #[.bool b1, .slice aa n1 ca] 24)).alloc (.cells #[.bool b2, .slice ab n2 cb] 24)).heap.size = w.heap.size + 2 by simp] at this
 exact this

theorem W3_cells {w w' : World} {b1 b2 : Bool} {aa ab : Option Addr} {n1 n2 ca cb : Nat} (hb : Below (W3 w b1 b2 aa ab n1 n2 ca cb).heap.size (W3 w b1 b2 aa ab n1 n2 ca cb) w') :
  (w'.cell? ⟨w.heap.size, 0, none⟩ = some (.bool b1) ∧ w'.cell? ⟨w.heap.size, 1, none⟩ = some (.slice aa n1 ca) ∧ w'.cell? ⟨w.heap.size + 1, 0, none⟩ = some (.bool b2) ∧ w'.cell? ⟨w.heap.size + 1, 1, none⟩ = some (.slice ab n2 cb)) ∧
  (w'.cell? ⟨w.heap.size + 2, 0, none⟩ = some (.bool false) ∧ w'.cell? ⟨w.heap.size + 2, 1, none⟩ = some (.slice none 0 0) ∧ w'.frozen? ⟨w.heap.size + 2, 0, none⟩ = false ∧ w'.frozen? ⟨w.heap.size + 2, 1, none⟩ = false) := by
 have hs := W3_size w b1 b2 aa ab n1 n2 ca cb
 have x1 := heap_alloc_at w (.cells #[.bool b1, .slice aa n1 ca] 24)
 have z1 : (w.alloc (.cells #[.bool b1, .slice aa n1 ca] 24)).heap.size = w.heap.size + 1 := by simp
 have x2 := heap_alloc_at (w.alloc (.cells #[.bool b1, .slice aa n1 ca] 24)) (.cells #[.bool b2, .slice ab n2 cb] 24)
 rw [z1] at x2
 have y2 := (below_alloc (w.alloc (.cells #[.bool b1, .slice aa n1 ca] 24)) (.cells #[.bool b2, .slice ab n2 cb] 24)).block w.heap.size (by omega)
 have z2 : ((w.alloc (.cells #[.bool b1, .slice aa n1 ca] 24)).alloc (.cells #[.bool b2, .slice ab n2 cb] 24)).heap.size = w.heap.size + 2 := by simp
 have b3 := below_alloc ((w.alloc (.cells #[.bool b1, .slice aa n1 ca] 24)).alloc (.cells #[.bool b2, .slice ab n2 cb] 24)) (.cells #[.bool false, .slice none 0 0] 24)
 have e0 : (W3 w b1 b2 aa ab n1 n2 ca cb).heap[w.heap.size]? = some (.cells #[.bool b1, .slice aa n1 ca] 24 (0, 0)) := (b3.block w.heap.size (by omega)).trans (y2.trans x1)
 have e1 : (W3 w b1 b2 aa ab n1 n2 ca cb).heap[w.heap.size + 1]? = some (.cells #[.bool b2, .slice ab n2 cb] 24 (0, 0)) := (b3.block (w.heap.size + 1) (by omega)).trans x2
 obtain ⟨c0, c1, _, _⟩ := pair_cells e0 hb
 obtain ⟨c2, c3, _, _⟩ := pair_cells e1 hb
 exact ⟨⟨c0, c1, c2, c3⟩, pair_cells (W3_pair w b1 b2 aa ab n1 n2 ca cb) hb⟩

end Go.Proofs.YtcankknlbljicaaGreatDoor
