/- Integers: Neg, Add, Mul. -/
import Derived.Test.YtbcaigpdckencaaDoorIn1
namespace Go.Proofs.YtbcaigpdckencaaDoor
open Go.RowKit Num

theorem RetInt.of {B : Nat} {z z' : Int} {w w0 : World} {e : Ending} {w' : World} (h : RetInt B z w e w') (hz : z = z') (hb : Below w0.heap.size w0 w) : RetInt B z' w0 e w' := by
  obtain ⟨ao, c, he, ho, hbe⟩ := h
  subst hz
  exact ⟨ao, c, he, ho, hb.trans (hbe.mono hb.size)⟩

/-- the cells of a boxed pair, later -/
theorem pair_cells {W w' : World} {g : Nat} {v0 v1 : Value} {t : TypeId} (hh : W.heap[g]? = some (.cells #[v0, v1] t (0, 0))) (hb : Below W.heap.size W w') :
    w'.cell? ⟨g, 0, none⟩ = some v0 ∧ w'.cell? ⟨g, 1, none⟩ = some v1 ∧ w'.frozen? ⟨g, 0, none⟩ = false ∧ w'.frozen? ⟨g, 1, none⟩ = false := by
  have hg : g < W.heap.size := (Array.getElem?_eq_some_iff.1 hh).1
  have h := (hb.block g hg).trans hh
  simp [World.cell?, World.frozen?, h]

/-- the result stands in its box -/
theorem RetInt.fin {B g c4 : Nat} {z : Int} {w w4 : World} {a4 : Option Addr} (ho : Own B w4 a4 c4 (nd z.natAbs)) (hg : g < B) (hb : Below w.heap.size w w4) (hgw : w.heap.size ≤ g) (v0 v1 : Value) :
    RetInt w.heap.size z w (.returned (.agg #[.bool (decide (z < 0)), .slice a4 (nd z.natAbs).length c4])) ((w4.setCell ⟨g, 0, none⟩ v0).setCell ⟨g, 1, none⟩ v1) := by
  refine ⟨a4, c4, rfl, (ho.keep fun a ha => ?_).mono (by omega), (hb.setCell (p := ⟨g, 0, none⟩) hgw _).setCell (p := ⟨g, 1, none⟩) hgw _⟩
  subst ha
  have h1 : B ≤ a.block := ho.block.1
  have h2 : a.block ≠ g := by omega
  rw [Below.heap_setCell _ ⟨g, 1, none⟩ _ _ h2, Below.heap_setCell _ ⟨g, 0, none⟩ _ _ h2]

set_option maxRecDepth 100000 in
set_option maxHeartbeats 1600000 in
theorem neg_any (b : Bool) (ao : Option Addr) (c : Nat) (xs : List Nat) (w : World) (h : Rd w ao c xs) (hl : xs.length ≤ 17592186044416) :
    Calls Tryd.prog 50 #[.agg #[.bool b, .slice ao xs.length c]] w (RetInt w.heap.size (-(iv b (val xs))) w) := by
  have hb1 := below_alloc w (.cells #[.bool b, .slice ao xs.length c] 43)
  have HV := hid (show iv (!b) (val xs) = -(iv b (val xs)) by cases b <;> simp [iv])
  have hle := h.le
  have hcm := h.cm
  have hb2 := hb1.trans ((below_alloc (w.alloc (.cells #[.bool b, .slice ao xs.length c] 43)) (.cells #[.bool false, .slice none 0 0] 43)).mono hb1.size)
  have hb3 : Below w.heap.size w ((w.alloc (.cells #[.bool b, .slice ao xs.length c] 43)).alloc (.cells #[.bool false, .slice none 0 0] 43)).drew := hb2.drew
  have HT := hid (trim_any ao c xs _ (h.below hb3) (by omega))
  have hP : ((w.alloc (.cells #[.bool b, .slice ao xs.length c] 43)).alloc (.cells #[.bool false, .slice none 0 0] 43)).drew.heap[w.heap.size + 1]? = some (.cells #[.bool false, .slice none 0 0] 43 (0, 0)) := by
    have := heap_alloc_at (w.alloc (.cells #[.bool b, .slice ao xs.length c] 43)) (.cells #[.bool false, .slice none 0 0] 43)
    rw [show (w.alloc (.cells #[.bool b, .slice ao xs.length c] 43)).heap.size = w.heap.size + 1 by simp] at this
    exact this
  have HP := hid hP
  have HB := hid hb3
  clear h hb1 hb2 hb3 hP
  go_enter Tryd.func50, Tryd.ntmps50
  go_wp2_with fail
  go_region_with (first
    | (go_at_call 55; (with_reducible refine HT.out.mono ?_); rintro e w3 ⟨a3, c3, rfl, ho3, hb3⟩; obtain ⟨hc3, hf3⟩ := bcell hb3)
    | (go_at_call 77; (with_reducible refine (signed_any _ (!b) a3 c3 (val xs) w3 ho3).mono ?_); rintro e w4 ⟨a4, c4, rfl, ho4, hb4⟩; obtain ⟨k0, k1, k2, k3⟩ := pair_cells HP.out (hb3.trans (hb4.mono hb3.size))))
  all_goals
    go_wp2
    have hsz : ((w.alloc (.cells #[.bool b, .slice ao xs.length c] 43)).alloc (.cells #[.bool false, .slice none 0 0] 43)).drew.heap.size = w.heap.size + 2 := by simp [World.drew]
    refine bodyPost_ret (v := .agg #[.bool (decide (iv (!b) (val xs) < 0)), .slice a4 (nd (iv (!b) (val xs)).natAbs).length c4]) (by simp [results, Tryd.results50, go_sem, k0, k1]) rfl ?_
    rw [← HV.out]
    exact RetInt.fin ho4 (by omega) (HB.out.trans ((hb3.trans (hb4.mono hb3.size)).mono (by omega))) (by omega) _ _
end Go.Proofs.YtbcaigpdckencaaDoor
