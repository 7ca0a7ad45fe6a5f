/- Integers: signed, isZero, isNegative, Sign; the reference's Same; Small. -/
import Derived.Test.YtbcaigpdckencaaDoorRf9
namespace Go.Proofs.YtbcaigpdckencaaDoor
open Go.RowKit Num

/-- the value of a sign and digits -/
def iv (b : Bool) (v : Nat) : Int := if b = true then -(v : Int) else (v : Int)
/-- an integer in its canonical form, in a slice of the call's own -/
def RetInt (B : Nat) (z : Int) (w : World) (e : Ending) (w' : World) : Prop :=
  ∃ ao c, e = .returned (.agg #[.bool (decide (z < 0)), .slice ao (nd z.natAbs).length c]) ∧ Own B w' ao c (nd z.natAbs) ∧ Below w.heap.size w w'
theorem iv_abs (b : Bool) (v : Nat) : (iv b v).natAbs = v := by unfold iv; split <;> omega
theorem iv_neg (b : Bool) (v : Nat) : decide (iv b v < 0) = (b && decide (0 < v)) := by
  unfold iv; cases b <;> simp <;> omega
theorem bcell {W w1 : World} (hb : Below W.heap.size W w1) : (∀ b o, b < W.heap.size → w1.cell? ⟨b, o, none⟩ = W.cell? ⟨b, o, none⟩) ∧ (∀ b o, b < W.heap.size → w1.frozen? ⟨b, o, none⟩ = W.frozen? ⟨b, o, none⟩) :=
  ⟨fun b o h => hb.cell (p := ⟨b, o, none⟩) h, fun b o h => hb.frozen (p := ⟨b, o, none⟩) h⟩

set_option maxRecDepth 100000 in
theorem signed_any (B : Nat) (b : Bool) (ao : Option Addr) (c v : Nat) (w : World) (h : Own B w ao c (nd v)) :
    Calls Tryd.prog 77 #[.bool b, .slice ao (nd v).length c] w (RetInt B (iv b v) w) := by
  have hle := h.rd.le
  have hcm := h.rd.cm
  by_cases h0 : v = 0
  · subst h0
    have hb0 : (((nd 0).length : Int) == 0) = true := by simp [nd_zero]
    have H := hid (And.intro (below_alloc w (.cells #[.bool false, .slice none 0 0] 43)) (iv_neg b 0))
    clear h
    go_enter Tryd.func77, Tryd.ntmps77
    go_wp2
    refine bodyPost_ret (v := .agg #[.bool false, .slice none 0 0]) (by simp [results, Tryd.results77, go_sem]) rfl ?_
    refine ⟨none, 0, ?_, ?_, H.out.1⟩
    · rw [iv_abs, H.out.2, nd_zero]; simp
    · rw [iv_abs, nd_zero]; exact Own.nil _ _
  · have hne : (nd v).length ≠ 0 := fun h => h0 (nd_eq_nil.1 (List.eq_nil_of_length_eq_zero h))
    have hb0 : (((nd v).length : Int) == 0) = false := beq_eq_false_iff_ne.2 (by omega)
    have H := hid (And.intro (below_alloc w (.cells #[.bool b, .slice ao (nd v).length c] 43)) (And.intro (iv_neg b v) h))
    clear h hne
    go_enter Tryd.func77, Tryd.ntmps77
    go_wp2
    refine bodyPost_ret (v := .agg #[.bool b, .slice ao (nd v).length c]) (by simp [results, Tryd.results77, go_sem]) rfl ?_
    refine ⟨ao, c, ?_, ?_, H.out.1⟩
    · rw [iv_abs, H.out.2.1]; simp; intro _; omega
    · rw [iv_abs]; exact H.out.2.2.below H.out.1

set_option maxRecDepth 100000 in
theorem isZero_any (b : Bool) (ao : Option Addr) (c : Nat) (xs : List Nat) (w : World) (h : Rd w ao c xs) (hl : xs.length ≤ 17592186044416) (r : Bool) (hr : r = true ↔ val xs = 0) :
    Calls Tryd.prog 79 #[.agg #[.bool b, .slice ao xs.length c]] w (RetB (.bool r) w) := by
  have hba := below_alloc w (.cells #[.bool b, .slice ao xs.length c] 43)
  have hbl := bitlen_any ao c xs _ (h.below hba) hl
  have hrr : ((blen (val xs) : Int) == 0) = r := by
    rw [Bool.eq_iff_iff, hr, beq_iff_eq, ← blen_eq_zero]; omega
  obtain ⟨q, hq⟩ : ∃ q, q = blen (val xs) := ⟨_, rfl⟩
  rw [← hq] at hrr hbl
  have H := hid hba
  clear hq hba h hr
  go_enter Tryd.func79, Tryd.ntmps79
  go_wp2_with fail
  refine hbl.mono ?_
  rintro e w' ⟨rfl, rfl⟩
  go_wp2
  go_ret
  exact ⟨rfl, H.out⟩
end Go.Proofs.YtbcaigpdckencaaDoor
