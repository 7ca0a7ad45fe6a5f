/- An integer that came in: its sign, and its digits as a list that reads. -/
import Derived.Test.YtbcaigpdckencaaDoorRow
import Derived.Lib.SmallJoins
namespace Go.Proofs.YtbcaigpdckencaaDoor
open Go.ChangeShapes Go.WideShapes Go.ChangeAt Go.RowKit

set_option maxRecDepth 100000 in
theorem open_integer {H : Type} {enc : TypeId × Value → H} {W : World} {r : Reach} {b0 base : Nat} {v : Value} {d : DataW H} {p : List MemPlace}
    (hv : Value.okWide Tryd.prog W r b0 43 v) (h : DataW.Trod enc Tryd.prog W base (fun _ => true) true 43 v d p) :
    ∃ b ao cap, ∃ xs : List Nat, v = .agg #[.bool b, .slice ao xs.length cap] ∧ Rd W ao cap xs := by
  obtain ⟨v0, v1, y0, y1, n, rfl, _, _, h0, h1⟩ := Go.Joins.open_agg2 Tryd.underlying43 (by kernel_rfl) (by kernel_rfl) hv h
  obtain ⟨b, hb, _⟩ := DataW.trod_bool Tryd.underlying4 h0
  simp only [List.cons.injEq, and_true] at hb
  subst hb
  rcases open_ints Tryd.underlying22 Tryd.underlying61 (by kernel_rfl) h1 with ⟨hcs, _⟩ | ⟨x, l, c, zs, hcs, _, hl, hm, hz, _, hcell, hwz⟩
  · simp only [List.cons.injEq, and_true] at hcs
    subst hcs
    exact ⟨b, none, 0, [], rfl, Rd.nil (by omega) (fun _ => rfl)⟩
  · simp only [List.cons.injEq, and_true] at hcs
    subst hcs
    obtain ⟨xs, hl', hr⟩ := IsRow.rd (w := W) (a := some x) (len := l) (cap := c) (zs := zs) (.inr ⟨x, rfl, hl, hm, by simpa using hz, hcell, hwz⟩)
    subst hl'
    exact ⟨b, some x, c, xs, rfl, hr⟩
end Go.Proofs.YtbcaigpdckencaaDoor
