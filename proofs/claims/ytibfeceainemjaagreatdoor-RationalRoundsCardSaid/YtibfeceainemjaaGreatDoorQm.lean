/- The two divisions together. -/
import Derived.Test.YtibfeceainemjaaGreatDoorQRdl

set_option linter.unusedVariables false
set_option linter.unusedSimpArgs false
set_option linter.unusedSectionVars false

namespace Go.Proofs.YtibfeceainemjaaGreatDoor
open Go.RowKit Num

theorem rdivmod_any (aa ab : Option Addr) (ca cb : Nat) (xs ys : List Nat) (w : World) (ha : Rd w aa ca xs) (hb : Rd w ab cb ys) (h0 : val ys ≠ 0) (hl1 : xs.length ≤ 4398046511104) (hl2 : ys.length ≤ 4398046511104) :
    Calls Tryz.prog 180 #[.slice aa xs.length ca, .slice ab ys.length cb] w (RetDiv w.heap.size (nd (val xs / val ys)) (nd (val xs % val ys)) 0 w) := by
  have hl0 : (nd (val ys)).length ≠ 0 := fun h => h0 (nd_eq_nil.1 (List.eq_nil_of_length_eq_zero h))
  by_cases h1 : (nd (val ys)).length = 1
  · obtain ⟨d, hd⟩ := List.length_eq_one_iff.1 h1
    exact rdivmod_one aa ab ca cb d xs ys w ha hb hd (by omega) (by omega)
  · obtain ⟨n, hn⟩ : ∃ n, (nd (val ys)).length = n + 2 := ⟨(nd (val ys)).length - 2, by omega⟩
    by_cases hlt : val xs < val ys
    · exact rdivmod_less aa ab ca cb n xs ys w ha hb hn hlt (by omega) (by omega)
    · exact rdivmod_long aa ab ca cb n xs ys w ha hb hn (by omega) hl1 hl2
theorem divmods (aa ab : Option Addr) (ca cb : Nat) (xs ys : List Nat) (w : World) (ha : Rd w aa ca xs) (hb : Rd w ab cb ys) (hl1 : xs.length ≤ 4398046511104) (hl2 : ys.length ≤ 4398046511104) :
    ∃ (Q R : List Nat) (E : Int), Calls Tryz.prog 158 #[.slice aa xs.length ca, .slice ab ys.length cb] w (RetDiv w.heap.size Q R E w) ∧
      ∀ w1, Below w.heap.size w w1 → Calls Tryz.prog 180 #[.slice aa xs.length ca, .slice ab ys.length cb] w1 (RetDiv w1.heap.size Q R E w1) := by
  by_cases h0 : val ys = 0
  · exact ⟨[], [], 3, divmod_zero aa ab ca cb xs ys w ha hb h0, fun w1 hb1 => rdivmod_zero aa ab ca cb xs ys w1 (ha.below hb1) (hb.below hb1) h0 (by omega) (by omega)⟩
  · exact ⟨_, _, 0, divmod_any aa ab ca cb xs ys w ha hb h0 (by omega), fun w1 hb1 => rdivmod_any aa ab ca cb xs ys w1 (ha.below hb1) (hb.below hb1) h0 hl1 hl2⟩
end Go.Proofs.YtibfeceainemjaaGreatDoor
