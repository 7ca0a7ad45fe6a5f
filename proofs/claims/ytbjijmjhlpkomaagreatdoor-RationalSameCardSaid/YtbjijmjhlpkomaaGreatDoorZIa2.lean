/-  -/
import Derived.Test.YtbjijmjhlpkomaaGreatDoorZIa1

set_option linter.unusedVariables false
set_option linter.unusedSimpArgs false
set_option linter.unusedSectionVars false
set_option maxRecDepth 100000
set_option maxHeartbeats 3200000

namespace Go.Proofs.YtbjijmjhlpkomaaGreatDoor
open Go.RowKit Num

def AddS (w wx : World) (A B : Int) (a1 a2 : Option Addr) (c1 c2 : Nat) : Prop :=
 wx.heap[w.heap.size]? = some (.cells #[.bool (decide (A < 0)), .slice a1 (nd A.natAbs).length c1] 24 (0, 0)) ∧ wx.heap[w.heap.size + 1]? = some (.cells #[.bool (decide (B < 0)), .slice a2 (nd B.natAbs).length c2] 24 (0, 0)) ∧
 wx.heap[w.heap.size + 2]? = some (.cells #[.bool false, .slice none 0 0] 24 (0, 0)) ∧
 Own (w.heap.size + 3) wx a1 c1 (nd A.natAbs) ∧ Own (w.heap.size + 3) wx a2 c2 (nd B.natAbs) ∧ Below w.heap.size w wx ∧ w.heap.size + 3 ≤ wx.heap.size
theorem AddS.of {w w4 : World} {A B : Int} {a1 a2 : Option Addr} {c1 c2 : Nat} {p1 p2 p3 p4 : Value}
   (h0 : w4.heap[w.heap.size]? = some (.cells #[p1, p2] 24 (0, 0))) (h1 : w4.heap[w.heap.size + 1]? = some (.cells #[p3, p4] 24 (0, 0)))
   (h2 : w4.heap[w.heap.size + 2]? = some (.cells #[.bool false, .slice none 0 0] 24 (0, 0)))
   (o1 : Own (w.heap.size + 3) w4 a1 c1 (nd A.natAbs)) (o2 : Own (w.heap.size + 3) w4 a2 c2 (nd B.natAbs)) (hb : Below w.heap.size w w4) (hs : w.heap.size + 3 ≤ w4.heap.size) :
   AddS w ((((w4.setCell ⟨w.heap.size, 0, none⟩ (.bool (decide (A < 0)))).setCell ⟨w.heap.size, 1, none⟩ (.slice a1 (nd A.natAbs).length c1)).setCell ⟨w.heap.size + 1, 0, none⟩ (.bool (decide (B < 0)))).setCell ⟨w.heap.size + 1, 1, none⟩ (.slice a2 (nd B.natAbs).length c2)) A B a1 a2 c1 c2 := by
 have n1 : w.heap.size ≠ w.heap.size + 1 := by omega
 have n2 : w.heap.size + 1 ≠ w.heap.size := by omega
 refine ⟨?_, ?_, ?_, (((o1.setOld (by omega) _).setOld (by omega) _).setOld (by omega) _).setOld (by omega) _, (((o2.setOld (by omega) _).setOld (by omega) _).setOld (by omega) _).setOld (by omega) _, (((hb.setCell (p := ⟨w.heap.size, 0, none⟩) (Nat.le_refl _) _).setCell (p := ⟨w.heap.size, 1, none⟩) (Nat.le_refl _) _).setCell (p := ⟨w.heap.size + 1, 0, none⟩) (Nat.le_succ _) _).setCell (p := ⟨w.heap.size + 1, 1, none⟩) (Nat.le_succ _) _, ?_⟩
 · rw [Below.heap_setCell _ ⟨w.heap.size + 1, 1, none⟩ _ _ n1, Below.heap_setCell _ ⟨w.heap.size + 1, 0, none⟩ _ _ n1]
   exact Go.Joins.block_setCell (i := 1) (Go.Joins.block_setCell (i := 0) h0 _) _
 · have h1' : ((w4.setCell ⟨w.heap.size, 0, none⟩ (.bool (decide (A < 0)))).setCell ⟨w.heap.size, 1, none⟩ (.slice a1 (nd A.natAbs).length c1)).heap[w.heap.size + 1]? = some (.cells #[p3, p4] 24 (0, 0)) := by
     rw [Below.heap_setCell _ ⟨w.heap.size, 1, none⟩ _ _ n2, Below.heap_setCell _ ⟨w.heap.size, 0, none⟩ _ _ n2]; exact h1
   exact Go.Joins.block_setCell (i := 1) (Go.Joins.block_setCell (i := 0) h1' _) _
 · rw [Below.heap_setCell _ ⟨w.heap.size + 1, 1, none⟩ _ _ (show w.heap.size + 2 ≠ w.heap.size + 1 by omega), Below.heap_setCell _ ⟨w.heap.size + 1, 0, none⟩ _ _ (show w.heap.size + 2 ≠ w.heap.size + 1 by omega), Below.heap_setCell _ ⟨w.heap.size, 1, none⟩ _ _ (show w.heap.size + 2 ≠ w.heap.size by omega), Below.heap_setCell _ ⟨w.heap.size, 0, none⟩ _ _ (show w.heap.size + 2 ≠ w.heap.size by omega)]
   exact h2
 · rw [setCell_size, setCell_size, setCell_size, setCell_size]; exact hs

end Go.Proofs.YtbjijmjhlpkomaaGreatDoor
