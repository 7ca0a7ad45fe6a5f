/-  -/
import Derived.Test.YtbjijmjhlpkomaaGreatDoorZRpa

set_option linter.unusedVariables false
set_option linter.unusedSimpArgs false
set_option linter.unusedSectionVars false
set_option maxRecDepth 100000
set_option maxHeartbeats 3200000

namespace Go.Proofs.YtbjijmjhlpkomaaGreatDoor
open Go.RowKit Num

end Go.Proofs.YtbjijmjhlpkomaaGreatDoor

namespace Go.Proofs.YtbjijmjhlpkomaaGreatDoor
open Go.RowKit Num

theorem bstr_append (a b : List Nat) : bstr a ++ bstr b = bstr (a ++ b) := by
 unfold bstr
 rw [ByteArray.mk_append_mk]
 simp
theorem OwnB.one (w : World) (x : Nat) : OwnB w.heap.size (w.alloc (.cells #[.int .u8 (x : Int)] 5)) (some ⟨w.heap.size, 0, none⟩) 1 [x] :=
 ⟨by simp, Or.inr ⟨w.heap.size, 1, #[.int .u8 (x : Int)], rfl, Nat.le_refl _, heap_alloc_at w _, Nat.le_refl _, by decide, rfl, rfl⟩⟩
end Go.Proofs.YtbjijmjhlpkomaaGreatDoor
