/-  -/
import Derived.Test.YtcankknlbljicaaGreatDoorWi

set_option linter.unusedVariables false
set_option linter.unusedSimpArgs false
set_option linter.unusedSectionVars false
set_option maxRecDepth 100000
set_option maxHeartbeats 3200000

namespace Go.Proofs.YtcankknlbljicaaGreatDoor
open Go.RowKit Num

theorem len_add {u v j k : Nat} (h : (nd u).length ≤ j) (h2 : (nd v).length ≤ k) : (nd (u + v)).length ≤ j + k + 1 := by
 have e1 : u < 4294967296 ^ (j + k) := Nat.lt_of_lt_of_le (val_nd u ▸ val_lt_of (wf_nd u) h) (Nat.pow_le_pow_right (by omega) (by omega))
 have e2 : v < 4294967296 ^ (j + k) := Nat.lt_of_lt_of_le (val_nd v ▸ val_lt_of (wf_nd v) h2) (Nat.pow_le_pow_right (by omega) (by omega))
 exact nd_length_add e1 e2
theorem len_mul {u v j k : Nat} (h : (nd u).length ≤ j) (h2 : (nd v).length ≤ k) : (nd (u * v)).length ≤ j + k :=
 nd_length_mul (val_nd u ▸ val_lt_of (wf_nd u) h) (val_nd v ▸ val_lt_of (wf_nd v) h2)
end Go.Proofs.YtcankknlbljicaaGreatDoor
