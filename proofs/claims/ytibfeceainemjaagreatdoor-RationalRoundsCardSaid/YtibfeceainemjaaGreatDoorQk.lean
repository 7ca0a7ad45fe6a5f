/- Lengths of sums and products; comparisons; roots. -/
import Derived.Test.YtibfeceainemjaaGreatDoorQi

set_option linter.unusedVariables false
set_option linter.unusedSimpArgs false
set_option linter.unusedSectionVars false

namespace Go.Proofs.YtibfeceainemjaaGreatDoor
open Go.RowKit Num

theorem len_add {u v j k : Nat} (h : (nd u).length ≤ j) (h2 : (nd v).length ≤ k) : (nd (u + v)).length ≤ j + k + 1 := by
  have e1 : u < 4294967296 ^ (j + k) := Nat.lt_of_lt_of_le (val_nd u ▸ val_lt_of (wf_nd u) h) (Nat.pow_le_pow_right (by omega) (by omega))
  have e2 : v < 4294967296 ^ (j + k) := Nat.lt_of_lt_of_le (val_nd v ▸ val_lt_of (wf_nd v) h2) (Nat.pow_le_pow_right (by omega) (by omega))
  exact nd_length_add e1 e2
theorem len_mul {u v j k : Nat} (h : (nd u).length ≤ j) (h2 : (nd v).length ≤ k) : (nd (u * v)).length ≤ j + k :=
  nd_length_mul (val_nd u ▸ val_lt_of (wf_nd u) h) (val_nd v ▸ val_lt_of (wf_nd v) h2)
theorem cmp_le {a b : Nat} (h : a ≤ b) : cmpN a b ≤ 0 := by unfold cmpN; split <;> (try split) <;> omega
theorem root_le {n a r : Nat} (h : isRoot n a r) (hn : 1 ≤ n) : r ≤ a := Nat.le_trans (by
  cases r with
  | zero => exact Nat.zero_le _
  | succ r => exact Nat.le_trans (by simp) (Nat.pow_le_pow_right (by omega) hn : (r + 1) ^ 1 ≤ (r + 1) ^ n)) h.1
end Go.Proofs.YtibfeceainemjaaGreatDoor
