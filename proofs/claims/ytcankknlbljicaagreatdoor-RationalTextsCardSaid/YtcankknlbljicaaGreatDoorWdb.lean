/-  -/
import Derived.Test.YtcankknlbljicaaGreatDoorW4

set_option linter.unusedVariables false
set_option linter.unusedSimpArgs false
set_option linter.unusedSectionVars false
set_option maxRecDepth 100000
set_option maxHeartbeats 3200000

namespace Go.Proofs.YtcankknlbljicaaGreatDoor
open Go.RowKit Num

def RetFo (ao0 ad0 : Option Addr) (xs0 ds0 : List Nat) (q : Rat) (n m : Nat) (w : World) (e : Ending) (w' : World) : Prop :=
 ∃ b ao c xs ad d ds, e = .returned (.agg #[.bool b, .slice ao xs.length c, .slice ad ds.length d]) ∧ Rd w' ao c xs ∧ Rd w' ad d ds ∧ val ds ≠ 0 ∧ mkRat (iv b (val xs)) (val ds) = q ∧ xs.length ≤ n ∧ ds.length ≤ m ∧
  ((ao = ao0 ∧ xs = xs0 ∧ ad = ad0 ∧ ds = ds0) ∨ (xs = [] ∧ Own w.heap.size w' ad d ds)) ∧ Below w.heap.size w w'

def P2S (u wx : World) (g5 g6 : Nat) (q1 q2 : Rat) (n1 n2 : Nat) : Prop :=
 ∃ b3 a3 c3 x3 d3 e3 y3 b4 a4 c4 x4 d4 e4 y4, wx.heap[g5]? = some (.cells #[.bool b3, .slice a3 (List.length x3) c3, .slice d3 (List.length y3) e3] 122 (0, 0)) ∧ wx.heap[g6]? = some (.cells #[.bool b4, .slice a4 (List.length x4) c4, .slice d4 (List.length y4) e4] 122 (0, 0)) ∧
  Fr wx b3 a3 c3 x3 d3 e3 y3 q1 n1 ∧ Fr wx b4 a4 c4 x4 d4 e4 y4 q2 n2 ∧ Below u.heap.size u wx ∧ u.heap.size ≤ g5 ∧ u.heap.size ≤ g6 ∧ g5 ≠ g6
end Go.Proofs.YtcankknlbljicaaGreatDoor

namespace Go.Proofs.YtcankknlbljicaaGreatDoor
open Go.RowKit Num

end Go.Proofs.YtcankknlbljicaaGreatDoor

namespace Go.Proofs.YtcankknlbljicaaGreatDoor
open Go.RowKit Num

end Go.Proofs.YtcankknlbljicaaGreatDoor

namespace Go.Proofs.YtcankknlbljicaaGreatDoor
open Go.RowKit Num

end Go.Proofs.YtcankknlbljicaaGreatDoor
