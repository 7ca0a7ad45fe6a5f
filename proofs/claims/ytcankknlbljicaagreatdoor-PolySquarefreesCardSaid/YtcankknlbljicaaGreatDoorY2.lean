/-  -/
import Derived.Test.YtcankknlbljicaaGreatDoorY1

set_option linter.unusedVariables false
set_option linter.unusedSimpArgs false
set_option linter.unusedSectionVars false
set_option maxRecDepth 100000
set_option maxHeartbeats 3200000

namespace Go.Proofs.YtcankknlbljicaaGreatDoor
open Go.RowKit Num

def canon (b:Bool) (xs ds:List Nat):Prop:=(nrm xs∧¬ (b=true∧xs = []))∧nrm ds∧ds≠[]∧Nat.gcd (val xs) (val ds)=1
end Go.Proofs.YtcankknlbljicaaGreatDoor
