/-  -/
import Derived.Test.YtcankknlbljicaaGreatDoorYf

set_option linter.unusedVariables false
set_option linter.unusedSimpArgs false
set_option linter.unusedSectionVars false
set_option maxRecDepth 100000
set_option maxHeartbeats 3200000

namespace Go.Proofs.YtcankknlbljicaaGreatDoor
open Go.RowKit Num

def fmtS (v:Nat):ByteArray:=bstr (decT v)
def RetFmt (v:Nat) (w:World) (e:Ending) (w':World):Prop:=e = .returned (.string (fmtS v))∧Below w.heap.size w w'

end Go.Proofs.YtcankknlbljicaaGreatDoor
