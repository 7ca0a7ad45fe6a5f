/-  -/
import Derived.Test.YtcankknlbljicaaGreatDoorWe
import Derived.Deep.RegionWith

set_option linter.unusedVariables false
set_option linter.unusedSimpArgs false
set_option linter.unusedSectionVars false
set_option maxRecDepth 100000
set_option maxHeartbeats 3200000

namespace Go.Proofs.YtcankknlbljicaaGreatDoor
open Go.RowKit Num

def ProdTo (n : Nat) : Prop := ∀ (aa ab : Option Addr) (ca cb : Nat) (xs ys : List Nat) (w : World), xs.length + ys.length < n → Rd w aa ca xs → Rd w ab cb ys → xs.length ≤ 4398046511104 → ys.length ≤ 4398046511104 →
  Calls Tryz.prog 215 #[.slice aa xs.length ca, .slice ab ys.length cb] w (RetOwn w.heap.size (nd (val xs * val ys)) w)

end Go.Proofs.YtcankknlbljicaaGreatDoor

namespace Go.Proofs.YtcankknlbljicaaGreatDoor
open Go.RowKit Num

end Go.Proofs.YtcankknlbljicaaGreatDoor
