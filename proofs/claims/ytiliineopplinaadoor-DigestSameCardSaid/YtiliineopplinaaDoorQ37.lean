/- Joined: Chk16. -/
import Derived.Test.YtiliineopplinaaDoorQ36
import Derived.Test.YtiliineopplinaaDoorQ35
import Derived.Deep.RegionHeld3
import Derived.Test.YtiliineopplinaaDoorQ34
import Derived.Test.YtiliineopplinaaDoorQ8
import Derived.Test.YtiliineopplinaaDoorQ5
import Derived.Test.YtiliineopplinaaDoorQ25
import Derived.Test.YtiliineopplinaaDoorQ2
import Derived.Test.YtiliineopplinaaDoorQ20
import Derived.RangeFuncNested
import Derived.RangeFuncBound
import Derived.RangeFuncCalls
import Derived.RangeFuncLeaves
import Derived.RangeFuncBox
import Derived.Shelf.Abstract
import Derived.Shelf.RegionOpen
import Derived.WalkKit
import Derived.OwnWalkIn
import Derived.TacticsInMore
import Derived.LoopNIn
import Derived.LoopIn
import Derived.Maps.AppendAt
import Derived.Sort.CutIn
set_option linter.unusedSimpArgs false
set_option linter.unusedVariables false
/- Layer 6: the program's readings. -/
namespace Go.Proofs.YtiliineopplinaaDoor
open Go.RowKit Go.Shelf
set_option maxRecDepth 100000

attribute [local go_sem] Oper.semAt_some

/-- the readings from a place on -/
def rdC (l : List UInt8) (m : Nat) : Nat → EC → Nat → List RC
  | 0, _, _ => []
  | f + 1, e, a => if m ≤ a then [] else gotC l m e a :: (if (gotC l m e a).c = 0 then rdC l m f (gotC l m e a).e (gotC l m e a).nd.toNat else [])
def rdsC (l : List UInt8) (nb : Int) : List RC := if soundB l nb = false then [rc0 11] else rdC l nb.toNat nb.toNat ec0 0

end Go.Proofs.YtiliineopplinaaDoor
