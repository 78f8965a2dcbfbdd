/- Joined: Bk48. -/
import Derived.Test.YtnjcdihgaidlbaaGreatDoorQ46
import Derived.Test.YtnjcdihgaidlbaaGreatDoorQ45
set_option linter.unusedSimpArgs false
set_option linter.unusedVariables false
set_option linter.unusedSimpArgs false
set_option linter.unusedVariables false
namespace Go.Proofs.YtnjcdihgaidlbaaGreatDoor
open Go.RowKit
set_option maxRecDepth 100000
def frB (y : FrE) : Kt := thO (.slice y.A y.f.l.length y.c) y.f.l
def chT (v : Value) (T : List FrE) : List Kt := thR 46 encFrE 11 v T :: T.map frB
end Go.Proofs.YtnjcdihgaidlbaaGreatDoor
