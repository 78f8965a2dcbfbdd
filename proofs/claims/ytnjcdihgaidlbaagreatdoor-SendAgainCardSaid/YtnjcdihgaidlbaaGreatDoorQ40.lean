/- Joined: Chk10. -/
import Derived.Test.YtnjcdihgaidlbaaGreatDoorQ37
import Derived.Test.YtnjcdihgaidlbaaGreatDoorQ27
import Derived.Test.YtnjcdihgaidlbaaGreatDoorQ8
import Derived.Deep.RegionHeld3
import Derived.Test.YtnjcdihgaidlbaaGreatDoorQ38
import Derived.Test.YtnjcdihgaidlbaaGreatDoorQ20
import Derived.Test.YtnjcdihgaidlbaaGreatDoorQ2
import Derived.Test.YtnjcdihgaidlbaaGreatDoorQ5
import Derived.Test.YtnjcdihgaidlbaaGreatDoorQ14
import Derived.Outline
import Derived.Test.YtnjcdihgaidlbaaGreatDoorQ10
set_option linter.unusedSimpArgs false
set_option linter.unusedVariables false
namespace Go.Proofs.YtnjcdihgaidlbaaGreatDoor
open Go.RowKit
set_option maxRecDepth 100000
theorem codesC_le (l : List (Int × Nat)) (k : Nat) (hl : l.length ≤ 1000) (hi : InC l) : (codesC ec0 (l.take k)).length ≤ 146000 := by
 have h := rows_ok (l.take k) ec0 ok0 (Int.le_refl _) (by rw [List.length_take]; show (0 : Int) + _ ≤ _; omega) (fun s hs => hi s (List.mem_of_mem_take hs))
 have := h.2.2.1
 rw [List.length_take] at this
 omega
end Go.Proofs.YtnjcdihgaidlbaaGreatDoor
