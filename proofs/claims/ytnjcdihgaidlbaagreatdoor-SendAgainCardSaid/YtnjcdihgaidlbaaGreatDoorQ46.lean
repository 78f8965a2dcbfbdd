/- Joined: Bk33. -/
import Derived.Test.YtnjcdihgaidlbaaGreatDoorQ44
import Derived.Test.YtnjcdihgaidlbaaGreatDoorQ41
import Derived.Test.YtnjcdihgaidlbaaGreatDoorQ37
import Derived.Test.YtnjcdihgaidlbaaGreatDoorQ27
import Derived.Test.YtnjcdihgaidlbaaGreatDoorQ8
import Derived.Deep.RegionHeld3
import Derived.Test.YtnjcdihgaidlbaaGreatDoorQ5
import Derived.Test.YtnjcdihgaidlbaaGreatDoorQ26
import Derived.Test.YtnjcdihgaidlbaaGreatDoorQ40
import Derived.Test.YtnjcdihgaidlbaaGreatDoorQ2
import Derived.Test.YtnjcdihgaidlbaaGreatDoorQ20
import Derived.Deep.RegionWith
import Derived.Test.YtnjcdihgaidlbaaGreatDoorQ43
set_option linter.unusedSimpArgs false
set_option linter.unusedVariables false
set_option linter.unusedSimpArgs false
set_option linter.unusedVariables false
namespace Go.Proofs.YtnjcdihgaidlbaaGreatDoor
open Go.RowKit
set_option maxRecDepth 100000
structure FrE where
 f : FrD
 A : Option Addr
 c : Nat
def encFrE (x : FrE) : List Value := (frC x.f x.A x.c).toList
theorem Tryz.eltFrE : Elt Tryz.prog 35 46 encFrE 11 72 := ⟨Tryz.underlying35, ⟨.agg zFc, by kernel_rfl, rfl⟩, by decide, fun _ => rfl, fun x v h => by
 unfold encFrE frC at h
 simp only [List.mem_cons, List.not_mem_nil, or_false] at h
 rcases h with rfl | rfl | rfl | rfl | rfl | rfl | rfl | rfl | rfl | rfl | rfl <;> rfl⟩
end Go.Proofs.YtnjcdihgaidlbaaGreatDoor
