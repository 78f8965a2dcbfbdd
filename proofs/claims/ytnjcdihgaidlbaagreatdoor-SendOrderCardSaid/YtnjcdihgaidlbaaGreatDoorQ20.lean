/- Joined: Smp. -/
import Derived.Test.YtnjcdihgaidlbaaGreatDoorQ8
import Derived.ProofKit
import Derived.OpenShut
import Derived.Lib.SmallJoins
import Derived.Carry
import Derived.Deep.SlicePairs
set_option linter.unusedSimpArgs false
set_option linter.unusedVariables false
namespace Go.Proofs.YtnjcdihgaidlbaaGreatDoor
open Go.RowKit Go.ChangeShapes Go.WideShapes Go.ChangeAt Go.Joins Go.Deep
set_option maxRecDepth 100000
theorem addS (p o i : Nat) : (⟨p, o, none⟩ : Addr).add i = ⟨p, o + i, none⟩ := by
 unfold Addr.add
 split
 ·rename_i h0; subst h0; rfl
 ·rfl
section
variable {H : Type} {enc : TypeId × Value → H} {W : World}
end
end Go.Proofs.YtnjcdihgaidlbaaGreatDoor
