/- Joined: Smp. -/
import Derived.Test.YtnjcdihgaidlbaaGreatDoorQ8
import Derived.ProofKit
import Derived.OpenShut
import Derived.Lib.SmallJoins
import Derived.Carry
import Derived.Deep.SlicePairs
set_option linter.unusedSimpArgs false
set_option linter.unusedVariables false
namespace Go.Proofs.YtnjcdihgaidlbaaGreatDoor
open Go.RowKit Go.ChangeShapes Go.WideShapes Go.ChangeAt Go.Joins Go.Deep
set_option maxRecDepth 100000
def smp (s : Int × Nat) : List Value := [.int .i64 s.1, .int .u64 s.2]
theorem Tryz.eltS : Elt Tryz.prog 58 70 smp 2 16 := ⟨Tryz.underlying58, ⟨.agg #[.int .i64 0, .int .u64 0], by kernel_rfl, rfl⟩, by decide, fun _ => rfl, fun x v h => by
 simp [smp] at h; rcases h with rfl | rfl <;> rfl⟩
theorem addS (p o i : Nat) : (⟨p, o, none⟩ : Addr).add i = ⟨p, o + i, none⟩ := by
 unfold Addr.add
 split
 ·rename_i h0; subst h0; rfl
 ·rfl
section
variable {H : Type} {enc : TypeId × Value → H} {W : World}
end
end Go.Proofs.YtnjcdihgaidlbaaGreatDoor
