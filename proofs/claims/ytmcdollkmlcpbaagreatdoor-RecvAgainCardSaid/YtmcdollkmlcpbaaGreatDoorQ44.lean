/- Joined: Bk33. -/
import Derived.Test.YtmcdollkmlcpbaaGreatDoorQ41
import Derived.Test.YtmcdollkmlcpbaaGreatDoorQ42
set_option linter.unusedSimpArgs false
set_option linter.unusedVariables false
set_option linter.unusedSimpArgs false
set_option linter.unusedVariables false
namespace Go.Proofs.YtmcdollkmlcpbaaGreatDoor
open Go.RowKit
set_option maxRecDepth 100000
structure FrE where
 f : FrD
 A : Option Addr
 c : Nat
def encFrE (x : FrE) : List Value := (frC x.f x.A x.c).toList
theorem Tryz.eltFrE : Elt Tryz.prog 23 39 encFrE 11 72 := ⟨Tryz.underlying23, ⟨.agg zFc, by kernel_rfl, rfl⟩, by decide, fun _ => rfl, fun x v h => by
 unfold encFrE frC at h
 simp only [List.mem_cons, List.not_mem_nil, or_false] at h
 rcases h with rfl | rfl | rfl | rfl | rfl | rfl | rfl | rfl | rfl | rfl | rfl <;> rfl⟩
end Go.Proofs.YtmcdollkmlcpbaaGreatDoor
