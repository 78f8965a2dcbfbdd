/- Joined: FrameS, FrameF. -/
import Derived.Test.YtnjcdihgaidlbaaGreatDoorQ15
import Derived.Test.YtnjcdihgaidlbaaGreatDoorQ8
import Derived.Lib.SmallJoins
import Derived.Deep.Fields
import Derived.Deep.Slices
import Derived.ProofKit
import Derived.OpenShut
import Derived.Carry
import Derived.Test.YtnjcdihgaidlbaaGreatDoorQ5
set_option linter.unusedSimpArgs false
set_option linter.unusedVariables false
set_option linter.unusedSimpArgs false
set_option linter.unusedVariables false
namespace Go.Proofs.YtnjcdihgaidlbaaGreatDoor
open Go.Joins Go.ChangeShapes Go.WideShapes Go.RowKit Go.Deep
set_option maxRecDepth 100000
section
variable {H : Type} {ench : TypeId × Value → H} {W : World} {P : Program}
theorem trodR {base n : Nat} {spare : Nat → Bool} {held : Bool} {fs : Array Field} {cs : List Value} {xs : List (DataW H × List MemPlace)} (hlen : xs.length = fs.size)
  (hg : ∀ (i : Nat) (f : Field), fs[i]? = some f → DataW.trod ench P W base spare held n f.type ((cs.drop f.offset).take (P.cellsOf f.type)) = xs[i]?) (i : Nat) {ty : TypeId} {off k : Nat} (hf : fs[i]?.map (fun f => (f.type, f.offset)) = some (ty, off)) (hk : P.cellsOf ty = k) :
  ∃ y, DataW.trod ench P W base spare held n ty ((cs.drop off).take k) = some y := by
 obtain ⟨f, hff, e⟩ := Option.map_eq_some_iff.1 hf
 simp only [Prod.mk.injEq] at e
 obtain ⟨rfl, rfl⟩ := e
 subst hk
 have hi : i < xs.length := by rw [hlen]; exact (Array.getElem?_eq_some_iff.1 hff).1
 exact ⟨xs[i], (hg i f hff).trans (List.getElem?_eq_getElem hi)⟩
end
end Go.Proofs.YtnjcdihgaidlbaaGreatDoor
set_option linter.unusedSimpArgs false
set_option linter.unusedVariables false
namespace Go.Proofs.YtnjcdihgaidlbaaGreatDoor
open Go.Joins Go.ChangeShapes Go.WideShapes Go.RowKit Go.Deep
set_option maxRecDepth 100000
section
variable {H : Type} {ench : TypeId × Value → H} {W : World}
theorem Tryz.fCellsI : Tryz.prog.cellsOf 3 = 1 := by kernel_rfl
theorem ftrod_int {base n : Nat} {spare : Nat → Bool} {held : Bool} {c : Value} {y : DataW H × List MemPlace} (h : DataW.trod ench Tryz.prog W base spare held n 3 [c] = some y) : ∃ x : Int, c = .int .i64 x ∧ (-9223372036854775808 ≤ x ∧ x ≤ 9223372036854775807) := by
 obtain ⟨x, e, _, wx⟩ := DataW.trod_int Tryz.underlying3 h
 simp at e
 exact ⟨x, e, bounds_i64 wx⟩
end
end Go.Proofs.YtnjcdihgaidlbaaGreatDoor
