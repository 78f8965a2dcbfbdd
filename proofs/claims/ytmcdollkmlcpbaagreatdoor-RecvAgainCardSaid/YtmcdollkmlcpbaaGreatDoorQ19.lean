/- Joined: Smp. -/
import Derived.Test.YtmcdollkmlcpbaaGreatDoorQ7
import Derived.ProofKit
import Derived.OpenShut
import Derived.Lib.SmallJoins
import Derived.Carry
import Derived.Deep.SlicePairs
set_option linter.unusedSimpArgs false
set_option linter.unusedVariables false
namespace Go.Proofs.YtmcdollkmlcpbaaGreatDoor
open Go.RowKit Go.ChangeShapes Go.WideShapes Go.ChangeAt Go.Joins Go.Deep
set_option maxRecDepth 100000
def Ss (w : World) (V : Option Addr) (l : List (Int × Nat)) : Prop :=
 ∀ i s, l[i]? = some s → ∃ p o, V = some ⟨p, o, none⟩ ∧ w.cell? ⟨p, o + i * 2, none⟩ = some (.int .i64 s.1) ∧ w.cell? ⟨p, o + i * 2 + 1, none⟩ = some (.int .u64 s.2)
theorem Ss.below {w w' : World} {V : Option Addr} {l : List (Int × Nat)} (h : Ss w V l) (hb : Below w.heap.size w w') : Ss w' V l := fun i s hi => by
 obtain ⟨p, o, hV, h1, h2⟩ := h i s hi
 exact ⟨p, o, hV, (hb.cell (cell_lt h1)).trans h1, (hb.cell (cell_lt h2)).trans h2⟩
def smp (s : Int × Nat) : List Value := [.int .i64 s.1, .int .u64 s.2]
theorem Tryz.eltS : Elt Tryz.prog 51 42 smp 2 16 := ⟨Tryz.underlying51, ⟨.agg #[.int .i64 0, .int .u64 0], by kernel_rfl, rfl⟩, by decide, fun _ => rfl, fun x v h => by
 simp [smp] at h; rcases h with rfl | rfl <;> rfl⟩
theorem Rw.ss {w : World} {V : Option Addr} {l : List (Int × Nat)} (h : Rw w smp 2 V l) : Ss w V l := fun i s hi => by
 obtain ⟨p, o, hV, hc⟩ := h i s hi
 exact ⟨p, o, hV, hc 0 _ rfl, hc 1 _ rfl⟩
theorem addS (p o i : Nat) : (⟨p, o, none⟩ : Addr).add i = ⟨p, o + i, none⟩ := by
 unfold Addr.add
 split
 ·rename_i h0; subst h0; rfl
 ·rfl
section
variable {H : Type} {enc : TypeId × Value → H} {W : World}
end
end Go.Proofs.YtmcdollkmlcpbaaGreatDoor
