/- Joined: Smp. -/
import Derived.Test.YtiipmjdmmoaodaaGreatDoorQ8
import Derived.ProofKit
import Derived.OpenShut
import Derived.Lib.SmallJoins
import Derived.Carry
import Derived.Deep.SlicePairs
set_option linter.unusedSimpArgs false
set_option linter.unusedVariables false
/- Slices of samples: as they read, as the call's own; opened as a parameter. -/
namespace Go.Proofs.YtiipmjdmmoaodaaGreatDoor
open Go.RowKit Go.ChangeShapes Go.WideShapes Go.ChangeAt Go.Joins Go.Deep
set_option maxRecDepth 100000

/-- the cells from V on hold samples -/
def Ss (w : World) (V : Option Addr) (l : List (Int × Nat)) : Prop :=
  ∀ i s, l[i]? = some s → ∃ p o, V = some ⟨p, o, none⟩ ∧ w.cell? ⟨p, o + i * 2, none⟩ = some (.int .i64 s.1) ∧ w.cell? ⟨p, o + i * 2 + 1, none⟩ = some (.int .u64 s.2)
theorem Ss.below {w w' : World} {V : Option Addr} {l : List (Int × Nat)} (h : Ss w V l) (hb : Below w.heap.size w w') : Ss w' V l := fun i s hi => by
  obtain ⟨p, o, hV, h1, h2⟩ := h i s hi
  exact ⟨p, o, hV, (hb.cell (cell_lt h1)).trans h1, (hb.cell (cell_lt h2)).trans h2⟩
def smp (s : Int × Nat) : List Value := [.int .i64 s.1, .int .u64 s.2]
theorem Tryz.eltS : Elt Tryz.prog 45 33 smp 2 16 := ⟨Tryz.underlying45, ⟨.agg #[.int .i64 0, .int .u64 0], by kernel_rfl, rfl⟩, by decide, fun _ => rfl, fun x v h => by
  simp [smp] at h; rcases h with rfl | rfl <;> rfl⟩
theorem Rw.ss {w : World} {V : Option Addr} {l : List (Int × Nat)} (h : Rw w smp 2 V l) : Ss w V l := fun i s hi => by
  obtain ⟨p, o, hV, hc⟩ := h i s hi
  exact ⟨p, o, hV, hc 0 _ rfl, hc 1 _ rfl⟩
theorem Ss.nil (w : World) (V : Option Addr) : Ss w V [] := fun i s h => by simp at h
theorem Ss.take {w : World} {V : Option Addr} {l : List (Int × Nat)} (h : Ss w V l) (k : Nat) : Ss w V (l.take k) := fun i s hi => h i s (by
  rw [List.getElem?_take] at hi
  split at hi
  · exact hi
  · cases hi)
theorem Ss.drop {w : World} {p o : Nat} {l : List (Int × Nat)} (h : Ss w (some ⟨p, o, none⟩) l) (k : Nat) : Ss w (some ⟨p, o + k * 2, none⟩) (l.drop k) := fun i s hi => by
  rw [List.getElem?_drop] at hi
  obtain ⟨p', o', hV, h1, h2⟩ := h _ s hi
  injection hV with e
  injection e with e1 e2 _
  subst e1; subst e2
  refine ⟨p, o + k * 2, rfl, ?_, ?_⟩
  · rw [← h1]; congr 2; omega
  · rw [← h2]; congr 2; omega

theorem addS (p o i : Nat) : (⟨p, o, none⟩ : Addr).add i = ⟨p, o + i, none⟩ := by
  unfold Addr.add
  split
  · rename_i h0; subst h0; rfl
  · rfl

section
variable {H : Type} {enc : TypeId × Value → H} {W : World}
end

end Go.Proofs.YtiipmjdmmoaodaaGreatDoor
