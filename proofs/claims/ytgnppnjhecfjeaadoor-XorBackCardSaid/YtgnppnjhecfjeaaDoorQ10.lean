/- Joined: Frame0, FrameV. -/
import Derived.Test.YtgnppnjhecfjeaaDoorQ6
import Derived.ProofKit
import Derived.OpenShut
import Derived.Lib.SmallJoins
import Derived.Carry
set_option linter.unusedSimpArgs false
set_option linter.unusedVariables false
/- What every statement's frame needs. -/
namespace Go.Proofs.YtgnppnjhecfjeaaDoor
open Go.ChangeShapes Go.WideShapes Go.ChangeAt Go.RowKit Go.Joins
set_option maxRecDepth 100000

theorem Tryd.own : ownKnob Tryd.prog.godebug = none := by kernel_rfl
theorem Tryd.laidOut : laidOutB Tryd.prog = true := by kernel_rfl

end Go.Proofs.YtgnppnjhecfjeaaDoor

/- A slice of numbers, as a reading gives it. -/
namespace Go.Proofs.YtgnppnjhecfjeaaDoor
open Go.ChangeShapes Go.WideShapes Go.ChangeAt Go.RowKit Go.Joins
set_option maxRecDepth 100000

/-- the cells from V on hold these values -/
def Vs (w : World) (V : Option Addr) (l : List Value) : Prop := ∀ i v, l[i]? = some v → ∃ p o, V = some ⟨p, o, none⟩ ∧ w.cell? ⟨p, o + i, none⟩ = some v
theorem Vs.below {w w' : World} {V : Option Addr} {l : List Value} (h : Vs w V l) (hb : Below w.heap.size w w') : Vs w' V l := fun i v hi => by
  obtain ⟨p, o, hV, h1⟩ := h i v hi
  exact ⟨p, o, hV, (hb.cell (cell_lt h1)).trans h1⟩

theorem open_intsV {P : Program} {H : Type} {enc : TypeId × Value → H} {W : World} {t e : TypeId} {k : IntKind} {sp : Nat → Bool} {held : Bool} {b0 fuel : Nat} {V : Option Addr} {len0 cap0 : Nat} {x : DataW H × List MemPlace} (ht : P.underlying t = some (.slice e)) (he : P.underlying e = some (.int k)) (hc : P.cellsOf e = 1)
    (h : DataW.trod enc P W b0 sp held fuel t (Value.slice V len0 cap0).cells.toList = some x) :
    ∃ l : List Int, l.length = len0 ∧ Vs W V (l.map (Value.int k)) ∧ len0 ≤ maxLen ∧ ∀ x ∈ l, (Lit.int k x).wf = true := by
  rcases open_ints ht he hc h with ⟨hcs, _⟩ | ⟨a, len, cap, zs, hcs, _, hl, hm, hz, _, hcell, hwz⟩
  · simp [Value.cells] at hcs
    obtain ⟨rfl, rfl, rfl⟩ := hcs
    exact ⟨[], rfl, fun i v h => by simp at h, Nat.zero_le _, fun x h => by simp at h⟩
  · simp [Value.cells] at hcs
    obtain ⟨rfl, rfl, rfl⟩ := hcs
    have hlen : len0 ≤ zs.length := by rw [hz]; split <;> omega
    refine ⟨zs.take len0, by rw [List.length_take]; omega, fun i v hi => ?_, by omega, fun x hx => hwz x (List.mem_of_mem_take hx)⟩
    rw [List.getElem?_map, List.getElem?_take] at hi
    split at hi
    · rename_i hil
      have hil' : i < zs.length := by omega
      rw [List.getElem?_eq_getElem hil'] at hi
      simp at hi
      subst hi
      have h1 := hcell i hil'
      have h0 := hcell 0 (by omega)
      obtain ⟨p, o, s⟩ := a
      have hs : s = none := by simpa [Addr.add] using World.cell?_spot h0
      subst hs
      refine ⟨p, o, rfl, ?_⟩
      rw [List.getD_eq_getElem?_getD, List.getElem?_eq_getElem hil'] at h1
      rw [show (⟨p, o + i, none⟩ : Addr) = (⟨p, o, none⟩ : Addr).add i from by
        unfold Addr.add
        split
        · rename_i h0; subst h0; rfl
        · rfl]
      exact h1
    · cases hi

end Go.Proofs.YtgnppnjhecfjeaaDoor
