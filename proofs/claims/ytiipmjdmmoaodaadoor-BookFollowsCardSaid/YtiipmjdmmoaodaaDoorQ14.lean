/- Joined: Frame0, FrameV, FrameH, Frame. -/
import Derived.Test.YtiipmjdmmoaodaaDoorQ7
import Derived.ProofKit
import Derived.OpenShut
import Derived.Lib.SmallJoins
import Derived.Carry
set_option linter.unusedSimpArgs false
set_option linter.unusedVariables false
/- What every statement's frame needs. -/
set_option linter.unusedSimpArgs false
set_option linter.unusedVariables false
namespace Go.Proofs.YtiipmjdmmoaodaaDoor
open Go.ChangeShapes Go.WideShapes Go.ChangeAt Go.RowKit Go.Joins
set_option maxRecDepth 100000

theorem Tryd.own : ownKnob Tryd.prog.godebug = none := by kernel_rfl
theorem Tryd.laidOut : laidOutB Tryd.prog = true := by kernel_rfl

end Go.Proofs.YtiipmjdmmoaodaaDoor

/- A slice of numbers, as a reading gives it. -/
namespace Go.Proofs.YtiipmjdmmoaodaaDoor
open Go.ChangeShapes Go.WideShapes Go.ChangeAt Go.RowKit Go.Joins
set_option maxRecDepth 100000

/-- the cells from V on hold these values -/
def Vs (w : World) (V : Option Addr) (l : List Value) : Prop := ∀ i v, l[i]? = some v → ∃ p o, V = some ⟨p, o, none⟩ ∧ w.cell? ⟨p, o + i, none⟩ = some v
theorem Vs.below {w w' : World} {V : Option Addr} {l : List Value} (h : Vs w V l) (hb : Below w.heap.size w w') : Vs w' V l := fun i v hi => by
  obtain ⟨p, o, hV, h1⟩ := h i v hi
  exact ⟨p, o, hV, (hb.cell (cell_lt h1)).trans h1⟩

theorem open_intsV {P : Program} {H : Type} {enc : TypeId × Value → H} {W : World} {t e : TypeId} {k : IntKind} {sp : Nat → Bool} {held : Bool} {b0 fuel : Nat} {V : Option Addr} {len0 cap0 : Nat} {x : DataW H × List MemPlace} (ht : P.underlying t = some (.slice e)) (he : P.underlying e = some (.int k)) (hc : P.cellsOf e = 1)
    (h : DataW.trod enc P W b0 sp held fuel t (Value.slice V len0 cap0).cells.toList = some x) :
    ∃ l : List Int, l.length = len0 ∧ Vs W V (l.map (Value.int k)) ∧ len0 ≤ maxLen ∧ ∀ x ∈ l, (Lit.int k x).wf = true := by
  rcases open_ints ht he hc h with ⟨hcs, _⟩ | ⟨a, len, cap, zs, hcs, _, hl, hm, hz, _, hcell, hwz⟩
  · simp [Value.cells] at hcs
    obtain ⟨rfl, rfl, rfl⟩ := hcs
    exact ⟨[], rfl, fun i v h => by simp at h, Nat.zero_le _, fun x h => by simp at h⟩
  · simp [Value.cells] at hcs
    obtain ⟨rfl, rfl, rfl⟩ := hcs
    have hlen : len0 ≤ zs.length := by rw [hz]; split <;> omega
    refine ⟨zs.take len0, by rw [List.length_take]; omega, fun i v hi => ?_, by omega, fun x hx => hwz x (List.mem_of_mem_take hx)⟩
    rw [List.getElem?_map, List.getElem?_take] at hi
    split at hi
    · rename_i hil
      have hil' : i < zs.length := by omega
      rw [List.getElem?_eq_getElem hil'] at hi
      simp at hi
      subst hi
      have h1 := hcell i hil'
      have h0 := hcell 0 (by omega)
      obtain ⟨p, o, s⟩ := a
      have hs : s = none := by simpa [Addr.add] using World.cell?_spot h0
      subst hs
      refine ⟨p, o, rfl, ?_⟩
      rw [List.getD_eq_getElem?_getD, List.getElem?_eq_getElem hil'] at h1
      rw [show (⟨p, o + i, none⟩ : Addr) = (⟨p, o, none⟩ : Addr).add i from by
        unfold Addr.add
        split
        · rename_i h0; subst h0; rfl
        · rfl]
      exact h1
    · cases hi

end Go.Proofs.YtiipmjdmmoaodaaDoor

/- The parameters of layer 12's statements, opened: slices of numbers of 16 bits. -/
namespace Go.Proofs.YtiipmjdmmoaodaaDoor
open Go.ChangeShapes Go.WideShapes Go.ChangeAt Go.RowKit Go.Joins
set_option maxRecDepth 100000

def encH (x : Nat) : List Value := [.int .u16 (x : Nat)]
section
variable {H : Type} {enc : TypeId × Value → H} {W : World}

/-- a slice of uint16 -/
theorem open_u16s {b0 : Nat} {v : Value} {d : DataW H} {p : List MemPlace} (hv : Value.okWide Tryd.prog W .any b0 60 v) (h : DataW.Trod enc Tryd.prog W 0 (fun _ => true) true 60 v d p) :
    ∃ (V : Option Addr) (c : Nat) (l : List Nat), v = .slice V l.length c ∧ Rw W encH 1 V l ∧ l.length ≤ maxLen ∧ ∀ x ∈ l, x < 65536 := by
  obtain ⟨a0, len0, cap0, rfl⟩ := okWide_slice Tryd.underlying60 hv
  obtain ⟨n, h⟩ := h
  obtain ⟨l, hl, hV, hm, hw⟩ := open_intsV Tryd.underlying60 Tryd.underlying23 (by kernel_rfl) h
  have hb : ∀ x ∈ l, 0 ≤ x ∧ x ≤ 65535 := fun x hx => by
    have := bounds_u16 (hw x hx)
    omega
  refine ⟨a0, cap0, l.map Int.toNat, by rw [List.length_map, hl], fun i x hi => ?_, by rw [List.length_map]; omega, fun x hx => ?_⟩
  · rw [List.getElem?_map] at hi
    obtain ⟨y, hy, rfl⟩ := Option.map_eq_some_iff.1 hi
    obtain ⟨p, o, hA, hc⟩ := hV i (.int .u16 y) (by rw [List.getElem?_map, hy]; rfl)
    refine ⟨p, o, hA, fun j v hj => ?_⟩
    match j, hj with
    | 0, hj =>
      injection hj with hj
      rw [Nat.mul_one, Nat.add_zero, hc, ← hj, Int.toNat_of_nonneg (hb y (List.mem_of_getElem? hy)).1]
    | j + 1, hj => simp [encH] at hj
  · obtain ⟨y, hy, rfl⟩ := List.mem_map.1 hx
    have := hb y hy
    omega
end

end Go.Proofs.YtiipmjdmmoaodaaDoor

/- The parameters of the statements, opened: what a reading gives to the walks. -/
namespace Go.Proofs.YtiipmjdmmoaodaaDoor
open Go.ChangeShapes Go.WideShapes Go.ChangeAt Go.RowKit Go.Joins
set_option maxRecDepth 100000


theorem wf_u8s {zs : List Int} (h : ∀ n ∈ zs, (Lit.int .u8 n).wf = true) : ∃ l : List UInt8, zs = l.map fun b => (b.toNat : Int) := by
  refine ⟨zs.map fun n => UInt8.ofNat n.toNat, ?_⟩
  rw [List.map_map]
  apply List.ext_getElem (by simp)
  intro i h1 h2
  simp only [List.getElem_map, Function.comp]
  have := bounds_u8 (h zs[i] (List.getElem_mem h1))
  rw [UInt8.toNat_ofNat_of_lt' (show zs[i].toNat < 256 by omega)]
  omega

section
variable {H : Type} {enc : TypeId × Value → H} {W : World}

/-- a slice of bytes, as one cell reads -/
theorem open_bytes {fuel : Nat} {v : Value} {x : DataW H × List MemPlace} {sp : Nat → Bool} {held : Bool} {b0 : Nat} (h : DataW.trod enc Tryd.prog W b0 sp held fuel 41 [v] = some x) :
    ∃ (A : Option Addr) (c : Nat) (l : List UInt8), v = .slice A l.length c ∧ l.length ≤ maxLen ∧ Bs W A l := by
  rcases open_ints Tryd.underlying41 Tryd.underlying5 (by kernel_rfl) h with ⟨hcs, _⟩ | ⟨a, len, cap, zs, hcs, _, hl, hm, hz, _, hcell, hwz⟩
  · simp at hcs
    exact ⟨none, 0, [], hcs, Nat.zero_le _, Bs.nil _ _⟩
  · simp at hcs
    obtain ⟨l, rfl⟩ := wf_u8s hwz
    have hlen : len ≤ l.length := by
      rw [List.length_map] at hz
      rw [hz]; split <;> omega
    refine ⟨some a, cap, l.take len, ?_, ?_, fun i b hi => ?_⟩
    · rw [List.length_take, Nat.min_eq_left hlen]; exact hcs
    · rw [List.length_take]; omega
    · rw [List.getElem?_take] at hi
      split at hi
      · rename_i hil
        have hil' : i < l.length := by omega
        have hc := hcell i (by rw [List.length_map]; exact hil')
        have e : (l.map fun b => (b.toNat : Int)).getD i 0 = (b.toNat : Int) := by
          rw [List.getD_eq_getElem?_getD, List.getElem?_map, hi]; rfl
        rw [e] at hc
        obtain ⟨p, o, spot⟩ := a
        have hc0 := hcell 0 (by rw [List.length_map]; omega)
        have hs : spot = none := by simpa [Addr.add] using World.cell?_spot hc0
        subst hs
        refine ⟨p, o, rfl, ?_⟩
        rw [← hc]
        congr 1
        unfold Addr.add
        split
        · rename_i h0; subst h0; rfl
        · rfl
      · cases hi

end

end Go.Proofs.YtiipmjdmmoaodaaDoor
