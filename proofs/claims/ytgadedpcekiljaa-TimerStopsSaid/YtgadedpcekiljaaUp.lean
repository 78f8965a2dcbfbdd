/- Facts that are carried from world to world: new blocks, draws, and a call that changes nothing that was there. -/
import Derived.Test.YtgadedpcekiljaaExt
import Derived.Laws.Rows
import Derived.Laws.ResultCell
set_option linter.unusedSimpArgs false
set_option linter.unusedVariables false
namespace Go.Proofs.Ytgadedpcekiljaa
open Go.RowKit

class Up (w W : World) : Prop where
  below : Below w.heap.size w W
instance Up.rfl {w : World} : Up w w := ⟨Below.refl _ _⟩
instance Up.alloc {w W : World} {o : Obj} [h : Up w W] : Up w (W.alloc o) := ⟨h.below.alloc h.below.size _⟩
instance Up.drew {w W : World} [h : Up w W] : Up w W.drew := ⟨h.below.drew⟩
instance Up.drewN {w W : World} {n : Nat} [h : Up w W] : Up w (W.drewN n) := ⟨below_drewN h.below n⟩

section
variable {w W w' : World}
theorem on (t : Below w.heap.size w w') {w2 : World} [u : Up w' W] (h : Below W.heap.size W w2) : Below w.heap.size w w2 := (t.trans (u.below.mono t.size)).trans (h.mono (by have := t.size; have := u.below.size; omega))
theorem go1 [u : Up w W] (h : Below W.heap.size W w') : Below w.heap.size w w' := u.below.trans (h.mono u.below.size)
theorem cel [u : Up w W] (h : Below W.heap.size W w') {a : Addr} {v : Value} (c : w.cell? a = some v) : w'.cell? a = some v := ((go1 h).cell (cell_lt c)).trans c
theorem box [u : Up w W] (h : Below W.heap.size W w') {a b : Addr} {x y : Value} (c : w.cell? a = some x ∧ w.cell? b = some y) : w'.cell? a = some x ∧ w'.cell? b = some y := ⟨cel h c.1, cel h c.2⟩
theorem Bs.go [u : Up w W] {A : Option Addr} {l : List UInt8} (b : Bs w A l) (h : Below W.heap.size W w') : Bs w' A l := b.below (go1 h)
theorem Bs.up [u : Up w W] {A : Option Addr} {l : List UInt8} (b : Bs w A l) : Bs W A l := b.below u.below
theorem onA (t : Below w.heap.size w w') [u : Up w' W] : Below w.heap.size w W := t.trans (u.below.mono t.size)
theorem Bs.on {A : Option Addr} {l : List UInt8} (b : Bs w A l) (t : Below w.heap.size w w') [u : Up w' W] : Bs W A l := b.below (onA t)
/-- a block that was laid, with one more behind it, or two, known behind a call -/
theorem boxN2 {t : TypeId} {x y : Value} {o : Obj} (h : Below ((w.alloc (.cells #[x, y] t)).alloc o).heap.size ((w.alloc (.cells #[x, y] t)).alloc o) w') : w'.cell? ⟨w.heap.size, 0, none⟩ = some x ∧ w'.cell? ⟨w.heap.size, 1, none⟩ = some y :=
  box h ⟨box_cell w #[x, y] t 0 x rfl, box_cell w #[x, y] t 1 y rfl⟩
theorem boxN3 {t : TypeId} {x y : Value} {o o2 : Obj} (h : Below (((w.alloc (.cells #[x, y] t)).alloc o).alloc o2).heap.size (((w.alloc (.cells #[x, y] t)).alloc o).alloc o2) w') : w'.cell? ⟨w.heap.size, 0, none⟩ = some x ∧ w'.cell? ⟨w.heap.size, 1, none⟩ = some y :=
  box h ⟨box_cell w #[x, y] t 0 x rfl, box_cell w #[x, y] t 1 y rfl⟩
end

theorem Blk.duo {w : World} {g : Nat} {t : TypeId} {x y : Value} (h : Blk w g t #[x, y]) :
    (w.cell? ⟨g, 0, none⟩ = some x ∧ w.cell? ⟨g, 1, none⟩ = some y) ∧ (w.frozen? ⟨g, 0, none⟩ = false ∧ w.frozen? ⟨g, 1, none⟩ = false) := ⟨⟨h.cell 0, h.cell 1⟩, h.frozen 0, h.frozen 1⟩
theorem Blk.tri {w : World} {g : Nat} {t : TypeId} {x y z : Value} (h : Blk w g t #[x, y, z]) :
    (w.cell? ⟨g, 0, none⟩ = some x ∧ w.cell? ⟨g, 1, none⟩ = some y ∧ w.cell? ⟨g, 2, none⟩ = some z) ∧ (w.frozen? ⟨g, 0, none⟩ = false ∧ w.frozen? ⟨g, 1, none⟩ = false ∧ w.frozen? ⟨g, 2, none⟩ = false) :=
  ⟨⟨h.cell 0, h.cell 1, h.cell 2⟩, h.frozen 0, h.frozen 1, h.frozen 2⟩
theorem keepF (w : World) (o : Obj) (a : Addr) (h : (w.cell? a).isSome = true) : (w.alloc o).frozen? a = w.frozen? a := by
  obtain ⟨v, hv⟩ := Option.isSome_iff_exists.1 h
  exact (below_alloc w o).frozen (cell_lt hv)
theorem Blk.go {w W w' : World} {g : Nat} {t : TypeId} {cs : Array Value} [u : Up w W] (h : Blk w g t cs) (hb : Below W.heap.size W w') : Blk w' g t cs := h.below (go1 hb) h.lt
theorem Blk.up {w W : World} {g : Nat} {t : TypeId} {cs : Array Value} [u : Up w W] (h : Blk w g t cs) : Blk W g t cs := h.below u.below h.lt

theorem Blk.set {w : World} {g : Nat} {t : TypeId} {cs : Array Value} (h : Blk w g t cs) (i : Nat) (v : Value) : Blk (w.setCell ⟨g, i, none⟩ v) g t (cs.setIfInBounds i v) := heap_setCell_same w g i cs t v h
theorem Blk.far {w : World} {g : Nat} {t : TypeId} {cs : Array Value} (h : Blk w g t cs) (a : Addr) (v : Value) (hne : g ≠ a.block) : Blk (w.setCell a v) g t cs := (heap_setCell_other w a g v hne).trans h
theorem Blk.drew {w : World} {g : Nat} {t : TypeId} {cs : Array Value} (h : Blk w g t cs) : Blk w.drew g t cs := h
theorem Blk.set2 {w : World} {g : Nat} {t : TypeId} {x y : Value} (h : Blk w g t #[x, y]) (a b : Value) : Blk ((w.setCell ⟨g, 0, none⟩ a).setCell ⟨g, 1, none⟩ b) g t #[a, b] := by simpa using (h.set 0 a).set 1 b
theorem Blk.set3 {w : World} {g : Nat} {t : TypeId} {x y z : Value} (h : Blk w g t #[x, y, z]) (a b c : Value) : Blk (((w.setCell ⟨g, 0, none⟩ a).setCell ⟨g, 1, none⟩ b).setCell ⟨g, 2, none⟩ c) g t #[a, b, c] := by simpa using ((h.set 0 a).set 1 b).set 2 c

theorem results_row_tmp {P : Program} {fn : Func} {p u : Tmp} {ty : TypeId} (h : fn.results = #[.cell p ty, .tmp u]) (tmps : Array Value) (w : World) (g : Nat) (t : TypeId) (cs : Array Value) (d : TypeDesc)
    (hp : tmps.getD p undef = .pointer (some ⟨g, 0, none⟩)) (hg : Blk w g t cs)
    (hu : P.underlying ty = some d) (hd : (match d with | .struct _ | .array _ _ => true | _ => false) = true) (hi : (P.info? ty).map (·.size) = some cs.size) (v : Value) (hv : tmps.getD u undef = v) :
    (results fn tmps).run P w = .ok (.tuple #[.agg cs, v]) w := by
  subst hv
  rw [results_cell_tmp h, hp]
  simp [asAddr, run_loadVar_row w g t ty cs (0, 0) d hg hu hd hi]

end Go.Proofs.Ytgadedpcekiljaa
