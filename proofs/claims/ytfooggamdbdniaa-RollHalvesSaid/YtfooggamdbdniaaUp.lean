/- Facts that are carried from world to world: new blocks, draws, and a call that changes nothing that was there. -/
import Derived.Test.YtfooggamdbdniaaExt
namespace Go.Proofs.Ytfooggamdbdniaa
open Go.RowKit

class Up (w W : World) : Prop where
  below : Below w.heap.size w W
instance Up.rfl {w : World} : Up w w := ⟨Below.refl _ _⟩
instance Up.alloc {w W : World} {o : Obj} [h : Up w W] : Up w (W.alloc o) := ⟨h.below.alloc h.below.size _⟩
instance Up.drew {w W : World} [h : Up w W] : Up w W.drew := ⟨h.below.drew⟩
instance Up.drewN {w W : World} {n : Nat} [h : Up w W] : Up w (W.drewN n) := ⟨below_drewN h.below n⟩

section
variable {w W w' : World}
theorem on (t : Below w.heap.size w w') {w2 : World} [u : Up w' W] (h : Below W.heap.size W w2) : Below w.heap.size w w2 := (t.trans (u.below.mono t.size)).trans (h.mono (by have := t.size; have := u.below.size; omega))
theorem go1 [u : Up w W] (h : Below W.heap.size W w') : Below w.heap.size w w' := u.below.trans (h.mono u.below.size)
theorem cel [u : Up w W] (h : Below W.heap.size W w') {a : Addr} {v : Value} (c : w.cell? a = some v) : w'.cell? a = some v := ((go1 h).cell (cell_lt c)).trans c
theorem box [u : Up w W] (h : Below W.heap.size W w') {a b : Addr} {x y : Value} (c : w.cell? a = some x ∧ w.cell? b = some y) : w'.cell? a = some x ∧ w'.cell? b = some y := ⟨cel h c.1, cel h c.2⟩
theorem Bs.go [u : Up w W] {A : Option Addr} {l : List UInt8} (b : Bs w A l) (h : Below W.heap.size W w') : Bs w' A l := b.below (go1 h)
theorem OwnB.go [u : Up w W] {base : Nat} {v : Value} {l : List UInt8} (b : OwnB w base v l) (h : Below W.heap.size W w') : OwnB w' base v l := own_below b (go1 h)
theorem Bs.up [u : Up w W] {A : Option Addr} {l : List UInt8} (b : Bs w A l) : Bs W A l := b.below u.below
theorem OwnB.up [u : Up w W] {base : Nat} {v : Value} {l : List UInt8} (b : OwnB w base v l) : OwnB W base v l := own_below b u.below
theorem onA (t : Below w.heap.size w w') [u : Up w' W] : Below w.heap.size w W := t.trans (u.below.mono t.size)
theorem Bs.on {A : Option Addr} {l : List UInt8} (b : Bs w A l) (t : Below w.heap.size w w') [u : Up w' W] : Bs W A l := b.below (onA t)
/-- a block that was laid, with one more behind it, or two, known behind a call -/
theorem boxN2 {t : TypeId} {x y : Value} {o : Obj} (h : Below ((w.alloc (.cells #[x, y] t)).alloc o).heap.size ((w.alloc (.cells #[x, y] t)).alloc o) w') : w'.cell? ⟨w.heap.size, 0, none⟩ = some x ∧ w'.cell? ⟨w.heap.size, 1, none⟩ = some y :=
  box h ⟨box_cell w #[x, y] t 0 x rfl, box_cell w #[x, y] t 1 y rfl⟩
theorem boxN3 {t : TypeId} {x y : Value} {o o2 : Obj} (h : Below (((w.alloc (.cells #[x, y] t)).alloc o).alloc o2).heap.size (((w.alloc (.cells #[x, y] t)).alloc o).alloc o2) w') : w'.cell? ⟨w.heap.size, 0, none⟩ = some x ∧ w'.cell? ⟨w.heap.size, 1, none⟩ = some y :=
  box h ⟨box_cell w #[x, y] t 0 x rfl, box_cell w #[x, y] t 1 y rfl⟩
end

end Go.Proofs.Ytfooggamdbdniaa
