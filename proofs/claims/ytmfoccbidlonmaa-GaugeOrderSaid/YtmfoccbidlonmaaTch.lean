/- The world with new blocks, and one block written. -/
import Derived.Test.YtmfoccbidlonmaaUp
namespace Go.Proofs.Ytmfoccbidlonmaa
open Go.RowKit

/-- the world with new blocks, and one block written -/
def Tch (g : Nat) (w w' : World) : Prop := w.grownBy w' (some g)
theorem Tch.refl (g : Nat) (w : World) : Tch g w w := ⟨rfl, rfl, rfl, Nat.le_refl _, fun _ _ _ => rfl⟩

theorem Tch.set {g : Nat} {w w' : World} (h : Tch g w w') (i : Nat) (v : Value) : Tch g w (w'.setCell ⟨g, i, none⟩ v) :=
  ⟨h.os, h.tape, h.output, by have := h.size; simpa [World.setCell] using this, fun k hk hne => (Below.heap_setCell w' ⟨g, i, none⟩ v k (fun e => hne (by rw [e]))).trans (h.block k hk hne)⟩
theorem Tch.drew {g : Nat} {w w' : World} (h : Tch g w w') : Tch g w w'.drew := ⟨h.os, h.tape, h.output, h.size, h.block⟩
theorem Tch.drewN {g : Nat} {w w' : World} (h : Tch g w w') (n : Nat) : Tch g w (w'.drewN n) := ⟨h.os, h.tape, h.output, h.size, h.block⟩
theorem Tch.trans {g : Nat} {a b c : World} (h : Tch g a b) (k : Tch g b c) : Tch g a c :=
  ⟨k.os.trans h.os, k.tape.trans h.tape, k.output.trans h.output, Nat.le_trans h.size k.size, fun i hi hne => (k.block i (Nat.lt_of_lt_of_le hi h.size) hne).trans (h.block i hi hne)⟩
theorem Tch.below {g B : Nat} {w0 w w' : World} (t : Below B w0 w) (h : Tch g w w') (hB : B ≤ w.heap.size) (hg : B ≤ g) : Below B w0 w' := t.grown h hB fun k e => by cases e; exact hg
theorem Bs.tch {g : Nat} {w w' : World} {A : Option Addr} {l : List UInt8} (b : Bs w A l) (h : Tch g w w') (hA : ∀ p o, A = some ⟨p, o, none⟩ → p ≠ g) : Bs w' A l := fun i x hi => by
  obtain ⟨p, o, e, hc⟩ := b i x hi
  refine ⟨p, o, e, ?_⟩
  rw [World.cell?_of_block (h.block p (cell_lt hc) (by intro e2; injection e2 with e2; exact hA p o e e2))]
  exact hc
theorem Blk.tch {g k : Nat} {w w' : World} {t : TypeId} {cs : Array Value} (b : Blk w k t cs) (h : Tch g w w') (hk : k ≠ g) : Blk w' k t cs := (h.block k b.lt (by intro e; injection e with e; exact hk e)).trans b
theorem Tch.of_below {g : Nat} {w w' : World} (h : Below w.heap.size w w') : Tch g w w' := ⟨h.os, h.tape, h.output, h.size, fun k hk _ => h.block k hk⟩


end Go.Proofs.Ytmfoccbidlonmaa
