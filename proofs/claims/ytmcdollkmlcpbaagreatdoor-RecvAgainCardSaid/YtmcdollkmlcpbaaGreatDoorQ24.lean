/- Joined: Xr7. -/
import Derived.Test.YtmcdollkmlcpbaaGreatDoorQ22
import Derived.Deep.RegionHeld3
import Derived.Test.YtmcdollkmlcpbaaGreatDoorQ7
import Derived.Test.YtmcdollkmlcpbaaGreatDoorQ4
set_option linter.unusedSimpArgs false
set_option linter.unusedVariables false
namespace Go.Proofs.YtmcdollkmlcpbaaGreatDoor
open Go.RowKit
def putX (l : List UInt8) (n : Int) (s : XV) (v : Nat) : List UInt8 × Nat × XV × Nat :=
 if soundB l n = false then ([], 0, xv0, 11) else if soundX s = false then ([], 0, xv0, 30)
 else (pack (bitl l n.toNat ++ (encX s v).1), (bitl l n.toNat ++ (encX s v).1).length, (encX s v).2, 0)
def PutOut (P : List UInt8 × Nat × XV × Nat) (kind : IntKind) (base : Nat) (e : Ending) (w : World) : Prop :=
 ∃ A' n' c', n' = P.1.length ∧ e = .returned (.tuple #[.agg #[.slice A' n' c', .int .i64 (P.2.1 : Nat)], .agg #[.bool P.2.2.1.has, .int .u64 (P.2.2.1.prev : Nat), .int .u8 (P.2.2.1.lead : Nat), .int .u8 (P.2.2.1.width : Nat)], .int kind (P.2.2.2 : Nat)]) ∧ OwnB w base (.slice A' n' c') P.1
structure Four (w W : World) (b0 : Array Value) (b1 : Array Value) (b2 : Array Value) (b3 : Array Value) (t0 t1 : TypeId) : Prop where
 h0 : Blk W w.heap.size t0 b0
 h1 : Blk W (w.heap.size + 1) t1 b1
 h2 : Blk W (w.heap.size + 2) t0 b2
 h3 : Blk W (w.heap.size + 3) t1 b3
 t : Below w.heap.size w W
 z : w.heap.size + 4 ≤ W.heap.size
theorem four_new (w : World) (b0 b1 b2 b3 : Array Value) (t0 t1 : TypeId) : Four w ((((w.alloc (.cells b0 t0)).alloc (.cells b1 t1)).alloc (.cells b2 t0)).alloc (.cells b3 t1)) b0 b1 b2 b3 t0 t1 := by
 have s1 : (w.alloc (.cells b0 t0)).heap.size = w.heap.size + 1 := by simp
 have s2 : ((w.alloc (.cells b0 t0)).alloc (.cells b1 t1)).heap.size = w.heap.size + 2 := by simp
 have s3 : (((w.alloc (.cells b0 t0)).alloc (.cells b1 t1)).alloc (.cells b2 t0)).heap.size = w.heap.size + 3 := by simp
 refine ⟨(((Blk.new w t0 b0).alloc _).alloc _).alloc _, ?_, ?_, ?_, ?_, by simp⟩
 ·have := ((Blk.new (w.alloc (.cells b0 t0)) t1 b1).alloc (.cells b2 t0)).alloc (.cells b3 t1)
  rwa [s1] at this
 ·have := (Blk.new ((w.alloc (.cells b0 t0)).alloc (.cells b1 t1)) t0 b2).alloc (.cells b3 t1)
  rwa [s2] at this
 ·have := Blk.new (((w.alloc (.cells b0 t0)).alloc (.cells b1 t1)).alloc (.cells b2 t0)) t1 b3
  rwa [s3] at this
 ·exact (((below_alloc w _).alloc (by simp) _).alloc (by simp; omega) _).alloc (by simp; omega) _
theorem Four.on {w W W' : World} {b0 b1 b2 b3 : Array Value} {t0 t1 : TypeId} (h : Four w W b0 b1 b2 b3 t0 t1) (hb : Below (w.heap.size + 4) W W') : Four w W' b0 b1 b2 b3 t0 t1 :=
 ⟨h.h0.below hb (by omega), h.h1.below hb (by omega), h.h2.below hb (by omega), h.h3.below hb (by omega), h.t.trans (hb.mono (by omega)), Nat.le_trans h.z hb.size⟩
theorem Four.go {w W W' : World} {b0 b1 b2 b3 : Array Value} {t0 t1 : TypeId} (h : Four w W b0 b1 b2 b3 t0 t1) (hb : Below W.heap.size W W') : Four w W' b0 b1 b2 b3 t0 t1 := h.on (hb.mono h.z)
theorem Four.fin {w W : World} {b0 b1 : Array Value} {x0 x1 y0 y1 y2 y3 : Value} {t0 t1 : TypeId} (h : Four w W b0 b1 #[x0, x1] #[y0, y1, y2, y3] t0 t1) (a b c d e f : Value) :
  Four w ((((((W.setCell ⟨w.heap.size + 2, 0, none⟩ a).setCell ⟨w.heap.size + 2, 1, none⟩ b).setCell ⟨w.heap.size + 3, 0, none⟩ c).setCell ⟨w.heap.size + 3, 1, none⟩ d).setCell ⟨w.heap.size + 3, 2, none⟩ e).setCell ⟨w.heap.size + 3, 3, none⟩ f) b0 b1 #[a, b] #[c, d, e, f] t0 t1 := by
 have n2 : ∀ {g : Nat} {cs : Array Value} {t : TypeId} {V : World}, Blk V g t cs → g ≠ w.heap.size + 2 → g ≠ w.heap.size + 3 → ∀ (i j : Nat) (u u' : Value), Blk (V.setCell ⟨w.heap.size + 2, i, none⟩ u) g t cs ∧ Blk (V.setCell ⟨w.heap.size + 3, j, none⟩ u') g t cs :=
  fun hb h2 h3 i j u u' => ⟨hb.far _ _ h2, hb.far _ _ h3⟩
 refine ⟨?_, ?_, ?_, ?_, ?_, ?_⟩
 ·exact (((((h.h0.far _ _ (by simp)).far _ _ (by simp)).far _ _ (by simp)).far _ _ (by simp)).far _ _ (by simp)).far _ _ (by simp)
 ·exact (((((h.h1.far _ _ (by simp)).far _ _ (by simp)).far _ _ (by simp)).far _ _ (by simp)).far _ _ (by simp)).far _ _ (by simp)
 ·exact ((((h.h2.set2 a b).far _ _ (by simp)).far _ _ (by simp)).far _ _ (by simp)).far _ _ (by simp)
 ·exact (((h.h3.far _ _ (by simp)).far _ _ (by simp)).set4 c d e f)
 ·exact below_set4 ((h.t.setCell (p := ⟨w.heap.size + 2, 0, none⟩) (by simp) a).setCell (p := ⟨w.heap.size + 2, 1, none⟩) (by simp) b) (by omega) c d e f
 ·simp [World.setCell]; exact h.z
theorem OwnB.fin {w W : World} {base : Nat} {V : Value} {l : List UInt8} (h : OwnB W base V l) (hb : w.heap.size + 4 ≤ base) (a b c d e f : Value) :
  OwnB ((((((W.setCell ⟨w.heap.size + 2, 0, none⟩ a).setCell ⟨w.heap.size + 2, 1, none⟩ b).setCell ⟨w.heap.size + 3, 0, none⟩ c).setCell ⟨w.heap.size + 3, 1, none⟩ d).setCell ⟨w.heap.size + 3, 2, none⟩ e).setCell ⟨w.heap.size + 3, 3, none⟩ f) w.heap.size V l := by
 have h1 := h.far (h.ne (show w.heap.size + 2 < base by omega)) (p := ⟨w.heap.size + 2, 0, none⟩) a
 have h2 := h1.far (h1.ne (show w.heap.size + 2 < base by omega)) (p := ⟨w.heap.size + 2, 1, none⟩) b
 exact (h2.far4 (show w.heap.size + 3 < base by omega) c d e f).mono (by omega)
end Go.Proofs.YtmcdollkmlcpbaaGreatDoor
