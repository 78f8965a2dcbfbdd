/- A bundle of facts that are kept while the world grows: one hypothesis, one step a call. -/
import Derived.Test.YtgadedpcekiljaaOwn
namespace Go.Proofs.Ytgadedpcekiljaa
open Go.RowKit

structure Kp where
  P : World → Prop
  go : ∀ w w', P w → Below w.heap.size w w' → P w'

/-- a block -/
def kB (g : Nat) (t : TypeId) (cs : Array Value) : Kp := ⟨fun w => Blk w g t cs, fun _ _ h b => h.below b h.lt⟩
/-- bytes -/
def kS (A : Option Addr) (l : List UInt8) : Kp := ⟨fun w => Bs w A l, fun _ _ h b => h.below b⟩
/-- what the call began with -/
def kW (w0 : World) (B : Nat) (_ : B ≤ w0.heap.size) : Kp := ⟨fun w => Below B w0 w ∧ B ≤ w.heap.size, fun _ _ h b => ⟨h.1.trans (b.mono h.2), Nat.le_trans h.2 b.size⟩⟩
/-- bytes of the call's own -/
def kO (base : Nat) (v : Value) (l : List UInt8) : Kp := ⟨fun w => OwnB w base v l, fun _ _ h b => h.below b⟩
/-- the world has so many blocks -/
def kZ (n : Nat) : Kp := ⟨fun w => n ≤ w.heap.size, fun _ _ h b => Nat.le_trans h b.size⟩
/-- whatever else is kept -/
def kP (P : World → Prop) (h : ∀ w w', P w → Below w.heap.size w w' → P w') : Kp := ⟨P, h⟩

def Ks (w : World) (ks : List Kp) : Prop := ∀ k ∈ ks, k.P w

section
variable {w w' : World} {ks : List Kp}
theorem Ks.nil (w : World) : Ks w [] := fun _ h => by cases h
theorem Ks.cons {k : Kp} (h : Ks w ks) (hk : k.P w) : Ks w (k :: ks) := fun j hj => by
  rcases List.mem_cons.1 hj with rfl | hj
  · exact hk
  · exact h j hj
theorem Ks.go (h : Ks w ks) (b : Below w.heap.size w w') : Ks w' ks := fun k hk => k.go w w' (h k hk) b
theorem Ks.alloc (h : Ks w ks) (o : Obj) : Ks (w.alloc o) ks := h.go (below_alloc w o)
theorem Ks.get (h : Ks w ks) (i : Nat) {k : Kp} (e : ks[i]? = some k) : k.P w := h k (List.mem_of_getElem? e)
theorem Ks.blk (h : Ks w ks) (i : Nat) {g : Nat} {t : TypeId} {cs : Array Value} (e : ks[i]? = some (kB g t cs) := by rfl) : Blk w g t cs := h.get i e
theorem Ks.bs (h : Ks w ks) (i : Nat) {A : Option Addr} {l : List UInt8} (e : ks[i]? = some (kS A l) := by rfl) : Bs w A l := h.get i e
theorem Ks.own (h : Ks w ks) (i : Nat) {base : Nat} {v : Value} {l : List UInt8} (e : ks[i]? = some (kO base v l) := by rfl) : OwnB w base v l := h.get i e
theorem Ks.top (h : Ks w ks) (i : Nat) {w0 : World} {B : Nat} {hB : B ≤ w0.heap.size} (e : ks[i]? = some (kW w0 B hB) := by rfl) : Below B w0 w := (h.get i e : Below B w0 w ∧ _).1
theorem Ks.siz (h : Ks w ks) (i : Nat) {n : Nat} (e : ks[i]? = some (kZ n) := by rfl) : n ≤ w.heap.size := h.get i e
theorem Ks.oth (h : Ks w ks) (i : Nat) {P : World → Prop} {hP : ∀ w w', P w → Below w.heap.size w w' → P w'} (e : ks[i]? = some (kP P hP) := by rfl) : P w := h.get i e
theorem Ks.tail {k : Kp} (h : Ks w (k :: ks)) : Ks w ks := fun j hj => h j (List.mem_cons_of_mem _ hj)
end

/-- at a call's beginning: its own first, then one, two, three boxes -/
theorem Ks.zero (w : World) : Ks w [kW w w.heap.size (Nat.le_refl _)] := (Ks.nil w).cons ⟨Below.refl _ _, Nat.le_refl _⟩
theorem Ks.one (w : World) (b1 : Array Value) (t1 : TypeId) : Ks (w.alloc (.cells b1 t1)) [kW w w.heap.size (Nat.le_refl _), kB w.heap.size t1 b1] :=
  ((Ks.nil _).cons (k := kB _ _ _) (Blk.new w _ _)).cons ⟨below_alloc w _, by simp⟩
theorem Ks.two (w : World) (b1 b2 : Array Value) (t1 t2 : TypeId) : Ks ((w.alloc (.cells b1 t1)).alloc (.cells b2 t2)) [kW w w.heap.size (Nat.le_refl _), kB w.heap.size t1 b1, kB (w.heap.size + 1) t2 b2] := by
  have s1 : (w.alloc (.cells b1 t1)).heap.size = w.heap.size + 1 := by simp
  have h := ((Ks.nil _).cons (k := kB _ _ _) (Blk.new (w.alloc (.cells b1 t1)) t2 b2)).cons (k := kB w.heap.size t1 b1) ((Blk.new w _ _).alloc _)
  rw [s1] at h
  exact h.cons ⟨(below_alloc w _).alloc (by simp) _, by simp; omega⟩
theorem Ks.three (w : World) (b1 b2 b3 : Array Value) (t1 t2 t3 : TypeId) : Ks (((w.alloc (.cells b1 t1)).alloc (.cells b2 t2)).alloc (.cells b3 t3)) [kW w w.heap.size (Nat.le_refl _), kB w.heap.size t1 b1, kB (w.heap.size + 1) t2 b2, kB (w.heap.size + 2) t3 b3] := by
  have s2 : ((w.alloc (.cells b1 t1)).alloc (.cells b2 t2)).heap.size = w.heap.size + 2 := by simp
  have h := (Ks.two w b1 b2 t1 t2).alloc (.cells b3 t3)
  have n := Blk.new ((w.alloc (.cells b1 t1)).alloc (.cells b2 t2)) t3 b3
  rw [s2] at n
  intro k hk
  simp only [List.mem_cons, List.not_mem_nil, or_false] at hk
  rcases hk with rfl | rfl | rfl | rfl
  · exact h.get 0 rfl
  · exact h.get 1 rfl
  · exact h.get 2 rfl
  · exact n
theorem Ks.four (w : World) (b1 b2 b3 b4 : Array Value) (t1 t2 t3 t4 : TypeId) : Ks ((((w.alloc (.cells b1 t1)).alloc (.cells b2 t2)).alloc (.cells b3 t3)).alloc (.cells b4 t4)) [kW w w.heap.size (Nat.le_refl _), kB w.heap.size t1 b1, kB (w.heap.size + 1) t2 b2, kB (w.heap.size + 2) t3 b3, kB (w.heap.size + 3) t4 b4] := by
  have s2 : (((w.alloc (.cells b1 t1)).alloc (.cells b2 t2)).alloc (.cells b3 t3)).heap.size = w.heap.size + 3 := by simp
  have h := (Ks.three w b1 b2 b3 t1 t2 t3).alloc (.cells b4 t4)
  have n := Blk.new (((w.alloc (.cells b1 t1)).alloc (.cells b2 t2)).alloc (.cells b3 t3)) t4 b4
  rw [s2] at n
  intro k hk
  simp only [List.mem_cons, List.not_mem_nil, or_false] at hk
  rcases hk with rfl | rfl | rfl | rfl | rfl
  · exact h.get 0 rfl
  · exact h.get 1 rfl
  · exact h.get 2 rfl
  · exact h.get 3 rfl
  · exact n

/-- new facts in front -/
theorem Ks.box {w : World} {ks : List Kp} (h : Ks w ks) (b : Array Value) (t : TypeId) : Ks (w.alloc (.cells b t)) (kB w.heap.size t b :: ks) := (h.alloc _).cons (k := kB _ _ _) (Blk.new w t b)
theorem Ks.bs_ {w : World} {ks : List Kp} (h : Ks w ks) {A : Option Addr} {l : List UInt8} (b : Bs w A l) : Ks w (kS A l :: ks) := h.cons (k := kS A l) b
theorem Ks.own_ {w : World} {ks : List Kp} (h : Ks w ks) {base : Nat} {v : Value} {l : List UInt8} (b : OwnB w base v l) : Ks w (kO base v l :: ks) := h.cons (k := kO base v l) b
theorem Ks.siz_ {w : World} {ks : List Kp} (h : Ks w ks) : Ks w (kZ w.heap.size :: ks) := h.cons (k := kZ w.heap.size) (Nat.le_refl _)

end Go.Proofs.Ytgadedpcekiljaa
