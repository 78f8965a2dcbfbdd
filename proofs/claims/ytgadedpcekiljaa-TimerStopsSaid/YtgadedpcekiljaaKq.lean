/- A bundle of facts on memory of the call's own: kept while the world grows and other blocks are stored into. -/
import Derived.Test.YtgadedpcekiljaaKp
import Derived.Test.YtgadedpcekiljaaRow
namespace Go.Proofs.Ytgadedpcekiljaa
open Go.RowKit

structure Kq where
  P : World → Prop
  ap : Nat → Prop
  say : World → Prop
  go : ∀ w w' r, P w → w.grownBy w' r → (∀ k, r = some k → ap k) → P w'
  tell : ∀ w, P w → say w

/-- what the cells from i on hold -/
def cellsSay (w : World) (g : Nat) : Nat → List Value → Prop
  | _, [] => True
  | i, v :: l => w.cell? ⟨g, i, none⟩ = some v ∧ w.frozen? ⟨g, i, none⟩ = false ∧ cellsSay w g (i + 1) l
theorem cells_say {w : World} {g : Nat} {t : TypeId} {cs : Array Value} (h : Blk w g t cs) : ∀ (l : List Value) (i : Nat), cs.toList.drop i = l → cellsSay w g i l
  | [], _, _ => trivial
  | v :: l, i, e => by
    have hv : cs[i]? = some v := by
      have := congrArg List.head? e
      rw [List.head?_drop] at this
      simpa using this
    refine ⟨(h.cell i).trans hv, h.frozen i, cells_say h l (i + 1) ?_⟩
    have := congrArg List.tail e
    simpa [List.tail_drop] using this

theorem Blk.kept {w w' : World} {r : Option Nat} {g : Nat} {t : TypeId} {cs : Array Value} (h : Blk w g t cs) (hg : w.grownBy w' r) (hr : r ≠ some g) : Blk w' g t cs := (hg.block g h.lt (fun e => hr e.symm)).trans h

/-- a block -/
def qB (g : Nat) (t : TypeId) (cs : Array Value) : Kq := ⟨fun w => Blk w g t cs, fun k => g ≠ k, fun w => cellsSay w g 0 cs.toList, fun _ _ _ h hg ha => h.kept hg (fun e => ha g e rfl), fun _ h => cells_say h _ 0 rfl⟩
/-- what the call began with -/
def qW (w0 : World) (B : Nat) (_ : B ≤ w0.heap.size) : Kq := ⟨fun w => Below B w0 w ∧ B ≤ w.heap.size, fun k => B ≤ k, fun w => B ≤ w.heap.size, fun _ _ _ h hg ha => ⟨h.1.grown hg h.2 ha, Nat.le_trans h.2 hg.size⟩, fun _ h => h.2⟩
/-- bytes of the call's own, in blocks from base on, below hi -/
def qO (base hi : Nat) (v : Value) (l : List UInt8) : Kq := ⟨fun w => OwnB w base v l ∧ (∀ k, v.ownBlock = some k → k < hi) ∧ hi ≤ w.heap.size, fun k => k < base ∨ hi ≤ k, fun _ => True,
  fun w w' r h hg ha => ⟨World.ownsRow.kept h.1 hg (by
    rcases hv : v.ownBlock with _ | k
    · exact .inl rfl
    · refine .inr fun e => ?_
      have h1 := h.2.1 k hv
      have h2 := (World.ownsRow.lt h.1 k hv).1
      have h3 := ha k e.symm
      omega), h.2.1, Nat.le_trans h.2.2 hg.size⟩, fun _ _ => trivial⟩
/-- elements of the call's own -/
def qR {α : Type} (base hi : Nat) (e : TypeId) (enc : α → List Value) (sz : Nat) (v : Value) (l : List α) : Kq := ⟨fun w => OwnR w base e enc sz v l ∧ (∀ k, v.ownBlock = some k → k < hi) ∧ hi ≤ w.heap.size, fun k => k < base ∨ hi ≤ k, fun _ => True,
  fun w w' r h hg ha => ⟨World.ownsRow.kept h.1 hg (by
    rcases hv : v.ownBlock with _ | k
    · exact .inl rfl
    · refine .inr fun e => ?_
      have h1 := h.2.1 k hv
      have h2 := (World.ownsRow.lt h.1 k hv).1
      have h3 := ha k e.symm
      omega), h.2.1, Nat.le_trans h.2.2 hg.size⟩, fun _ _ => trivial⟩
/-- so many blocks -/
def qZ (n : Nat) : Kq := ⟨fun w => n ≤ w.heap.size, fun _ => True, fun w => n ≤ w.heap.size, fun _ _ _ h hg _ => Nat.le_trans h hg.size, fun _ h => h⟩
/-- whatever else is kept while the world grows above B -/
def qP (P : World → Prop) (w0 : World) (B : Nat) (_ : B ≤ w0.heap.size) (h : ∀ w, Below B w0 w → P w) : Kq := ⟨fun w => Below B w0 w ∧ B ≤ w.heap.size, fun k => B ≤ k, fun _ => True, fun _ _ _ h hg ha => ⟨h.1.grown hg h.2 ha, Nat.le_trans h.2 hg.size⟩, fun _ _ => trivial⟩

def Qs (w : World) (ks : List Kq) : Prop := ∀ k ∈ ks, k.P w
def apAll (g : Nat) : List Kq → Prop
  | [] => True
  | k :: ks => k.ap g ∧ apAll g ks
def apBut (g : Nat) : Nat → List Kq → Prop
  | _, [] => True
  | 0, _ :: ks => apAll g ks
  | i + 1, k :: ks => k.ap g ∧ apBut g i ks
def sayAll (w : World) : List Kq → Prop
  | [] => True
  | k :: ks => k.say w ∧ sayAll w ks
theorem apAll.mem {g : Nat} : ∀ {ks : List Kq}, apAll g ks → ∀ k ∈ ks, k.ap g
  | [], _, _, h => by cases h
  | _ :: _, h, k, hk => by
    rcases List.mem_cons.1 hk with rfl | hk
    · exact h.1
    · exact apAll.mem h.2 k hk

/-- stores into one block -/
def sets (w : World) (g : Nat) : List (Nat × Value) → World
  | [] => w
  | p :: l => sets (w.setCell ⟨g, p.1, none⟩ p.2) g l
def setsL (cs : List Value) : List (Nat × Value) → List Value
  | [] => cs
  | p :: l => setsL (cs.set p.1 p.2) l
theorem grown_set (w : World) (g o : Nat) (v : Value) : w.grownBy (w.setCell ⟨g, o, none⟩ v) (some g) := ⟨rfl, rfl, rfl, by simp [World.setCell], fun k _ hk => Below.heap_setCell w ⟨g, o, none⟩ v k (fun e => hk (by rw [e]))⟩
theorem grown_trans {a b c : World} {r : Option Nat} (h : a.grownBy b r) (k : b.grownBy c r) : a.grownBy c r := World.grownBy.andThen h k (fun _ h => .inr h)
theorem grown_sets (g : Nat) : ∀ (l : List (Nat × Value)) (w : World), w.grownBy (sets w g l) (some g)
  | [], w => World.grownBy.refl _ _
  | p :: l, w => grown_trans (grown_set w g p.1 p.2) (grown_sets g l _)
theorem Blk.sets {g : Nat} {t : TypeId} : ∀ (l : List (Nat × Value)) {w : World} {cs : Array Value}, Blk w g t cs → Blk (sets w g l) g t (setsL cs.toList l).toArray
  | [], _, _, h => h
  | p :: l, w, cs, h => by
    have := Blk.sets l (h.set p.1 p.2)
    rw [Array.toList_setIfInBounds] at this
    exact this
theorem size_sets (g : Nat) : ∀ (l : List (Nat × Value)) (w : World), (sets w g l).heap.size = w.heap.size
  | [], _ => rfl
  | p :: l, w => (size_sets g l _).trans (by simp [World.setCell])
theorem grown_below {w w' : World} (b : Below w.heap.size w w') (r : Option Nat) : w.grownBy w' r := ⟨b.os, b.tape, b.output, b.size, fun k hk _ => b.block k hk⟩
theorem grown_drew (w : World) (r : Option Nat) : w.grownBy w.drew r := ⟨rfl, rfl, rfl, Nat.le_refl _, fun _ _ _ => rfl⟩

section
variable {w w' : World} {ks : List Kq}
theorem Qs.nil (w : World) : Qs w [] := fun _ h => by cases h
theorem Qs.cons {k : Kq} (h : Qs w ks) (hk : k.P w) : Qs w (k :: ks) := fun j hj => by
  rcases List.mem_cons.1 hj with rfl | hj
  · exact hk
  · exact h j hj
theorem Qs.grow (h : Qs w ks) {r : Option Nat} (hg : w.grownBy w' r) (ha : ∀ g, r = some g → apAll g ks) : Qs w' ks := fun k hk => k.go w w' r (h k hk) hg (fun g e => (ha g e).mem k hk)
theorem Qs.go (h : Qs w ks) (b : Below w.heap.size w w') : Qs w' ks := h.grow (grown_below b none) (fun _ e => by cases e)
theorem Qs.drew (h : Qs w ks) : Qs w.drew ks := h.grow (grown_drew w none) (fun _ e => by cases e)
theorem Qs.alloc (h : Qs w ks) (o : Obj) : Qs (w.alloc o) ks := h.go (below_alloc w o)
theorem Qs.get (h : Qs w ks) (i : Nat) {k : Kq} (e : ks[i]? = some k) : k.P w := h k (List.mem_of_getElem? e)
theorem Qs.blk (h : Qs w ks) (i : Nat) {g : Nat} {t : TypeId} {cs : Array Value} (e : ks[i]? = some (qB g t cs) := by rfl) : Blk w g t cs := h.get i e
theorem Qs.own (h : Qs w ks) (i : Nat) {base hi : Nat} {v : Value} {l : List UInt8} (e : ks[i]? = some (qO base hi v l) := by rfl) : OwnB w base v l := (h.get i e : OwnB w base v l ∧ _).1
theorem Qs.row (h : Qs w ks) (i : Nat) {α : Type} {base hi : Nat} {t : TypeId} {enc : α → List Value} {sz : Nat} {v : Value} {l : List α} (e : ks[i]? = some (qR base hi t enc sz v l) := by rfl) : OwnR w base t enc sz v l := (h.get i e : OwnR w base t enc sz v l ∧ _).1
theorem Qs.top (h : Qs w ks) (i : Nat) {w0 : World} {B : Nat} {hB : B ≤ w0.heap.size} (e : ks[i]? = some (qW w0 B hB) := by rfl) : Below B w0 w := (h.get i e : Below B w0 w ∧ _).1
theorem Qs.siz (h : Qs w ks) (i : Nat) {n : Nat} (e : ks[i]? = some (qZ n) := by rfl) : n ≤ w.heap.size := h.get i e
theorem Qs.tail {k : Kq} (h : Qs w (k :: ks)) : Qs w ks := fun j hj => h j (List.mem_cons_of_mem _ hj)
theorem Qs.says : ∀ {ks : List Kq}, Qs w ks → sayAll w ks
  | [], _ => trivial
  | k :: _, h => ⟨k.tell w (h k List.mem_cons_self), Qs.says h.tail⟩
theorem Qs.zero (w : World) : Qs w [qW w w.heap.size (Nat.le_refl _)] := (Qs.nil w).cons (k := qW _ _ _) ⟨Below.refl _ _, Nat.le_refl _⟩
/-- new facts in front -/
theorem Qs.box (h : Qs w ks) (b : Array Value) (t : TypeId) : Qs (w.alloc (.cells b t)) (qB w.heap.size t b :: ks) := (h.alloc _).cons (k := qB _ _ _) (Blk.new w t b)
theorem Qs.own_ (h : Qs w ks) {base : Nat} {v : Value} {l : List UInt8} (b : OwnB w base v l) : Qs w (qO base w.heap.size v l :: ks) := h.cons (k := qO _ _ _ _) ⟨b, fun k hk => (World.ownsRow.lt b k hk).2, Nat.le_refl _⟩
theorem Qs.row_ (h : Qs w ks) {α : Type} {base : Nat} {t : TypeId} {enc : α → List Value} {sz : Nat} {v : Value} {l : List α} (b : OwnR w base t enc sz v l) : Qs w (qR base w.heap.size t enc sz v l :: ks) := h.cons (k := qR _ _ _ _ _ _ _) ⟨b, fun k hk => (World.ownsRow.lt b k hk).2, Nat.le_refl _⟩
theorem Qs.siz_ (h : Qs w ks) : Qs w (qZ w.heap.size :: ks) := h.cons (k := qZ w.heap.size) (Nat.le_refl _)
end

theorem but_mem {g : Nat} : ∀ {ks : List Kq} {i : Nat}, apBut g i ks → ∀ j k, j ≠ i → ks[j]? = some k → k.ap g
  | [], _, _, j, k, _, e => by simp at e
  | _ :: ks, 0, h, j, k, hj, e => by
    cases j with
    | zero => exact absurd rfl hj
    | succ j => exact apAll.mem h k (List.mem_of_getElem? (by simpa using e))
  | _ :: ks, i + 1, h, j, k, hj, e => by
    cases j with
    | zero => simp at e; subst e; exact h.1
    | succ j => exact but_mem h.2 j k (fun e => hj (by rw [e])) (by simpa using e)

/-- stores into block i -/
theorem Qs.put {w : World} {ks : List Kq} (h : Qs w ks) (i g : Nat) (l : List (Nat × Value)) (cs' : Array Value) {t : TypeId} {cs : Array Value} (ha : apBut g i ks) (e : ks[i]? = some (qB g t cs) := by rfl) (hc : setsL cs.toList l = cs'.toList := by rfl) : Qs (sets w g l) (ks.set i (qB g t cs')) := by
  have hc' : (setsL cs.toList l).toArray = cs' := by rw [hc]
  rw [← hc']
  intro k hk
  obtain ⟨j, hj⟩ := List.getElem?_of_mem hk
  by_cases hji : j = i
  · subst hji
    rw [List.getElem?_set_self (List.getElem?_eq_some_iff.1 e).1] at hj
    injection hj with hj
    subst hj
    exact Blk.sets l (h.blk j e)
  · rw [List.getElem?_set_ne (fun e => hji e.symm)] at hj
    exact k.go w _ _ (h.get j hj) (grown_sets g l w) (fun x ex => by injection ex with ex; subst ex; exact but_mem ha j k hji hj)

/-- the same, at the world that it comes to -/
theorem Qs.putTo {w W : World} {ks : List Kq} (h : Qs w ks) (i g : Nat) (l : List (Nat × Value)) (cs' : Array Value) {t : TypeId} {cs : Array Value} (hW : sets w g l = W) (ha : apBut g i ks) (e : ks[i]? = some (qB g t cs) := by rfl) (hc : setsL cs.toList l = cs'.toList := by rfl) : Qs W (ks.set i (qB g t cs')) := hW ▸ h.put i g l cs' ha e hc

theorem setCell_sets (w : World) (g o : Nat) (v : Value) : w.setCell ⟨g, o, none⟩ v = sets w g [(o, v)] := rfl
theorem sets_sets (w : World) (g : Nat) (l l' : List (Nat × Value)) : sets (sets w g l) g l' = sets w g (l ++ l') := by
  induction l generalizing w with
  | nil => rfl
  | cons p l ih => exact ih _

end Go.Proofs.Ytgadedpcekiljaa
