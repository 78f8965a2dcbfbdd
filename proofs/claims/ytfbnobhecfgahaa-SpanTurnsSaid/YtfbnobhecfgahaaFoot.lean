/- What belongs to an object: the blocks that a call on it may write, and what is kept while others are written. -/
import Derived.Test.YtfbnobhecfgahaaKqN
set_option linter.unusedSimpArgs false
set_option linter.unusedVariables false
namespace Go.Proofs.Ytfbnobhecfgahaa
open Go.RowKit

/-- nothing old is written but blocks of S -/
structure Foot (S : Nat → Prop) (w w' : World) : Prop where
  os : w'.os = w.os
  tape : w'.tape = w.tape
  output : w'.output = w.output
  size : w.heap.size ≤ w'.heap.size
  block : ∀ k, k < w.heap.size → ¬ S k → w'.heap[k]? = w.heap[k]?

section
variable {S : Nat → Prop} {w w' w'' : World}
theorem Foot.refl (S : Nat → Prop) (w : World) : Foot S w w := ⟨rfl, rfl, rfl, Nat.le_refl _, fun _ _ _ => rfl⟩
theorem Foot.of_below (h : Below w.heap.size w w') : Foot S w w' := ⟨h.os, h.tape, h.output, h.size, fun k hk _ => h.block k hk⟩
theorem Foot.below (h : Foot S w w') {B : Nat} (hB : B ≤ w.heap.size) (hS : ∀ k, k < B → ¬ S k) : Below B w w' := ⟨h.os, h.tape, h.output, h.size, fun k hk => h.block k (Nat.lt_of_lt_of_le hk hB) (hS k hk)⟩
theorem Foot.trans {S' : Nat → Prop} (h : Foot S w w') (k : Foot S' w' w'') (hS : ∀ j, S' j → S j ∨ w.heap.size ≤ j) : Foot S w w'' := ⟨k.os.trans h.os, k.tape.trans h.tape, k.output.trans h.output, Nat.le_trans h.size k.size, fun j hj hn =>
  (k.block j (Nat.lt_of_lt_of_le hj h.size) (fun e => by rcases hS j e with h1 | h1; exact hn h1; omega)).trans (h.block j hj hn)⟩
theorem Foot.mono {S' : Nat → Prop} (h : Foot S w w') (hS : ∀ j, S j → S' j) : Foot S' w w' := ⟨h.os, h.tape, h.output, h.size, fun j hj hn => h.block j hj (fun e => hn (hS j e))⟩
theorem Foot.grown {r : Option Nat} (h : Foot S w w') (k : w'.grownBy w'' r) (hr : ∀ j, r = some j → S j ∨ w.heap.size ≤ j) : Foot S w w'' := ⟨k.os.trans h.os, k.tape.trans h.tape, k.output.trans h.output, Nat.le_trans h.size k.size, fun j hj hn =>
  (k.block j (Nat.lt_of_lt_of_le hj h.size) (fun e => by rcases hr j e.symm with h1 | h1; exact hn h1; omega)).trans (h.block j hj hn)⟩

/-- a fact that hangs on the blocks of S alone -/
structure Held (w : World) (S : Nat → Prop) (P : World → Prop) : Prop where
  low : ∀ k, S k → k < w.heap.size
  go : ∀ w', Foot (fun k => ¬ S k) w w' → P w'
theorem Held.now {P : World → Prop} (h : Held w S P) : P w := h.go w (Foot.refl _ _)
theorem Held.foot {P : World → Prop} {S' : Nat → Prop} (h : Held w S P) (f : Foot S' w w') (hS : ∀ k, S k → ¬ S' k) : Held w' S P :=
  ⟨fun k hk => Nat.lt_of_lt_of_le (h.low k hk) f.size, fun w2 g => h.go w2 ((f.mono (S' := fun k => ¬ S k) (fun j hj e => hS j e hj)).trans g (fun j hj => .inl hj))⟩
theorem Held.below {P : World → Prop} (h : Held w S P) (b : Below w.heap.size w w') : Held w' S P := h.foot (S' := fun _ => False) (Foot.of_below b) (fun _ _ e => e)
theorem Held.imp {P Q : World → Prop} (h : Held w S P) (hi : ∀ w, P w → Q w) : Held w S Q := ⟨h.low, fun w' f => hi w' (h.go w' f)⟩
theorem Held.mk' {P : World → Prop} (hl : ∀ k, S k → k < w.heap.size) (hg : ∀ w', Foot (fun k => ¬ S k) w w' → P w') : Held w S P := ⟨hl, hg⟩

/-- one block as it was -/
theorem foot_step (h : Foot S w w') (n : Nat) : (∀ k, n + 1 ≤ k → k < w.heap.size → w'.heap[k]? = w.heap[k]?) → n < w.heap.size → ∃ w1 : World, Foot S w w1 ∧ (∀ k, n ≤ k → k < w.heap.size → w1.heap[k]? = w.heap[k]?) ∧ (w1.grownBy w' (some n)) ∧ (¬ S n → w1.grownBy w' none) := by
  intro hk hn
  have hn' : n < w'.heap.size := Nat.lt_of_lt_of_le hn h.size
  refine ⟨{ w' with heap := w'.heap.set n w.heap[n] hn' }, ⟨h.os, h.tape, h.output, ?_, ?_⟩, ?_, ⟨rfl, rfl, rfl, ?_, ?_⟩, fun hS => ⟨rfl, rfl, rfl, ?_, ?_⟩⟩
  · simpa using h.size
  · intro k hkl hnS
    by_cases e : k = n
    · subst e; simp [Array.getElem?_set, hn]
    · simp only [Array.getElem?_set, if_neg (fun e2 : n = k => e e2.symm)]; exact h.block k hkl hnS
  · intro k hkn hkl
    by_cases e : k = n
    · subst e; simp [Array.getElem?_set, hn]
    · simp only [Array.getElem?_set, if_neg (fun e2 : n = k => e e2.symm)]; exact hk k (by omega) hkl
  · simp
  · intro k hkl hne
    have hne2 : ¬ n = k := fun e => hne (by rw [e])
    simp only [Array.getElem?_set, if_neg hne2]
  · simp
  · intro k hkl _
    by_cases e : k = n
    · subst e
      simp only [Array.getElem?_set, if_pos]
      rw [h.block k hn hS, Array.getElem?_eq_getElem hn]
    · simp only [Array.getElem?_set, if_neg (fun e2 : n = k => e e2.symm)]
theorem Qs.foot {ks : List Kq} (h : Qs w ks) (f : Foot S w w') (ha : ∀ k, S k → apAll k ks) : Qs w' ks := by
  have key : ∀ n, n ≤ w.heap.size → ∀ w', Foot S w w' → (∀ k, n ≤ k → k < w.heap.size → w'.heap[k]? = w.heap[k]?) → Qs w' ks := by
    intro n
    induction n with
    | zero => intro _ w' f hk; exact h.go ⟨f.os, f.tape, f.output, f.size, fun k hkl => hk k (Nat.zero_le _) hkl⟩
    | succ n ih =>
      intro hn w' f hk
      obtain ⟨w1, f1, hk1, g1, g2⟩ := foot_step f n hk (by omega)
      have q1 := ih (by omega) w1 f1 hk1
      by_cases hS : S n
      · exact q1.grow g1 (fun g e => by injection e with e; subst e; exact ha _ hS)
      · exact q1.grow (g2 hS) (fun g e => by cases e)
  exact key w.heap.size (Nat.le_refl _) w' f (fun k h1 h2 => by omega)
end

/-- what belongs to an object -/
def qH (S : Nat → Prop) (P : World → Prop) : Kq := ⟨fun w => Held w S P, fun k => ¬ S k, fun _ => True,
  fun w w' r h hg ha => ⟨fun k hk => Nat.lt_of_lt_of_le (h.low k hk) hg.size, fun w2 f => h.go w2 (((Foot.refl (fun k => ¬ S k) w).grown hg (fun j e => .inl (ha j e))).trans f (fun j hj => .inl hj))⟩, fun _ _ => trivial⟩
/-- what a call on an object has done -/
def qF (S : Nat → Prop) (w0 : World) : Kq := ⟨fun w => Foot S w0 w, fun k => S k ∨ w0.heap.size ≤ k, fun w => w0.heap.size ≤ w.heap.size, fun _ _ _ h hg ha => h.grown hg ha, fun _ h => h.size⟩
theorem Qs.held {w : World} {ks : List Kq} (h : Qs w ks) (i : Nat) {S : Nat → Prop} {P : World → Prop} (e : ks[i]? = some (qH S P) := by rfl) : Held w S P := h.get i e
theorem Qs.tofoot {w w0 : World} {ks : List Kq} (h : Qs w ks) (i : Nat) {S : Nat → Prop} (e : ks[i]? = some (qF S w0) := by rfl) : Foot S w0 w := h.get i e

theorem own_of {w w' : World} {base : Nat} {e : TypeId} {size : Nat} {v : Value} {n : Nat} {xs : List Value} (h : w.ownsRow base e size v n xs) (hb : ∀ k, v.ownBlock = some k → w'.heap[k]? = w.heap[k]?) : w'.ownsRow base e size v n xs :=
  ⟨h.1, by
    rcases h.2 with hn | ⟨g, cap, cur, rfl, hb', hgg, rest⟩
    · exact .inl hn
    · exact .inr ⟨g, cap, cur, rfl, hb', (hb g rfl).trans hgg, rest⟩⟩

/-- a row of the call's own, apart from any other block -/
def qV {α : Type} (base : Nat) (e : TypeId) (enc : α → List Value) (sz : Nat) (v : Value) (l : List α) : Kq := ⟨fun w => OwnR w base e enc sz v l, fun g => v.ownBlock ≠ some g, fun _ => True,
  fun _ _ r h hg ha => World.ownsRow.kept h hg (by
    cases r with
    | none => cases hv : v.ownBlock with
      | none => exact .inl rfl
      | some k => exact .inr (by simp)
    | some g => exact .inr (ha g rfl)), fun _ _ => trivial⟩
theorem Qs.rowV {w : World} {ks : List Kq} (h : Qs w ks) (i : Nat) {α : Type} {base : Nat} {t : TypeId} {enc : α → List Value} {sz : Nat} {v : Value} {l : List α} (e : ks[i]? = some (qV base t enc sz v l) := by rfl) : OwnR w base t enc sz v l := h.get i e
/-- a struct with one row of elements: what belongs to it -/
def inBR (g : Nat) (V : Value) : Nat → Prop := fun k => k = g ∨ V.ownBlock = some k
theorem held_br {w : World} {α : Type} {g b0 : Nat} {t e : TypeId} {cs : Array Value} {enc : α → List Value} {sz : Nat} {V : Value} {l : List α} {P : World → Prop} (h : Blk w g t cs) (hr : OwnR w b0 e enc sz V l) (hP : ∀ w', Blk w' g t cs → OwnR w' b0 e enc sz V l → P w') : Held w (inBR g V) P :=
  ⟨fun k hk => by
    rcases hk with rfl | hk
    · exact h.lt
    · exact (World.ownsRow.lt hr k hk).2,
   fun w' f => hP w' ((f.block g h.lt (fun e => e (.inl rfl))).trans h) (own_of hr fun k hk => f.block k (World.ownsRow.lt hr k hk).2 (fun e => e (.inr hk)))⟩

end Go.Proofs.Ytfbnobhecfgahaa
