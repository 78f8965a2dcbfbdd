/- One object, or two apart from one another, with other facts: what is left of all by calls on one. -/
import Derived.Test.YtfbnobhecfgahaaFoot
set_option linter.unusedSimpArgs false
set_option linter.unusedVariables false
namespace Go.Proofs.Ytfbnobhecfgahaa
open Go.RowKit

/-- behind a call that may write S; S' is what belongs to the object then -/
structure Aft (S S' : Nat → Prop) (w w' : World) : Prop where
  foot : Foot S w w'
  new : ∀ k, S' k → S k ∨ w.heap.size ≤ k
theorem Aft.of_below {S : Nat → Prop} {w w' : World} (h : Below w.heap.size w w') : Aft S S w w' := ⟨Foot.of_below h, fun _ hk => .inl hk⟩
theorem Aft.trans {S S' S'' : Nat → Prop} {w w' w'' : World} (h : Aft S S' w w') (k : Aft S' S'' w' w'') : Aft S S'' w w'' := ⟨h.foot.trans k.foot h.new, fun j hj => by
  rcases k.new j hj with h1 | h1
  · exact h.new j h1
  · exact .inr (Nat.le_trans h.foot.size h1)⟩

/-- an object: what it is, at a world, by what belongs to it -/
abbrev Ob := World → (Nat → Prop) → Prop
abbrev Ob.at (O : Ob) (w : World) (S : Nat → Prop) : Prop := Held w S (fun w => O w S)

structure One (w : World) (ks : List Kq) (O : Ob) : Prop where
  ex : ∃ S, O.at w S ∧ ∀ k, S k → apAll k ks
  qs : Qs w ks
  new : ∀ k, w.heap.size ≤ k → apAll k ks
structure Two (w : World) (ks : List Kq) (O1 O2 : Ob) : Prop where
  ex : ∃ S R, O1.at w S ∧ O2.at w R ∧ (∀ k, S k → ¬ R k) ∧ ∀ k, S k ∨ R k → apAll k ks
  qs : Qs w ks
  new : ∀ k, w.heap.size ≤ k → apAll k ks

section
variable {w w' : World} {ks : List Kq} {O O' O1 O2 O1' : Ob} {P : Program} {F : Nat} {args : Array Value} {Q : Ending → Prop}
theorem One.go (h : One w ks O) (b : Below w.heap.size w w') : One w' ks O := by
  obtain ⟨S, h1, h2⟩ := h.ex
  exact ⟨⟨S, h1.below b, h2⟩, h.qs.go b, fun k hk => h.new k (Nat.le_trans b.size hk)⟩
theorem Two.go (h : Two w ks O1 O2) (b : Below w.heap.size w w') : Two w' ks O1 O2 := by
  obtain ⟨S, R, h1, h2, h3, h4⟩ := h.ex
  exact ⟨⟨S, R, h1.below b, h2.below b, h3, h4⟩, h.qs.go b, fun k hk => h.new k (Nat.le_trans b.size hk)⟩
theorem One.box (h : One w ks O) (cs : Array Value) (t : TypeId) : One (w.alloc (.cells cs t)) (qB w.heap.size t cs :: ks) O := by
  obtain ⟨S, h1, h2⟩ := h.ex
  exact ⟨⟨S, h1.below (below_alloc w _), fun k hk => ⟨by have := h1.low k hk; show w.heap.size ≠ k; omega, h2 k hk⟩⟩, h.qs.box cs t, fun k hk => ⟨by rw [World.size_alloc] at hk; show w.heap.size ≠ k; omega, h.new k (by rw [World.size_alloc] at hk; omega)⟩⟩
theorem Two.box (h : Two w ks O1 O2) (cs : Array Value) (t : TypeId) : Two (w.alloc (.cells cs t)) (qB w.heap.size t cs :: ks) O1 O2 := by
  obtain ⟨S, R, h1, h2, h3, h4⟩ := h.ex
  exact ⟨⟨S, R, h1.below (below_alloc w _), h2.below (below_alloc w _), h3, fun k hk => ⟨by
    have : k < w.heap.size := by rcases hk with hk | hk; exact h1.low k hk; exact h2.low k hk
    show w.heap.size ≠ k; omega, h4 k hk⟩⟩, h.qs.box cs t, fun k hk => ⟨by rw [World.size_alloc] at hk; show w.heap.size ≠ k; omega, h.new k (by rw [World.size_alloc] at hk; omega)⟩⟩
theorem One.pop {k : Kq} (h : One w (k :: ks) O) : One w ks O := by
  obtain ⟨S, h1, h2⟩ := h.ex
  exact ⟨⟨S, h1, fun j hj => (h2 j hj).2⟩, h.qs.tail, fun j hj => (h.new j hj).2⟩
theorem Two.pop {k : Kq} (h : Two w (k :: ks) O1 O2) : Two w ks O1 O2 := by
  obtain ⟨S, R, h1, h2, h3, h4⟩ := h.ex
  exact ⟨⟨S, R, h1, h2, h3, fun j hj => (h4 j hj).2⟩, h.qs.tail, fun j hj => (h.new j hj).2⟩
theorem Two.swap (h : Two w ks O1 O2) : Two w ks O2 O1 := by
  obtain ⟨S, R, h1, h2, h3, h4⟩ := h.ex
  exact ⟨⟨R, S, h2, h1, fun k hk e => h3 k e hk, fun k hk => h4 k hk.symm⟩, h.qs, h.new⟩
theorem Two.one (h : Two w ks O1 O2) : One w ks O1 := by
  obtain ⟨S, R, h1, h2, h3, h4⟩ := h.ex
  exact ⟨⟨S, h1, fun k hk => h4 k (.inl hk)⟩, h.qs, h.new⟩

/-- a call on the object -/
theorem One.call (h : One w ks O) (hc : ∀ S, O w S → Calls P F args w fun e w' => Q e ∧ ∃ S', O'.at w' S' ∧ Aft S S' w w') : Calls P F args w fun e w' => Q e ∧ One w' ks O' := by
  obtain ⟨S, h1, h2⟩ := h.ex
  refine (hc S h1.now).mono ?_
  rintro e w' ⟨hq, S', k1, k2⟩
  exact ⟨hq, ⟨S', k1, fun k hk => by
    rcases k2.new k hk with h5 | h5
    · exact h2 k h5
    · exact h.new k h5⟩, h.qs.foot k2.foot h2, fun k hk => h.new k (Nat.le_trans k2.foot.size hk)⟩
/-- a call that does not write the object -/
theorem One.ask {R : Ending → World → Prop} (h : One w ks O) (hc : ∀ S, O w S → Calls P F args w fun e w' => R e w' ∧ Below w.heap.size w w') : Calls P F args w fun e w' => R e w' ∧ One w' ks O ∧ Below w.heap.size w w' := by
  obtain ⟨S, h1, h2⟩ := h.ex
  refine (hc S h1.now).mono ?_
  rintro e w' ⟨hq, b⟩
  exact ⟨hq, h.go b, b⟩
theorem Two.call (h : Two w ks O1 O2) (hc : ∀ S, O1 w S → Calls P F args w fun e w' => Q e ∧ ∃ S', O1'.at w' S' ∧ Aft S S' w w') : Calls P F args w fun e w' => Q e ∧ Two w' ks O1' O2 := by
  obtain ⟨S, R, h1, h2, h3, h4⟩ := h.ex
  refine (hc S h1.now).mono ?_
  rintro e w' ⟨hq, S', k1, k2⟩
  exact ⟨hq, ⟨S', R, k1, h2.foot k2.foot (fun k hk e => h3 k e hk), fun k hk hR => by
    rcases k2.new k hk with h5 | h5
    · exact h3 k h5 hR
    · have := h2.low k hR; omega, fun k hk => by
    rcases hk with hk | hk
    · rcases k2.new k hk with h5 | h5
      · exact h4 k (.inl h5)
      · exact h.new k h5
    · exact h4 k (.inr hk)⟩, h.qs.foot k2.foot (fun k hk => h4 k (.inl hk)), fun k hk => h.new k (Nat.le_trans k2.foot.size hk)⟩
theorem Two.ask {R : Ending → World → Prop} (h : Two w ks O1 O2) (hc : ∀ S, O1 w S → Calls P F args w fun e w' => R e w' ∧ Below w.heap.size w w') : Calls P F args w fun e w' => R e w' ∧ Two w' ks O1 O2 ∧ Below w.heap.size w w' := by
  obtain ⟨S, R, h1, h2, h3, h4⟩ := h.ex
  refine (hc S h1.now).mono ?_
  rintro e w' ⟨hq, b⟩
  exact ⟨hq, h.go b, b⟩
/-- a new object -/
theorem One.make (hq : Qs w ks) (hn : ∀ k, w.heap.size ≤ k → apAll k ks) (b : Below w.heap.size w w') {S : Nat → Prop} (h1 : O.at w' S) (hS : ∀ k, S k → w.heap.size ≤ k) : One w' ks O :=
  ⟨⟨S, h1, fun k hk => hn k (hS k hk)⟩, hq.go b, fun k hk => hn k (Nat.le_trans b.size hk)⟩
theorem One.second (h : One w ks O1) (b : Below w.heap.size w w') {R : Nat → Prop} (h1 : O2.at w' R) (hR : ∀ k, R k → w.heap.size ≤ k) : Two w' ks O1 O2 := by
  obtain ⟨S, k1, k2⟩ := h.ex
  exact ⟨⟨S, R, k1.below b, h1, fun k hk e => by have := k1.low k hk; have := hR k e; omega, fun k hk => by
    rcases hk with hk | hk
    · exact k2 k hk
    · exact h.new k (hR k hk)⟩, h.qs.go b, fun k hk => h.new k (Nat.le_trans b.size hk)⟩
theorem new_top (w : World) : ∀ k, w.heap.size ≤ k → apAll k [qW w w.heap.size (Nat.le_refl _)] := fun _ hk => ⟨hk, trivial⟩
end

end Go.Proofs.Ytfbnobhecfgahaa
