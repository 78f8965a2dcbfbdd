/- A store into one cell of a row of elements of several cells, the row a thing beside others. -/
import Derived.Test.YtgadedpcekiljaaSepA
set_option linter.unusedSimpArgs false
set_option linter.unusedVariables false
namespace Go.Proofs.Ytgadedpcekiljaa
open Go.RowKit

theorem flat_set1 {α : Type} (enc : α → List Value) (sz : Nat) (hlen : ∀ x, (enc x).length = sz) (l : List α) (i j : Nat) (x y : α) (u : Value) (hi : l[i]? = some x) (hj : j < sz) (hy : enc y = (enc x).set j u) : (l.flatMap enc).set (i * sz + j) u = (l.set i y).flatMap enc := by
  obtain ⟨hil, hix⟩ := List.getElem?_eq_some_iff.1 hi
  have h1 : l = l.take i ++ x :: l.drop (i + 1) := by rw [← hix]; simp
  have h2 : l.set i y = l.take i ++ y :: l.drop (i + 1) := List.set_eq_take_append_cons_drop .. |>.trans (by rw [if_pos hil])
  have h3 : ((l.take i).flatMap enc).length = i * sz := by rw [flat_length enc sz hlen, List.length_take, Nat.min_eq_left (Nat.le_of_lt hil)]
  rw [h2]
  conv => lhs; rw [h1]
  rw [List.flatMap_append, List.flatMap_cons, List.flatMap_append, List.flatMap_cons, List.set_append, if_neg (by omega), h3, List.set_append, if_pos (by rw [hlen]; omega), hy, show i * sz + j - i * sz = j by omega]
theorem OwnR.turn {α : Type} {P : Program} {t e : TypeId} {enc : α → List Value} {sz bytes : Nat} (E : Elt P t e enc sz bytes) {w : World} {base g n c : Nat} {l : List α} (h : OwnR w base e enc sz (.slice (some ⟨g, 0, none⟩) n c) l) (hn : n = l.length) (i j : Nat) (x y : α) (u : Value) (hi : l[i]? = some x) (hj : j < sz) (hy : enc y = (enc x).set j u) : OwnR (w.setCell ⟨g, i * sz + j, none⟩ u) base e enc sz (.slice (some ⟨g, 0, none⟩) n c) (l.set i y) := by
  subst hn
  have h1 := (World.ownsRow.stored h (i * sz + j) u).1
  unfold OwnR
  rw [List.length_set, ← flat_set1 enc sz E.len l i j x y u hi hj hy]
  exact h1

theorem Sep.turnR {α : Type} {P : Program} {t e : TypeId} {enc : α → List Value} {sz bytes : Nat} (E : Elt P t e enc sz bytes) {B : Nat} {w0 w : World} {ts : List Kt} (h : Sep B w0 w ts) (i : Nat) {g n c : Nat} {l : List α} (ei : ts[i]? = some (thR e enc sz (.slice (some ⟨g, 0, none⟩) n c) l)) (hn : n = l.length) (k j : Nat) (x y : α) (u : Value) (hk : l[k]? = some x) (hj : j < sz) (hy : enc y = (enc x).set j u) :
    Sep B w0 (w.setCell ⟨g, k * sz + j, none⟩ u) (ts.set i (thR e enc sz (.slice (some ⟨g, 0, none⟩) n c) (l.set k y))) :=
  h.call (t' := thR e enc sz (.slice (some ⟨g, 0, none⟩) n c) (l.set k y)) i ei (Tou.set g _ u rfl) (OwnR.turn E (h.at_ i ei) hn k j x y u hk hj hy) (fun m hm => .inl hm)
/-- a row's elements lie in one block -/
theorem row_at {α : Type} {P : Program} {w : World} {t e : TypeId} {enc : α → List Value} {sz bytes : Nat} (E : Elt P t e enc sz bytes) {A : Option Addr} {n c : Nat} {l : List α} (h : OwnR w 0 e enc sz (.slice A n c) l) {k : Nat} {x : α} (hk : l[k]? = some x) : ∃ g, A = some ⟨g, 0, none⟩ ∧ n = l.length ∧ ∀ j v, (enc x)[j]? = some v → w.cell? ⟨g, k * sz + j, none⟩ = some v := by
  obtain ⟨A', c', hv, -, hr⟩ := OwnR.row E h
  injection hv with e1 e2 e3
  rcases h.2 with ⟨h1, h2⟩ | ⟨g, cap, cur, h1, _⟩
  · rw [List.eq_nil_of_length_eq_zero h2] at hk
    cases hk
  · injection h1 with f1 f2 f3
    obtain ⟨p, o, h3, h4⟩ := hr k x hk
    rw [← e1, f1] at h3
    injection h3 with h3
    injection h3 with h3 h5
    subst h3
    subst h5
    exact ⟨g, f1, e2, fun j v hj => by have := h4 j v hj; rw [Nat.zero_add] at this; exact this⟩
theorem row_froz {α : Type} {w : World} {e : TypeId} {enc : α → List Value} {sz : Nat} {g n c : Nat} {l : List α} (h : OwnR w 0 e enc sz (.slice (some ⟨g, 0, none⟩) n c) l) (i : Nat) : w.frozen? ⟨g, i, none⟩ = false := by
  rcases h.2 with ⟨h', _⟩ | ⟨g', cap', cur, h', hb, hg, _⟩
  · cases h'
  · injection h' with e1 e2 e3
    injection e1 with e1
    injection e1 with e1
    subst e1
    unfold World.frozen?
    rw [hg]
    rfl
end Go.Proofs.Ytgadedpcekiljaa
