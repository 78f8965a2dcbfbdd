/-
  A region that draws its order, whose operations read, compute, and call functions that make memory of their own and hand back plain values: whatever the order, the values are the same; the world behind it is the world ahead of it with more blocks.
-/
import Derived.Test.YtgadedpcekiljaaGen
set_option linter.unusedSimpArgs false
set_option linter.unusedVariables false
namespace Go.Proofs.Ytgadedpcekiljaa
open Go.RowKit

structure More where
  bl : Array Obj
  d : Nat

instance : Nonempty More := ⟨⟨#[], 0⟩⟩

/-- the world with more blocks, and some other count of draws -/
def plus (w : World) (x : More) : World := { w with heap := w.heap ++ x.bl, drawn := x.d }

theorem plus_block (w : World) (x : More) (k : Nat) (h : k < w.heap.size) : (plus w x).heap[k]? = w.heap[k]? := by
  show (w.heap ++ x.bl)[k]? = _
  rw [Array.getElem?_append_left h]

theorem plus_below (w : World) (x : More) : Below w.heap.size w (plus w x) :=
  ⟨rfl, rfl, rfl, by show _ ≤ (w.heap ++ x.bl).size; simp, fun k hk => plus_block w x k hk⟩

theorem plus_cell (w : World) (x : More) (a : Addr) (h : (w.cell? a).isSome = true) : (plus w x).cell? a = w.cell? a := by
  obtain ⟨v, hv⟩ := Option.isSome_iff_exists.1 h
  exact (plus_below w x).cell (cell_lt hv)

theorem below_plus {w w' : World} (h : Below w.heap.size w w') : ∃ x, w' = plus w x := by
  refine ⟨⟨w'.heap.extract w.heap.size w'.heap.size, w'.drawn⟩, ?_⟩
  have hh : w'.heap = w.heap ++ w'.heap.extract w.heap.size w'.heap.size := by
    apply Array.ext_getElem?
    intro i
    by_cases hi : i < w.heap.size
    · rw [Array.getElem?_append_left hi]; exact h.block i hi
    · rw [Array.getElem?_append_right (by omega), Array.getElem?_extract]
      have e : w.heap.size + (i - w.heap.size) = i := by omega
      rw [e]
      split
      · rfl
      · rename_i hn
        rw [Array.getElem?_eq_none]
        simp at hn; omega
  have h1 := h.os; have h2 := h.tape; have h3 := h.output
  cases w'
  simp only at h1 h2 h3 hh
  subst h1; subst h2; subst h3
  unfold plus
  simp only [World.mk.injEq, true_and, and_true]
  exact hh

theorem plus_plus {w w' : World} {x : More} (h : Below (plus w x).heap.size (plus w x) w') : ∃ x', w' = plus w x' :=
  below_plus ((plus_below w x).trans (h.mono (plus_below w x).size))

/-- a callee's contract as the region wants it -/
theorem ext_of {P : Program} {f : FuncId} {args : Array Value} {w : World} {x : More} {v : Value}
    (h : Calls P f args (plus w x) fun e w' => e = .returned v ∧ Below (plus w x).heap.size (plus w x) w') : Calls P f args (plus w x) fun e w'' => e = .returned v ∧ ∃ x', w'' = plus w x' :=
  h.mono fun _ _ ⟨he, hm⟩ => ⟨he, plus_plus hm⟩

theorem wp_region_ext {P : Program} {id : Nat} {Q : Exit → Act → World → Prop} {a : Act} {w : World} {l : List Oper} (hm : P.follows .mixedOrders = true) (hB : Region.lexB .any l.toArray = true)
    (h : wpQuiet P l.toArray (fun w' => ∃ x, w' = plus w x) (fun a' => ∀ w', (∃ x, w' = plus w x) → Q .normal a' w') l a) : (Code.region id l.toArray true).wp P Q a w :=
  wp_region_quiet (C := fun w' => ∃ x, w' = plus w x) hm hB ⟨⟨#[], w.drawn + 1⟩, by simp [plus]⟩ (by simpa using h)

/-- what was there is there still: a rule for the walk -/
theorem keep {w w' : World} (h : Below w.heap.size w w') : ∀ a : Addr, (w.cell? a).isSome = true → w'.cell? a = w.cell? a := fun a ha => by
  obtain ⟨v, hv⟩ := Option.isSome_iff_exists.1 ha
  exact h.cell (cell_lt hv)

theorem keepA (w : World) (o : Obj) (a : Addr) (h : (w.cell? a).isSome = true) : (w.alloc o).cell? a = w.cell? a := keep (below_alloc w o) a h

/-- a block of two cells: laid, and a call; kept over a call; kept over a new block and a call -/
theorem boxN {w w' : World} {t : TypeId} {x y : Value} (h : Below (w.alloc (.cells #[x, y] t)).heap.size (w.alloc (.cells #[x, y] t)) w') :
    w'.cell? ⟨w.heap.size, 0, none⟩ = some x ∧ w'.cell? ⟨w.heap.size, 1, none⟩ = some y := by
  obtain ⟨h0, h1, _⟩ := kept1 h (by simp)
  exact ⟨h0, h1⟩
theorem box1 {w w' : World} {p : Nat} {x y : Value} (h : Below w.heap.size w w') (b : w.cell? ⟨p, 0, none⟩ = some x ∧ w.cell? ⟨p, 1, none⟩ = some y) : w'.cell? ⟨p, 0, none⟩ = some x ∧ w'.cell? ⟨p, 1, none⟩ = some y :=
  ⟨(h.cell (cell_lt b.1)).trans b.1, (h.cell (cell_lt b.2)).trans b.2⟩
theorem boxA {w : World} {p : Nat} {x y : Value} (o : Obj) (b : w.cell? ⟨p, 0, none⟩ = some x ∧ w.cell? ⟨p, 1, none⟩ = some y) : (w.alloc o).cell? ⟨p, 0, none⟩ = some x ∧ (w.alloc o).cell? ⟨p, 1, none⟩ = some y :=
  box1 (below_alloc w o) b
theorem box2 {w w' : World} {o : Obj} {p : Nat} {x y : Value} (h : Below (w.alloc o).heap.size (w.alloc o) w') (b : w.cell? ⟨p, 0, none⟩ = some x ∧ w.cell? ⟨p, 1, none⟩ = some y) : w'.cell? ⟨p, 0, none⟩ = some x ∧ w'.cell? ⟨p, 1, none⟩ = some y :=
  box1 h (boxA o b)

/-- from the beginning on: a call -/
theorem on1 {w W w' : World} (h : Below w.heap.size w W) (k : Below W.heap.size W w') : Below w.heap.size w w' := h.trans (k.mono h.size)
/-- a new block, and a call -/
theorem on2 {w W w' : World} {o : Obj} (h : Below w.heap.size w W) (k : Below (W.alloc o).heap.size (W.alloc o) w') : Below w.heap.size w w' := on1 (on1 h (below_alloc W o)) k

end Go.Proofs.Ytgadedpcekiljaa
