/- Joined: Gen, Ext. -/
import Derived.Test.YtmcdollkmlcpbaaGreatDoorQ4
import Derived.Laws.CopyOwn
import Derived.Laws.IdiomStrings
import Derived.Laws.BytesArg
import Derived.Laws.StructEq
import Derived.MapKept
set_option linter.unusedSimpArgs false
set_option linter.unusedVariables false
set_option linter.unusedSimpArgs false
set_option linter.unusedVariables false
namespace Go.Proofs.YtmcdollkmlcpbaaGreatDoor
open Go.RowKit
theorem own_below {w w' : World} {base : Nat} {e : TypeId} {size n : Nat} {v : Value} {xs : List Value} (h : w.ownsRow base e size v n xs) (hb : Below w.heap.size w w') : w'.ownsRow base e size v n xs := by
 refine ⟨h.1, ?_⟩
 rcases h.2 with hn | ⟨g, cap, cur, rfl, hbg, hgg, rest⟩
 ·exact .inl hn
 ·exact .inr ⟨g, cap, cur, rfl, hbg, (hb.block g (Array.getElem?_eq_some_iff.1 hgg).1).trans hgg, rest⟩
theorem own_mono {w : World} {base base' : Nat} {e : TypeId} {size n : Nat} {v : Value} {xs : List Value} (h : w.ownsRow base e size v n xs) (hb : base' ≤ base) : w.ownsRow base' e size v n xs := by
 refine ⟨h.1, ?_⟩
 rcases h.2 with hn | ⟨g, cap, cur, rfl, hbg, rest⟩
 ·exact .inl hn
 ·exact .inr ⟨g, cap, cur, rfl, by omega, rest⟩
theorem box_cell (w : World) (cs : Array Value) (t : TypeId) (i : Nat) (v : Value) (h : cs[i]? = some v) : (w.alloc (.cells cs t)).cell? ⟨w.heap.size, i, none⟩ = some v := by
 rw [cell_of_row _ _ _ cs t (0, 0) (heap_alloc_new w _)]; exact h
theorem box_free (w : World) (cs : Array Value) (t : TypeId) (i : Nat) : (w.alloc (.cells cs t)).frozen? ⟨w.heap.size, i, none⟩ = false :=
 frozen_of_row _ _ _ cs t (heap_alloc_new w _)
def Blk (w : World) (g : Nat) (t : TypeId) (cs : Array Value) : Prop := w.heap[g]? = some (.cells cs t (0, 0))
section
variable {w w' : World} {g : Nat} {t : TypeId} {cs : Array Value}
theorem Blk.lt (h : Blk w g t cs) : g < w.heap.size := by
 rcases Nat.lt_or_ge g w.heap.size with hlt | hge
 ·exact hlt
 ·unfold Blk at h; rw [Array.getElem?_eq_none hge] at h; cases h
theorem Blk.cell (h : Blk w g t cs) (i : Nat) : w.cell? ⟨g, i, none⟩ = cs[i]? := cell_of_row w g i cs t (0, 0) h
theorem Blk.frozen (h : Blk w g t cs) (i : Nat) : w.frozen? ⟨g, i, none⟩ = false := frozen_of_row w g i cs t h
theorem Blk.new (w : World) (t : TypeId) (cs : Array Value) : Blk (w.alloc (.cells cs t)) w.heap.size t cs := heap_alloc_new w _
theorem Blk.alloc (h : Blk w g t cs) (o : Obj) : Blk (w.alloc o) g t cs := (Below.heap_alloc w o g h.lt).trans h
theorem Blk.below {B : Nat} (h : Blk w g t cs) (hb : Below B w w') (hg : g < B) : Blk w' g t cs := (hb.block g hg).trans h
end
theorem kept1 {w w1 : World} {x y : Value} {t : TypeId} {B : Nat} (hb : Below B (w.alloc (.cells #[x, y] t)) w1) (hB : w.heap.size < B) :
  w1.cell? ⟨w.heap.size, 0, none⟩ = some x ∧ w1.cell? ⟨w.heap.size, 1, none⟩ = some y ∧ w.heap.size + 1 ≤ w1.heap.size ∧ w1.frozen? ⟨w.heap.size, 0, none⟩ = false ∧ w1.frozen? ⟨w.heap.size, 1, none⟩ = false := by
 have h := (Blk.new w t #[x, y]).below hb hB
 exact ⟨h.cell 0, h.cell 1, h.lt, h.frozen 0, h.frozen 1⟩
theorem kept2 {w w1 : World} {x y a b : Value} {t t' : TypeId} {B : Nat} (hb : Below B ((w.alloc (.cells #[x, y] t)).alloc (.cells #[a, b] t')) w1) (hB : w.heap.size + 1 < B) :
  w1.cell? ⟨w.heap.size, 0, none⟩ = some x ∧ w1.cell? ⟨w.heap.size, 1, none⟩ = some y ∧ w1.cell? ⟨w.heap.size + 1, 0, none⟩ = some a ∧ w1.cell? ⟨w.heap.size + 1, 1, none⟩ = some b ∧
  w1.frozen? ⟨w.heap.size + 1, 0, none⟩ = false ∧ w1.frozen? ⟨w.heap.size + 1, 1, none⟩ = false ∧ w.heap.size + 2 ≤ w1.heap.size := by
 have h := ((Blk.new w t #[x, y]).alloc (.cells #[a, b] t')).below hb (by omega)
 have k := (Blk.new (w.alloc (.cells #[x, y] t)) t' #[a, b]).below hb (by simpa using hB)
 have e : (w.alloc (.cells #[x, y] t)).heap.size = w.heap.size + 1 := by simp
 rw [e] at k
 exact ⟨h.cell 0, h.cell 1, k.cell 0, k.cell 1, k.frozen 0, k.frozen 1, k.lt⟩
theorem below_alloc (w : World) (o : Obj) : Below w.heap.size w (w.alloc o) := (Below.refl _ _).alloc (Nat.le_refl _) _
theorem below_alloc2 (w : World) (o o' : Obj) : Below w.heap.size w ((w.alloc o).alloc o') := (below_alloc w o).alloc (by simp) o'
theorem own_grown {w w' : World} {base : Nat} {e : TypeId} {size n : Nat} {v : Value} {xs : List Value} (h : w.ownsRow base e size v n xs) (hg : w.grownBy w' v.ownBlock) (hb : base ≤ w.heap.size) : Below base w w' :=
 (Below.refl _ _).grown hg hb fun k hk => (h.lt k hk).1
theorem str_eq (l l' : List UInt8) : ((⟨l.toArray⟩ : ByteArray).toList == (⟨l'.toArray⟩ : ByteArray).toList) = decide (l = l') := by
 rw [← beq_toListBytes, Bool.eq_iff_iff, MapKept.bytes_beq, decide_eq_true_eq]
 constructor
 ·intro e
  injection e with e
  simpa using e
 ·intro e; rw [e]
end Go.Proofs.YtmcdollkmlcpbaaGreatDoor
set_option linter.unusedSimpArgs false
set_option linter.unusedVariables false
namespace Go.Proofs.YtmcdollkmlcpbaaGreatDoor
open Go.RowKit
structure More where
 bl : Array Obj
 d : Nat
instance : Nonempty More := ⟨⟨#[], 0⟩⟩
def plus (w : World) (x : More) : World := { w with heap := w.heap ++ x.bl, drawn := x.d }
theorem plus_block (w : World) (x : More) (k : Nat) (h : k < w.heap.size) : (plus w x).heap[k]? = w.heap[k]? := by
 show (w.heap ++ x.bl)[k]? = _
 rw [Array.getElem?_append_left h]
theorem plus_below (w : World) (x : More) : Below w.heap.size w (plus w x) :=
 ⟨rfl, rfl, rfl, by show _ ≤ (w.heap ++ x.bl).size; simp, fun k hk => plus_block w x k hk⟩
theorem plus_cell (w : World) (x : More) (a : Addr) (h : (w.cell? a).isSome = true) : (plus w x).cell? a = w.cell? a := by
 obtain ⟨v, hv⟩ := Option.isSome_iff_exists.1 h
 exact (plus_below w x).cell (cell_lt hv)
theorem below_plus {w w' : World} (h : Below w.heap.size w w') : ∃ x, w' = plus w x := by
 refine ⟨⟨w'.heap.extract w.heap.size w'.heap.size, w'.drawn⟩, ?_⟩
 have hh : w'.heap = w.heap ++ w'.heap.extract w.heap.size w'.heap.size := by
  apply Array.ext_getElem?
  intro i
  by_cases hi : i < w.heap.size
  ·rw [Array.getElem?_append_left hi]; exact h.block i hi
  ·rw [Array.getElem?_append_right (by omega), Array.getElem?_extract]
   have e : w.heap.size + (i - w.heap.size) = i := by omega
   rw [e]
   split
   ·rfl
   ·rename_i hn
    rw [Array.getElem?_eq_none]
    simp at hn; omega
 have h1 := h.os; have h2 := h.tape; have h3 := h.output
 cases w'
 simp only at h1 h2 h3 hh
 subst h1; subst h2; subst h3
 unfold plus
 simp only [World.mk.injEq, true_and, and_true]
 exact hh
theorem plus_plus {w w' : World} {x : More} (h : Below (plus w x).heap.size (plus w x) w') : ∃ x', w' = plus w x' :=
 below_plus ((plus_below w x).trans (h.mono (plus_below w x).size))
theorem ext_of {P : Program} {f : FuncId} {args : Array Value} {w : World} {x : More} {v : Value}
  (h : Calls P f args (plus w x) fun e w' => e = .returned v ∧ Below (plus w x).heap.size (plus w x) w') : Calls P f args (plus w x) fun e w'' => e = .returned v ∧ ∃ x', w'' = plus w x' :=
 h.mono fun _ _ ⟨he, hm⟩ => ⟨he, plus_plus hm⟩
theorem wp_region_ext {P : Program} {id : Nat} {Q : Exit → Act → World → Prop} {a : Act} {w : World} {l : List Oper} (hm : P.follows .mixedOrders = true) (hB : Region.lexB .any l.toArray = true)
  (h : wpQuiet P l.toArray (fun w' => ∃ x, w' = plus w x) (fun a' => ∀ w', (∃ x, w' = plus w x) → Q .normal a' w') l a) : (Code.region id l.toArray true).wp P Q a w :=
 wp_region_quiet (C := fun w' => ∃ x, w' = plus w x) hm hB ⟨⟨#[], w.drawn + 1⟩, by simp [plus]⟩ (by simpa using h)
theorem keep {w w' : World} (h : Below w.heap.size w w') : ∀ a : Addr, (w.cell? a).isSome = true → w'.cell? a = w.cell? a := fun a ha => by
 obtain ⟨v, hv⟩ := Option.isSome_iff_exists.1 ha
 exact h.cell (cell_lt hv)
theorem keepA (w : World) (o : Obj) (a : Addr) (h : (w.cell? a).isSome = true) : (w.alloc o).cell? a = w.cell? a := keep (below_alloc w o) a h
theorem boxN {w w' : World} {t : TypeId} {x y : Value} (h : Below (w.alloc (.cells #[x, y] t)).heap.size (w.alloc (.cells #[x, y] t)) w') :
  w'.cell? ⟨w.heap.size, 0, none⟩ = some x ∧ w'.cell? ⟨w.heap.size, 1, none⟩ = some y := by
 obtain ⟨h0, h1, _⟩ := kept1 h (by simp)
 exact ⟨h0, h1⟩
theorem box1 {w w' : World} {p : Nat} {x y : Value} (h : Below w.heap.size w w') (b : w.cell? ⟨p, 0, none⟩ = some x ∧ w.cell? ⟨p, 1, none⟩ = some y) : w'.cell? ⟨p, 0, none⟩ = some x ∧ w'.cell? ⟨p, 1, none⟩ = some y :=
 ⟨(h.cell (cell_lt b.1)).trans b.1, (h.cell (cell_lt b.2)).trans b.2⟩
theorem on1 {w W w' : World} (h : Below w.heap.size w W) (k : Below W.heap.size W w') : Below w.heap.size w w' := h.trans (k.mono h.size)
end Go.Proofs.YtmcdollkmlcpbaaGreatDoor
