/- Things that own blocks, apart from each other: kept over calls that turn one of them. -/
import Derived.Test.YtgadedpcekiljaaTouQ
set_option linter.unusedSimpArgs false
set_option linter.unusedVariables false
namespace Go.Proofs.Ytgadedpcekiljaa
open Go.RowKit

/-- a thing: what is said of it, and its blocks -/
structure Kt where
  P : World → Prop
  F : Nat → Prop
  keep : ∀ {w w' : World} {G : Nat → Prop}, P w → Tou G w w' → (∀ k, F k → ¬ G k) → P w'
  lt : ∀ {w : World}, P w → ∀ k, F k → k < w.heap.size
theorem Kt.below (t : Kt) {w w' : World} (h : t.P w) (b : Below w.heap.size w w') : t.P w' := t.keep (G := fun _ => False) h (Tou.of_below b) (fun _ _ e => e)

/-- things apart from each other, all made since B -/
structure Sep (B : Nat) (w0 w : World) (ts : List Kt) : Prop where
  b : Below B w0 w
  sz : B ≤ w.heap.size
  all : ∀ t ∈ ts, t.P w ∧ ∀ k, t.F k → B ≤ k
  ap : ts.Pairwise fun a b => ∀ k, a.F k → ¬ b.F k
section
variable {B : Nat} {w0 w w' : World} {ts us : List Kt} {t t' t1 t2 : Kt}
theorem Sep.nil (h : Below B w0 w) (hs : B ≤ w.heap.size) : Sep B w0 w [] := ⟨h, hs, fun t ht => by simp at ht, .nil⟩
theorem Sep.get (h : Sep B w0 w ts) (ht : t ∈ ts) : t.P w := (h.all t ht).1
theorem Sep.at_ (h : Sep B w0 w ts) (i : Nat) (e : ts[i]? = some t) : t.P w := h.get (List.mem_of_getElem? e)
theorem Sep.go (h : Sep B w0 w ts) (b : Below w.heap.size w w') : Sep B w0 w' ts := ⟨h.b.trans (b.mono h.sz), Nat.le_trans h.sz b.size, fun t ht => ⟨t.below (h.all t ht).1 b, (h.all t ht).2⟩, h.ap⟩
theorem Sep.drew (h : Sep B w0 w ts) : Sep B w0 w.drew ts := h.go (Below.refl w.heap.size w).drew
theorem Sep.sub (h : Sep B w0 w ts) (hs : us.Sublist ts) : Sep B w0 w us := ⟨h.b, h.sz, fun t ht => h.all t (hs.subset ht), h.ap.sublist hs⟩
theorem Sep.left (h : Sep B w0 w (ts ++ us)) : Sep B w0 w ts := h.sub (List.sublist_append_left ts us)
theorem Sep.apart (h : Sep B w0 w ts) {i j : Nat} (hi : ts[i]? = some t1) (hj : ts[j]? = some t2) (hij : i ≠ j) : ∀ k, t1.F k → ¬ t2.F k := by
  obtain ⟨hil, hie⟩ := List.getElem?_eq_some_iff.1 hi
  obtain ⟨hjl, hje⟩ := List.getElem?_eq_some_iff.1 hj
  have hap := List.pairwise_iff_getElem.1 h.ap
  intro k h1 h2
  rcases Nat.lt_or_gt_of_ne hij with h3 | h3
  · exact hap i j hil hjl h3 k (by rw [hie]; exact h1) (by rw [hje]; exact h2)
  · exact hap j i hjl hil h3 k (by rw [hje]; exact h2) (by rw [hie]; exact h1)
/-- a call turns thing i -/
theorem Sep.call (h : Sep B w0 w ts) (i : Nat) (e : ts[i]? = some t) (hT : Tou t.F w w') (hP : t'.P w') (hN : ∀ k, t'.F k → t.F k ∨ w.heap.size ≤ k) : Sep B w0 w' (ts.set i t') := by
  have ht := h.all t (List.mem_of_getElem? e)
  have hB : ∀ k, t'.F k → B ≤ k := fun k hk => (hN k hk).elim (ht.2 k) (fun h1 => Nat.le_trans h.sz h1)
  have hlt : ∀ x ∈ ts, ∀ k, x.F k → k < w.heap.size := fun x hx => x.lt (h.all x hx).1
  refine ⟨hT.under h.b ht.2 h.sz, Nat.le_trans h.sz hT.size, fun x hx => ?_, ?_⟩
  · obtain ⟨j, hj⟩ := List.getElem?_of_mem hx
    by_cases hji : j = i
    · subst hji
      rw [List.getElem?_set_self (List.getElem?_eq_some_iff.1 e).1] at hj
      injection hj with hj
      subst hj
      exact ⟨hP, hB⟩
    · rw [List.getElem?_set_ne (Ne.symm hji)] at hj
      exact ⟨x.keep (h.at_ j hj) hT (h.apart hj e hji), (h.all x (List.mem_of_getElem? hj)).2⟩
  · rw [List.pairwise_iff_getElem]
    intro a b ha hb hab k h1 h2
    have ha' : a < ts.length := by simpa using ha
    have hb' : b < ts.length := by simpa using hb
    rw [List.getElem_set] at h1 h2
    by_cases hia : i = a
    · by_cases hib : i = b
      · omega
      · rw [if_pos hia] at h1
        rw [if_neg hib] at h2
        rcases hN k h1 with h3 | h3
        · exact h.apart e (List.getElem?_eq_getElem hb') (by omega) k h3 h2
        · have := hlt _ (List.getElem_mem hb') k h2; omega
    · rw [if_neg hia] at h1
      by_cases hib : i = b
      · rw [if_pos hib] at h2
        rcases hN k h2 with h3 | h3
        · exact h.apart e (List.getElem?_eq_getElem ha') (by omega) k h3 h1
        · have := hlt _ (List.getElem_mem ha') k h1; omega
      · rw [if_neg hib] at h2
        exact h.apart (List.getElem?_eq_getElem ha') (List.getElem?_eq_getElem hb') (by omega) k h1 h2
theorem Sep.tail (h : Sep B w0 w (t :: ts)) : Sep B w0 w ts := h.sub (List.sublist_cons_self t ts)
/-- a new thing, in front -/
theorem Sep.cons (h : Sep B w0 w ts) (b : Below w.heap.size w w') (hP : t.P w') (hF : ∀ k, t.F k → w.heap.size ≤ k) : Sep B w0 w' (t :: ts) := by
  have h1 := h.go b
  refine ⟨h1.b, h1.sz, fun x hx => ?_, ?_⟩
  · rw [List.mem_cons] at hx
    rcases hx with rfl | hx
    · exact ⟨hP, fun k hk => Nat.le_trans h.sz (hF k hk)⟩
    · exact h1.all x hx
  · rw [List.pairwise_cons]
    refine ⟨fun a ha k hk hk2 => ?_, h.ap⟩
    have := a.lt (h.all a ha).1 k hk2
    have := hF k hk
    omega
/-- a call turns thing i and hands out another, which was part of it or is new -/
theorem Sep.split (h : Sep B w0 w ts) (i : Nat) (e : ts[i]? = some t) (hT : Tou t.F w w') (hP : t'.P w') (hP2 : t2.P w') (hN : ∀ k, t'.F k → t.F k ∨ w.heap.size ≤ k) (hN2 : ∀ k, t2.F k → t.F k ∨ w.heap.size ≤ k) (hd : ∀ k, t'.F k → ¬ t2.F k) : Sep B w0 w' (t2 :: ts.set i t') := by
  have h1 := h.call i e hT hP hN
  have ht := h.all t (List.mem_of_getElem? e)
  have hlt : ∀ x ∈ ts, ∀ k, x.F k → k < w.heap.size := fun x hx => x.lt (h.all x hx).1
  refine ⟨h1.b, h1.sz, fun x hx => ?_, ?_⟩
  · rw [List.mem_cons] at hx
    rcases hx with rfl | hx
    · exact ⟨hP2, fun k hk => (hN2 k hk).elim (ht.2 k) (fun h2 => Nat.le_trans h.sz h2)⟩
    · exact h1.all x hx
  · rw [List.pairwise_cons]
    refine ⟨fun a ha k hk2 hk => ?_, h1.ap⟩
    obtain ⟨j, hj⟩ := List.getElem?_of_mem ha
    by_cases hji : j = i
    · subst hji
      rw [List.getElem?_set_self (List.getElem?_eq_some_iff.1 e).1] at hj
      injection hj with hj
      subst hj
      exact hd k hk hk2
    · rw [List.getElem?_set_ne (Ne.symm hji)] at hj
      rcases hN2 k hk2 with h3 | h3
      · exact h.apart hj e hji k hk h3
      · have := hlt a (List.mem_of_getElem? hj) k hk; omega
end

/-- a block, bytes, elements, a row whose elements own bytes -/
def thB (g : Nat) (t : TypeId) (cs : Array Value) : Kt := ⟨fun w => Blk w g t cs, fun k => k = g, fun h t hF => t.blk h (hF g rfl), fun h k e => by subst e; exact h.lt⟩
def thO (v : Value) (l : List UInt8) : Kt := ⟨fun w => OwnB w 0 v l, fun k => v.ownBlock = some k, fun h t hF => t.row h hF, fun h k e => (World.ownsRow.lt h k e).2⟩
def thR {α : Type} (e : TypeId) (enc : α → List Value) (sz : Nat) (v : Value) (l : List α) : Kt := ⟨fun w => OwnR w 0 e enc sz v l, fun k => v.ownBlock = some k, fun h t hF => t.row h hF, fun h k e => (World.ownsRow.lt h k e).2⟩
def thG {γ : Type} (by_ : γ → List UInt8) (va : γ → Value) (e : TypeId) (enc : γ → List Value) (sz : Nat) (V : Value) (T : List γ) : Kt := ⟨fun w => Gl by_ va w e enc sz V T, footG va V T, fun h t hF => h.kept t hF, fun h => h.lt⟩
theorem Sep.box {B : Nat} {w0 w : World} {ts : List Kt} (h : Sep B w0 w ts) (cs : Array Value) (t : TypeId) : Sep B w0 (w.alloc (.cells cs t)) (thB w.heap.size t cs :: ts) :=
  h.cons (below_alloc w _) (Blk.new w t cs) (fun k e => by subst e; exact Nat.le_refl _)
theorem Sep.blk {B : Nat} {w0 w : World} {ts : List Kt} (h : Sep B w0 w ts) (i : Nat) {g : Nat} {t : TypeId} {cs : Array Value} (e : ts[i]? = some (thB g t cs) := by rfl) : Blk w g t cs := h.at_ i e
theorem Sep.own {B : Nat} {w0 w : World} {ts : List Kt} (h : Sep B w0 w ts) (i : Nat) {v : Value} {l : List UInt8} (e : ts[i]? = some (thO v l) := by rfl) : OwnB w 0 v l := h.at_ i e
/-- bytes are stored into -/
theorem Sep.byte {B : Nat} {w0 w : World} {ts : List Kt} (h : Sep B w0 w ts) (i : Nat) {g n c : Nat} {l : List UInt8} (j : Nat) (x : UInt8) (e : ts[i]? = some (thO (.slice (some ⟨g, 0, none⟩) n c) l) := by rfl) : Sep B w0 (w.setCell ⟨g, j, none⟩ (bv x)) (ts.set i (thO (.slice (some ⟨g, 0, none⟩) n c) (l.set j x))) :=
  h.call i e (Tou.set g j _ rfl) ((h.own i e).set j x) (fun k hk => .inl hk)
/-- a block is stored into -/
theorem Sep.put {B : Nat} {w0 w w' : World} {ts : List Kt} (h : Sep B w0 w ts) (i g : Nat) (l : List (Nat × Value)) (cs' : Array Value) {t : TypeId} {cs : Array Value} (hW : sets w g l = w') (e : ts[i]? = some (thB g t cs) := by rfl) (hc : setsL cs.toList l = cs'.toList := by rfl) : Sep B w0 w' (ts.set i (thB g t cs')) := by
  have hc' : (setsL cs.toList l).toArray = cs' := by rw [hc]
  rw [← hW, ← hc']
  exact h.call i e (Tou.of_grown (grown_sets g l w) (fun k e => by injection e with e; exact e.symm)) ((h.blk i e).sets l) (fun k hk => .inl hk)
/-- what lay there at the beginning -/
theorem Sep.bs {B : Nat} {w0 w : World} {ts : List Kt} (h : Sep B w0 w ts) (hB : w0.heap.size ≤ B) {A : Option Addr} {l : List UInt8} (b : Bs w0 A l) : Bs w A l := fun i x hi => by
  obtain ⟨p, o, hA, hc⟩ := b i x hi
  exact ⟨p, o, hA, (h.b.cell (Nat.lt_of_lt_of_le (cell_lt hc) hB)).trans hc⟩
theorem Sep.old {B : Nat} {w0 w : World} {ts : List Kt} (h : Sep B w0 w ts) (hB : w0.heap.size ≤ B) {a : Addr} {v : Value} (c : w0.cell? a = some v) : w.cell? a = some v := (h.b.cell (Nat.lt_of_lt_of_le (cell_lt c) hB)).trans c

end Go.Proofs.Ytgadedpcekiljaa
