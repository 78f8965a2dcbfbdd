/- Joined: SepA, TurnR, SepL. -/
import Derived.Test.YtiipmjdmmoaodaaDoorQ8
import Derived.Test.YtiipmjdmmoaodaaDoorQ9
import Derived.Sort.AssemblyPlain
import Derived.Deep.DeepCutAuto
set_option linter.unusedSimpArgs false
set_option linter.unusedVariables false
/- An append of one element to a row that is a thing beside others; numbers of 32 bits. -/
set_option linter.unusedSimpArgs false
set_option linter.unusedVariables false
namespace Go.Proofs.YtiipmjdmmoaodaaDoor
open Go.RowKit
theorem sep_app1 {α : Type} {P : Program} {t e : TypeId} {enc : α → List Value} {sz bytes : Nat} (E : Elt P t e enc sz bytes) {w : World} {ops : Array Oper} {rest : List Oper} {o : Oper} {a : Act} {Q : Exit → Act → World → Prop} (hgd : o.guard = none) (s x : Operand)
    (ho : o.op = .call { callee := .builtin .append, args := #[s, x], argTypes := #[t, t] })
    {B : Nat} {w0 : World} {ts : List Kt} (i : Nat) (v : Value) (L : List α) (hs : a.eval s = v) (h : Sep B w0 w ts) (hi : ts[i]? = some (thR e enc sz v L)) (g c : Nat) (y : α) (u : TypeId) (cs : Array Value)
    (hx : a.eval x = .slice (some ⟨g, 0, none⟩) 1 c) (hb : Blk w g u cs) (hcs : cs = (enc y).toArray) (hlen : L.length + 1 ≤ maxLen) (hbytes : (L.length + 1) * bytes ≤ 140737488355328)
    (hK : ∀ g' c' w', Sep B w0 w' (ts.set i (thR e enc sz (.slice (some ⟨g', 0, none⟩) (L.length + 1) c') (L ++ [y]))) → wpList P ops Q rest (a.put o.dst (.slice (some ⟨g', 0, none⟩) (L.length + 1) c')) w') : wpList P ops Q (o :: rest) a w := by
  refine wpList_plain hgd fun K hK' => ?_
  have h1 := step_appR1L (ops := ops) (Q := Q) (Ep := True) (K := K) E w hgd s x ho 0 v L hs (h.at_ i hi) g c y u cs hx hb hcs hlen hbytes (Nat.zero_le _) w.heap.size rfl (fun g' c' w' h1 h2 h3 h4 => hK' _ _ (hK g' c' w' (h.call (t' := thR e enc sz (.slice (some ⟨g', 0, none⟩) (L.length + 1) c') (L ++ [y])) i hi (Tou.of_grown h2 (fun j e => e)) h1 (fun j hj => by
    injection (show some g' = some j from hj) with hj
    subst hj
    rcases h3 with h3 | h3
    · exact .inl h3
    · exact .inr (by omega)))))
  rw [if_pos (by simp [Region.wanted, hgd])] at h1
  exact h1
end Go.Proofs.YtiipmjdmmoaodaaDoor

/- A store into one cell of a row of elements of several cells, the row a thing beside others. -/
set_option linter.unusedSimpArgs false
set_option linter.unusedVariables false
namespace Go.Proofs.YtiipmjdmmoaodaaDoor
open Go.RowKit

theorem flat_set1 {α : Type} (enc : α → List Value) (sz : Nat) (hlen : ∀ x, (enc x).length = sz) (l : List α) (i j : Nat) (x y : α) (u : Value) (hi : l[i]? = some x) (hj : j < sz) (hy : enc y = (enc x).set j u) : (l.flatMap enc).set (i * sz + j) u = (l.set i y).flatMap enc := by
  obtain ⟨hil, hix⟩ := List.getElem?_eq_some_iff.1 hi
  have h1 : l = l.take i ++ x :: l.drop (i + 1) := by rw [← hix]; simp
  have h2 : l.set i y = l.take i ++ y :: l.drop (i + 1) := List.set_eq_take_append_cons_drop .. |>.trans (by rw [if_pos hil])
  have h3 : ((l.take i).flatMap enc).length = i * sz := by rw [flat_length enc sz hlen, List.length_take, Nat.min_eq_left (Nat.le_of_lt hil)]
  rw [h2]
  conv => lhs; rw [h1]
  rw [List.flatMap_append, List.flatMap_cons, List.flatMap_append, List.flatMap_cons, List.set_append, if_neg (by omega), h3, List.set_append, if_pos (by rw [hlen]; omega), hy, show i * sz + j - i * sz = j by omega]
theorem OwnR.turn {α : Type} {P : Program} {t e : TypeId} {enc : α → List Value} {sz bytes : Nat} (E : Elt P t e enc sz bytes) {w : World} {base g n c : Nat} {l : List α} (h : OwnR w base e enc sz (.slice (some ⟨g, 0, none⟩) n c) l) (hn : n = l.length) (i j : Nat) (x y : α) (u : Value) (hi : l[i]? = some x) (hj : j < sz) (hy : enc y = (enc x).set j u) : OwnR (w.setCell ⟨g, i * sz + j, none⟩ u) base e enc sz (.slice (some ⟨g, 0, none⟩) n c) (l.set i y) := by
  subst hn
  have h1 := (World.ownsRow.stored h (i * sz + j) u).1
  unfold OwnR
  rw [List.length_set, ← flat_set1 enc sz E.len l i j x y u hi hj hy]
  exact h1

theorem Sep.turnR {α : Type} {P : Program} {t e : TypeId} {enc : α → List Value} {sz bytes : Nat} (E : Elt P t e enc sz bytes) {B : Nat} {w0 w : World} {ts : List Kt} (h : Sep B w0 w ts) (i : Nat) {g n c : Nat} {l : List α} (ei : ts[i]? = some (thR e enc sz (.slice (some ⟨g, 0, none⟩) n c) l)) (hn : n = l.length) (k j : Nat) (x y : α) (u : Value) (hk : l[k]? = some x) (hj : j < sz) (hy : enc y = (enc x).set j u) :
    Sep B w0 (w.setCell ⟨g, k * sz + j, none⟩ u) (ts.set i (thR e enc sz (.slice (some ⟨g, 0, none⟩) n c) (l.set k y))) :=
  h.call (t' := thR e enc sz (.slice (some ⟨g, 0, none⟩) n c) (l.set k y)) i ei (Tou.set g _ u rfl) (OwnR.turn E (h.at_ i ei) hn k j x y u hk hj hy) (fun m hm => .inl hm)
/-- a row's elements lie in one block -/
theorem row_at {α : Type} {P : Program} {w : World} {t e : TypeId} {enc : α → List Value} {sz bytes : Nat} (E : Elt P t e enc sz bytes) {A : Option Addr} {n c : Nat} {l : List α} (h : OwnR w 0 e enc sz (.slice A n c) l) {k : Nat} {x : α} (hk : l[k]? = some x) : ∃ g, A = some ⟨g, 0, none⟩ ∧ n = l.length ∧ ∀ j v, (enc x)[j]? = some v → w.cell? ⟨g, k * sz + j, none⟩ = some v := by
  obtain ⟨A', c', hv, -, hr⟩ := OwnR.row E h
  injection hv with e1 e2 e3
  rcases h.2 with ⟨h1, h2⟩ | ⟨g, cap, cur, h1, _⟩
  · rw [List.eq_nil_of_length_eq_zero h2] at hk
    cases hk
  · injection h1 with f1 f2 f3
    obtain ⟨p, o, h3, h4⟩ := hr k x hk
    rw [← e1, f1] at h3
    injection h3 with h3
    injection h3 with h3 h5
    subst h3
    subst h5
    exact ⟨g, f1, e2, fun j v hj => by have := h4 j v hj; rw [Nat.zero_add] at this; exact this⟩
theorem row_froz {α : Type} {w : World} {e : TypeId} {enc : α → List Value} {sz : Nat} {g n c : Nat} {l : List α} (h : OwnR w 0 e enc sz (.slice (some ⟨g, 0, none⟩) n c) l) (i : Nat) : w.frozen? ⟨g, i, none⟩ = false := by
  rcases h.2 with ⟨h', _⟩ | ⟨g', cap', cur, h', hb, hg, _⟩
  · cases h'
  · injection h' with e1 e2 e3
    injection e1 with e1
    injection e1 with e1
    subst e1
    unfold World.frozen?
    rw [hg]
    rfl
end Go.Proofs.YtiipmjdmmoaodaaDoor

/- Things apart from each other: several new ones at once, a choice of those at the head; an append to one of them in a region that draws its order. -/
set_option linter.unusedSimpArgs false
set_option linter.unusedVariables false
namespace Go.Proofs.YtiipmjdmmoaodaaDoor
open Go.RowKit

section
variable {B : Nat} {w0 w w' : World} {us ts hs rest : List Kt}
theorem Sep.consL (h : Sep B w0 w ts) (b : Below w.heap.size w w') (hu : ∀ t ∈ us, t.P w' ∧ ∀ k, t.F k → w.heap.size ≤ k) (ha : us.Pairwise fun (a b : Kt) => ∀ k : Nat, a.F k → ¬ b.F k) : Sep B w0 w' (us ++ ts) := by
  have h1 := h.go b
  refine ⟨h1.b, h1.sz, fun t ht => ?_, List.pairwise_append.2 ⟨ha, h1.ap, fun a ha' c hc k hk hk2 => ?_⟩⟩
  · rcases List.mem_append.1 ht with ht | ht
    · exact ⟨(hu t ht).1, fun k hk => Nat.le_trans h.sz ((hu t ht).2 k hk)⟩
    · exact h1.all t ht
  · have h2 := c.lt (h.all c hc).1 k hk2
    have h3 := (hu a ha').2 k hk
    omega
theorem Sep.own2 (h : Sep B w0 w ts) (b : Below w.heap.size w w') {v : Value} {l : List UInt8} {base : Nat} (k9 : OwnB w' base v l) (n9 : w.heap.size ≤ base) {g1 g2 : Nat} {t1 t2 : TypeId} {c1 c2 : Array Value} (k1 : Blk w' g1 t1 c1) (k2 : Blk w' g2 t2 c2) (n1 : w.heap.size ≤ g1) (n2 : w.heap.size ≤ g2) (hne : g1 ≠ g2) (h1 : v.ownBlock ≠ some g1) (h2 : v.ownBlock ≠ some g2) : Sep B w0 w' (thO v l :: thB g1 t1 c1 :: thB g2 t2 c2 :: ts) := by
  refine h.consL (us := [thO v l, thB g1 t1 c1, thB g2 t2 c2]) b (fun t ht => ?_) ?_
  · simp only [List.mem_cons, List.not_mem_nil, or_false] at ht
    rcases ht with rfl | rfl | rfl
    · exact ⟨k9.mono (Nat.zero_le _), fun k hk => Nat.le_trans n9 (World.ownsRow.lt k9 k hk).1⟩
    · exact ⟨k1, fun k hk => (by have : k = g1 := hk; omega)⟩
    · exact ⟨k2, fun k hk => (by have : k = g2 := hk; omega)⟩
  · simp only [List.pairwise_cons, List.mem_cons, List.not_mem_nil, or_false]
    refine ⟨fun t ht k hk hk2 => ?_, fun t ht k hk hk2 => ?_, fun t ht => ht.elim, .nil⟩
    · rcases ht with rfl | rfl
      · have e : k = g1 := hk2
        subst e
        exact h1 hk
      · have e : k = g2 := hk2
        subst e
        exact h2 hk
    · subst ht
      have e1 : k = g1 := hk
      have e2 : k = g2 := hk2
      exact hne (e1.symm.trans e2)
theorem Sep.sel (h : Sep B w0 w (hs ++ rest)) (js : List Nat) (hn : js.Nodup) : Sep B w0 w (js.filterMap (fun j => hs[j]?) ++ rest) := by
  have h1 := List.pairwise_append.1 h.ap
  have hm : ∀ t, t ∈ js.filterMap (fun j => hs[j]?) → t ∈ hs := fun t ht => by
    obtain ⟨j, _, hj⟩ := List.mem_filterMap.1 ht
    exact List.mem_of_getElem? hj
  refine ⟨h.b, h.sz, fun t ht => h.all t ?_, List.pairwise_append.2 ⟨?_, h1.2.1, fun a ha b hb => h1.2.2 a (hm a ha) b hb⟩⟩
  · rcases List.mem_append.1 ht with ht | ht
    · exact List.mem_append.2 (.inl (hm t ht))
    · exact List.mem_append.2 (.inr ht)
  · rw [List.pairwise_filterMap]
    refine hn.imp fun {i j} hij b hb c hc => ?_
    obtain ⟨hi1, hi2⟩ := List.getElem?_eq_some_iff.1 hb
    obtain ⟨hj1, hj2⟩ := List.getElem?_eq_some_iff.1 hc
    have hap := List.pairwise_iff_getElem.1 h1.1
    rcases Nat.lt_or_gt_of_ne hij with h3 | h3
    · have := hap i j hi1 hj1 h3
      rw [hi2, hj2] at this
      exact this
    · have := hap j i hj1 hi1 h3
      rw [hi2, hj2] at this
      exact fun k h4 h5 => this k h5 h4
/-- an append of one element to thing i, in a region that draws its order -/
theorem step_appSep {α : Type} {P : Program} {t e : TypeId} {enc : α → List Value} {sz bytes : Nat} (E : Elt P t e enc sz bytes) {ops : Array Oper} {o : Oper} {a : Act} {K : Act → World → Prop} {Q : Exit → Act → World → Prop} {Ep : Prop} (hgd : o.guard = none) (s x : Operand)
    (ho : o.op = .call { callee := .builtin .append, args := #[s, x], argTypes := #[t, t] })
    (i : Nat) (v : Value) (L : List α) (hs : a.eval s = v) (h : Sep B w0 w ts) (hi : ts[i]? = some (thR e enc sz v L)) (g c : Nat) (y : α) (u : TypeId) (cs : Array Value)
    (hx : a.eval x = .slice (some ⟨g, 0, none⟩) 1 c) (hb : Blk w g u cs) (hcs : cs = (enc y).toArray) (hlen : L.length + 1 ≤ maxLen) (hbytes : (L.length + 1) * bytes ≤ 140737488355328)
    (hK : ∀ g' c' w', Sep B w0 w' (ts.set i (thR e enc sz (.slice (some ⟨g', 0, none⟩) (L.length + 1) c') (L ++ [y]))) → w.heap.size ≤ w'.heap.size → K (a.put o.dst (.slice (some ⟨g', 0, none⟩) (L.length + 1) c')) w') :
    if Region.wanted o (yielded ops a.tmps) = true then Oper.wp P o a w K Q else Ep :=
  step_appR1L (ops := ops) (Q := Q) (Ep := Ep) (K := K) E w hgd s x ho 0 v L hs (h.at_ i hi) g c y u cs hx hb hcs hlen hbytes (Nat.zero_le _) w.heap.size rfl (fun g' c' w' h1 h2 h3 h4 => hK _ _ _ (h.call (t' := thR e enc sz (.slice (some ⟨g', 0, none⟩) (L.length + 1) c') (L ++ [y])) i hi (Tou.of_grown h2 (fun j e => e)) h1 (fun j hj => by
    injection (show some g' = some j from hj) with hj
    subst hj
    rcases h3 with h3 | h3
    · exact .inl h3
    · exact .inr (by omega))) h2.size)
end
theorem Kt.ext' (t u : Kt) (hP : t.P = u.P) (hF : t.F = u.F) : t = u := by
  cases t
  cases u
  cases hP
  cases hF
  rfl
end Go.Proofs.YtiipmjdmmoaodaaDoor
