/-
  Rows of elements of several cells each: as a slice reads them, and as the call's own; append of one and of many.
-/
import Derived.Test.YtgadedpcekiljaaUp
set_option linter.unusedSimpArgs false
set_option linter.unusedVariables false
namespace Go.Proofs.Ytgadedpcekiljaa
open Go.RowKit

section
variable {α : Type}

/-- the cells from V on hold the elements, sz cells each -/
def Rw (w : World) (enc : α → List Value) (sz : Nat) (V : Option Addr) (l : List α) : Prop :=
  ∀ i x, l[i]? = some x → ∃ p o, V = some ⟨p, o, none⟩ ∧ ∀ j v, (enc x)[j]? = some v → w.cell? ⟨p, o + i * sz + j, none⟩ = some v
theorem Rw.below {w w' : World} {enc : α → List Value} {sz B : Nat} {V : Option Addr} {l : List α} (h : Rw w enc sz V l) (hb : Below B w w') (hB : w.heap.size ≤ B) : Rw w' enc sz V l := fun i x hi => by
  obtain ⟨p, o, hV, hc⟩ := h i x hi
  exact ⟨p, o, hV, fun j v hj => (hb.cell (Nat.lt_of_lt_of_le (cell_lt (hc j v hj)) hB)).trans (hc j v hj)⟩
theorem Rw.nil (w : World) (enc : α → List Value) (sz : Nat) (V : Option Addr) : Rw w enc sz V [] := fun i x h => by simp at h
theorem Rw.none {w : World} {enc : α → List Value} {sz : Nat} {l : List α} (h : Rw w enc sz none l) : l = [] := by
  cases l with
  | nil => rfl
  | cons x l => obtain ⟨p, o, hV, _⟩ := h 0 x rfl; cases hV

/-- a slice's type whose elements have sz cells -/
structure Elt (P : Program) (t e : TypeId) (enc : α → List Value) (sz bytes : Nat) : Prop where
  under : P.underlying t = some (.slice e)
  info : ∃ z, (P.info? e).map (fun i => (i.zero, i.size, i.bytes)) = some (some z, sz, bytes) ∧ z.cells.size = sz
  pos : 0 < sz
  len : ∀ x, (enc x).length = sz
  one : ∀ x, ∀ v ∈ enc x, v.oneCell' = true

theorem flat_get (enc : α → List Value) (sz : Nat) (hlen : ∀ x, (enc x).length = sz) : ∀ (l : List α) (i : Nat) (x : α), l[i]? = some x → ∀ j, j < sz → (l.flatMap enc)[i * sz + j]? = (enc x)[j]?
  | [], i, x, h, j, hj => by simp at h
  | y :: l, 0, x, h, j, hj => by
    simp at h
    subst h
    rw [List.flatMap_cons, Nat.zero_mul, Nat.zero_add, List.getElem?_append_left (by rw [hlen]; exact hj)]
  | y :: l, i + 1, x, h, j, hj => by
    have e : (i + 1) * sz + j = sz + (i * sz + j) := by rw [Nat.succ_mul]; omega
    rw [List.flatMap_cons, e, List.getElem?_append_right (by rw [hlen]; omega), hlen, Nat.add_sub_cancel_left]
    exact flat_get enc sz hlen l i x (by simpa using h) j hj
theorem flat_length (enc : α → List Value) (sz : Nat) (hlen : ∀ x, (enc x).length = sz) : ∀ (l : List α), (l.flatMap enc).length = l.length * sz
  | [] => by simp
  | y :: l => by rw [List.flatMap_cons, List.length_append, hlen, flat_length enc sz hlen l, List.length_cons, Nat.succ_mul]; omega
theorem flat_at (enc : α → List Value) (sz : Nat) (hsz : 0 < sz) (hlen : ∀ x, (enc x).length = sz) (l : List α) (k : Nat) (u : Value) (h : (l.flatMap enc)[k]? = some u) : ∃ x, l[k / sz]? = some x ∧ (enc x)[k % sz]? = some u := by
  have hk : k < (l.flatMap enc).length := by
    rcases Nat.lt_or_ge k (l.flatMap enc).length with h1 | h1
    · exact h1
    · rw [List.getElem?_eq_none h1] at h; cases h
  rw [flat_length enc sz hlen] at hk
  have hi : k / sz < l.length := (Nat.div_lt_iff_lt_mul hsz).2 hk
  refine ⟨l[k / sz], List.getElem?_eq_getElem hi, ?_⟩
  rw [← flat_get enc sz hlen l (k / sz) _ (List.getElem?_eq_getElem hi) (k % sz) (Nat.mod_lt _ hsz), Nat.mul_comm, Nat.div_add_mod]
  exact h

/-- elements of the call's own -/
def OwnR (w : World) (base : Nat) (e : TypeId) (enc : α → List Value) (sz : Nat) (v : Value) (l : List α) : Prop := w.ownsRow base e sz v l.length (l.flatMap enc)
section
variable {w w' : World} {base : Nat} {e : TypeId} {enc : α → List Value} {sz : Nat} {v : Value} {l : List α}
theorem OwnR.below (h : OwnR w base e enc sz v l) (hb : Below w.heap.size w w') : OwnR w' base e enc sz v l := own_below h hb
theorem OwnR.mono {base' : Nat} (h : OwnR w base e enc sz v l) (hb : base' ≤ base) : OwnR w base' e enc sz v l := own_mono h hb
theorem OwnR.nil (w : World) (base : Nat) (e : TypeId) (enc : α → List Value) (sz : Nat) : OwnR w base e enc sz (.slice none 0 0) [] := World.ownsRow_nil _ _ _ _
theorem OwnR.alloc (h : OwnR w base e enc sz v l) (o : Obj) : OwnR (w.alloc o) base e enc sz v l := World.ownsRow.alloc h o
theorem OwnR.drew (h : OwnR w base e enc sz v l) : OwnR w.drew base e enc sz v l := h
theorem OwnR.far (h : OwnR w base e enc sz v l) {p : Addr} (hp : v.ownBlock ≠ some p.block) (u : Value) : OwnR (w.setCell p u) base e enc sz v l :=
  World.ownsRow.kept (row := some p.block) h ⟨rfl, rfl, rfl, by simp [World.setCell], fun k _ hk => Below.heap_setCell w p u k (fun e => hk (by rw [e]))⟩ (.inr hp)
theorem OwnR.ne (h : OwnR w base e enc sz v l) {k : Nat} (hk : k < base) : v.ownBlock ≠ some k := by
  intro e
  have := (World.ownsRow.lt h k e).1
  omega
theorem OwnR.row {P : Program} {t : TypeId} {bytes : Nat} (E : Elt P t e enc sz bytes) (h : OwnR w base e enc sz v l) : ∃ A c, v = .slice A l.length c ∧ l.length ≤ c ∧ Rw w enc sz A l := by
  rcases h.2 with ⟨rfl, h0⟩ | ⟨g, cap, cur, rfl, hbg, hgg, hn, hm, hs, ht⟩
  · have : l = [] := List.eq_nil_of_length_eq_zero h0
    subst this
    exact ⟨none, 0, rfl, Nat.le_refl _, Rw.nil _ _ _ _⟩
  · refine ⟨some ⟨g, 0, none⟩, cap, rfl, hn, fun i x hi => ⟨g, 0, rfl, fun j v hj => ?_⟩⟩
    have hjs : j < sz := by
      rcases Nat.lt_or_ge j (enc x).length with h1 | h1
      · rw [E.len] at h1; exact h1
      · rw [List.getElem?_eq_none h1] at hj; cases hj
    rw [Nat.zero_add, cell_of_row w g (i * sz + j) cur _ (0, 0) hgg]
    have h2 : (cur.toList.take (l.length * sz))[i * sz + j]? = some v := by rw [ht, flat_get enc sz E.len l i x hi j hjs, hj]
    rw [List.getElem?_take] at h2
    split at h2
    · simpa using h2
    · cases h2
end

theorem run_app_nilR {P : Program} (w : World) (base : Nat) (t ty e : TypeId) (i : TypeInfo) (size : Nat) (ht : P.underlying t = some (.slice e)) (hi : P.info? e = some i)
    (v : Value) (n : Nat) (xs : List Value) (hown : w.ownsRow base e size v n xs) (c : Nat) : (Builtin.append_ #[t, t] ty #[v, .slice none 0 c]).run P w = .ok v w := by
  rcases hown.2 with ⟨rfl, rfl⟩ | ⟨g, cap, cur, rfl, _, _, hnc, _⟩
  · simp [Builtin.append_, run_underlying ht, sizeOf, typeInfo, hi, Builtin.lenOf, Builtin.firstCells]
  · simp [Builtin.append_, run_underlying ht, sizeOf, typeInfo, hi, Builtin.lenOf, Builtin.firstCells, hnc, storeCells]

/-- 'append(out, x...)' -/
theorem appR {P : Program} {t e : TypeId} {enc : α → List Value} {sz bytes : Nat} (E : Elt P t e enc sz bytes) (w : World) {ops : Array Oper} {rest : List Oper} {o : Oper} {a : Act} {Q : Exit → Act → World → Prop} (hgd : o.guard = none) (s x : Operand)
    (ho : o.op = .call { callee := .builtin .append, args := #[s, x], argTypes := #[t, t] })
    (base : Nat) (v : Value) (L : List α) (hs : a.eval s = v) (hown : OwnR w base e enc sz v L) (A : Option Addr) (c : Nat) (l : List α)
    (hx : a.eval x = .slice A l.length c) (hb : Rw w enc sz A l) (hlen : L.length + l.length ≤ maxLen) (hbytes : (L.length + l.length) * bytes ≤ 140737488355328) (hbase : base ≤ w.heap.size)
    (h : ∀ A' c' w', OwnR w' base e enc sz (.slice A' (L.length + l.length) c') (L ++ l) → Below base w w' → wpList P ops Q rest (a.put o.dst (.slice A' (L.length + l.length) c')) w') : wpList P ops Q (o :: rest) a w := by
  obtain ⟨z, hinfo, hzs⟩ := E.info
  obtain ⟨i, hi, hz, hsz, hby⟩ := info_parts hinfo
  rcases A with _ | ad
  · have h0 := hb.none
    subst h0
    obtain ⟨A', c', rfl, _⟩ := hown.row E
    refine wpList_plain hgd fun K hK => ?_
    have hrun := run_app_nilR (P := P) w base t o.type e i sz E.under hi _ _ _ hown c
    unfold Oper.wp
    simp [execOp, ho, resolve, invoke, builtin, hs, hx, hrun, Result.andThen]
    exact hK _ _ (h A' c' w (by simpa using hown) (Below.refl _ _))
  · refine wpList_append_own (P := P) w hgd s x t ho base e i z sz bytes E.under hi hz hsz hby hzs E.pos v L.length (L.flatMap enc) hs hown ad l.length c (l.flatMap enc) hx (flat_length enc sz E.len l) ?_ ?_ hlen hbytes hbase fun v' w' h2 h3 _ => ?_
    · intro j u hj
      obtain ⟨y, hy, hu⟩ := flat_at enc sz E.pos E.len l j u hj
      obtain ⟨p, o, hA, hc⟩ := hb _ y hy
      injection hA with e
      subst e
      have h1 := hc _ u hu
      rw [Nat.add_assoc, Nat.mul_comm, Nat.div_add_mod] at h1
      unfold Addr.add
      split
      · rename_i h0; subst h0; simpa using h1
      · exact h1
    · intro u hu
      obtain ⟨y, _, hy⟩ := List.mem_flatMap.1 hu
      exact E.one y u hy
    · have h4 : OwnR w' base e enc sz v' (L ++ l) := by unfold OwnR; rw [List.length_append, List.flatMap_append]; exact h2
      obtain ⟨A', c', hv, _⟩ := h4.row E
      rw [List.length_append] at hv
      subst hv
      exact h A' c' w' h4 (own_grown hown h3 hbase)

/-- 'append(out, x)', x in a block of its own -/
theorem appR1 {P : Program} {t e : TypeId} {enc : α → List Value} {sz bytes : Nat} (E : Elt P t e enc sz bytes) (w : World) {ops : Array Oper} {rest : List Oper} {o : Oper} {a : Act} {Q : Exit → Act → World → Prop} (hgd : o.guard = none) (s x : Operand)
    (ho : o.op = .call { callee := .builtin .append, args := #[s, x], argTypes := #[t, t] })
    (base : Nat) (v : Value) (L : List α) (hs : a.eval s = v) (hown : OwnR w base e enc sz v L) (g c : Nat) (y : α) (u : TypeId) (cs : Array Value)
    (hx : a.eval x = .slice (some ⟨g, 0, none⟩) 1 c) (hb : Blk w g u cs) (hcs : cs = (enc y).toArray) (hlen : L.length + 1 ≤ maxLen) (hbytes : (L.length + 1) * bytes ≤ 140737488355328) (hbase : base ≤ w.heap.size)
    (h : ∀ g' c' w', OwnR w' base e enc sz (.slice (some ⟨g', 0, none⟩) (L.length + 1) c') (L ++ [y]) → Below base w w' → base ≤ g' → wpList P ops Q rest (a.put o.dst (.slice (some ⟨g', 0, none⟩) (L.length + 1) c')) w') : wpList P ops Q (o :: rest) a w := by
  subst hcs
  refine appR E w hgd s x ho base v L hs hown (some ⟨g, 0, none⟩) c [y] hx ?_ hlen hbytes hbase fun A' c' w' h1 h2 => ?_
  · intro i z hi
    cases i with
    | succ i => simp at hi
    | zero =>
      simp at hi
      subst hi
      refine ⟨g, 0, rfl, fun j v hj => ?_⟩
      rw [Nat.zero_mul, Nat.add_zero, Nat.zero_add, hb.cell]
      simpa using hj
  · have h3 := h1
    rcases h3.2 with ⟨_, h0⟩ | ⟨g', cap, cur, hv, hg, _⟩
    · simp at h0
    · injection hv with e1 e2 e3
      subst e1
      exact h g' c' w' h1 h2 hg
end

end Go.Proofs.Ytgadedpcekiljaa
