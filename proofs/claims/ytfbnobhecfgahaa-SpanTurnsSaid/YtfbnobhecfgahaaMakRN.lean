/- 'make([]T, n)' of elements of several cells; one element stored; bits as elements. -/
import Derived.Test.YtfbnobhecfgahaaKqN
set_option linter.unusedSimpArgs false
set_option linter.unusedVariables false
namespace Go.Proofs.Ytfbnobhecfgahaa
open Go.RowKit

theorem made_flat {α : Type} (enc : α → List Value) (sz : Nat) (z : Array Value) (z0 : α) (hz : z.toList = enc z0) (hs : z.size = sz) (hsz : 0 < sz) (n : Nat) : (madeCells z (n * sz)).toList = (List.replicate n z0).flatMap enc := by
  have hl : ∀ x : α, x = z0 → (enc x).length = sz := fun x e => by rw [e, ← hz, Array.length_toList, hs]
  have hgen : ∀ n : Nat, ((List.replicate n z0).flatMap enc).length = n * sz := by
    intro n
    induction n with
    | zero => simp
    | succ n ih => rw [List.replicate_succ, List.flatMap_cons, List.length_append, ih, hl z0 rfl, Nat.succ_mul]; omega
  apply List.ext_getElem?
  intro i
  by_cases hi : i < n * sz
  · have h1 : (madeCells z (n * sz)).toList[i]? = some (z[i % z.size]!) := by
      rw [Array.getElem?_toList]
      simp [madeCells, hi]
    rw [h1]
    have hget : ∀ (m : Nat) (k : Nat), k < m * sz → ((List.replicate m z0).flatMap enc)[k]? = (enc z0)[k % sz]? := by
      intro m
      induction m with
      | zero => intro k hk; omega
      | succ m ih =>
        intro k hk
        rw [List.replicate_succ, List.flatMap_cons]
        by_cases hks : k < sz
        · rw [List.getElem?_append_left (by rw [hl z0 rfl]; exact hks), Nat.mod_eq_of_lt hks]
        · rw [List.getElem?_append_right (by rw [hl z0 rfl]; omega), hl z0 rfl, ih (k - sz) (by rw [Nat.succ_mul] at hk; omega)]
          congr 1
          rw [← Nat.mod_eq_sub_mod (by omega)]
    rw [hget n i hi, ← hz, hs, Array.getElem?_toList]
    have hm : i % sz < z.size := by rw [hs]; exact Nat.mod_lt _ hsz
    rw [Array.getElem?_eq_getElem hm, getElem!_pos z (i % sz) hm]
  · rw [List.getElem?_eq_none (by rw [Array.length_toList, size_madeCells]; omega), List.getElem?_eq_none (by rw [hgen]; omega)]

/-- 'make([]T, n)' -/
theorem mkR {P : Program} {α : Type} {t e : TypeId} {enc : α → List Value} {sz bytes : Nat} (E : Elt P t e enc sz bytes) (z : Value) (z0 : α) (hinfo : (P.info? e).map (fun i => (i.zero, i.size, i.bytes)) = some (some z, sz, bytes)) (hz : z.cells.toList = enc z0)
    (w : World) {ops : Array Oper} {rest : List Oper} {o : Oper} {a : Act} {Q : Exit → Act → World → Prop} (hgd : o.guard = none) (lo co : Operand)
    (ho : o.op = Op.makeSlice t lo co) (base n : Nat) (hl : a.eval lo = .int .i64 n) (hc : a.eval co = .int .i64 n) (hn : n ≤ maxLen) (hby2 : n * bytes ≤ 140737488355328) (hbase : base ≤ w.heap.size)
    (h : ∀ w', OwnR w' base e enc sz (.slice (some ⟨w.heap.size, 0, none⟩) n n) (List.replicate n z0) → Below w.heap.size w w' → wpList P ops Q rest (a.put o.dst (.slice (some ⟨w.heap.size, 0, none⟩) n n)) w') : wpList P ops Q (o :: rest) a w := by
  obtain ⟨i, hi, hzz, hsz, hby⟩ := info_parts hinfo
  have hcs : z.cells.size = sz := by have := E.len z0; rw [← hz, Array.length_toList] at this; exact this
  refine wpList_make_full w hgd lo co t ho base e i z sz E.under hi hzz hsz .i64 .i64 n n n hl hc rfl rfl (by rw [hby, Nat.mul_comm]; omega) hn hbase fun w' h1 h2 => h w' ?_ ?_
  · unfold OwnR
    rw [List.length_replicate, ← made_flat enc sz z.cells z0 hz hcs E.pos n]
    exact h1
  · exact (Below.refl _ _).grown h2 (Nat.le_refl _) (fun k hk => by cases hk)

theorem flat_set {α : Type} (enc : α → List Value) (sz : Nat) (hlen : ∀ x, (enc x).length = sz) (x : α) : ∀ (l : List α) (i : Nat), i < l.length → ∀ j, j ≤ sz → (l.flatMap enc).take (i * sz) ++ (enc x).take j ++ (l.flatMap enc).drop (i * sz + j) = ((enc x).take j).zipIdx.foldl (fun c p => c.set (i * sz + p.2) p.1) (l.flatMap enc) := by
  intro l i hi j
  induction j with
  | zero => intro _; simp
  | succ j ih =>
    intro hj
    have hjl : j < (enc x).length := by rw [hlen]; omega
    rw [List.take_succ_eq_append_getElem hjl, List.zipIdx_append, List.foldl_append, ← ih (by omega)]
    have hL := flat_length enc sz hlen l
    have hb : i * sz + j < (l.flatMap enc).length := by
      rw [hL]
      have : (i + 1) * sz ≤ l.length * sz := Nat.mul_le_mul_right _ hi
      rw [Nat.succ_mul] at this
      omega
    have h1 : ((l.flatMap enc).take (i * sz) ++ (enc x).take j).length = i * sz + j := by
      rw [List.length_append, List.length_take, List.length_take]
      omega
    simp only [List.zipIdx_cons, List.zipIdx_nil, List.foldl_cons, List.foldl_nil, List.length_take, Nat.min_eq_left (Nat.le_of_lt hjl), Nat.zero_add]
    rw [List.set_append_right _ _ (by omega), h1, List.drop_eq_getElem_cons hb]
    simp only [Nat.sub_self, List.set_cons_zero, List.append_assoc, List.singleton_append]
    rfl

theorem flatMap_set {α : Type} (enc : α → List Value) (sz : Nat) (hlen : ∀ x, (enc x).length = sz) (l : List α) (i : Nat) (x : α) (hi : i < l.length) : (l.set i x).flatMap enc = (l.flatMap enc).take (i * sz) ++ enc x ++ (l.flatMap enc).drop (i * sz + sz) := by
  induction l generalizing i with
  | nil => simp at hi
  | cons y l ih =>
    cases i with
    | zero =>
      simp only [List.set_cons_zero, List.flatMap_cons, Nat.zero_mul, List.take_zero, List.nil_append, Nat.zero_add]
      rw [← hlen y, List.drop_left]
    | succ i =>
      have e : (i + 1) * sz = sz + i * sz := by rw [Nat.succ_mul]; omega
      simp only [List.set_cons_succ, List.flatMap_cons]
      rw [ih i (by simpa using hi), e]
      have h1 : ((enc y) ++ l.flatMap enc).take (sz + i * sz) = enc y ++ (l.flatMap enc).take (i * sz) := by
        rw [← hlen y, List.take_length_add_append]
      have h2 : ((enc y) ++ l.flatMap enc).drop (sz + i * sz + sz) = (l.flatMap enc).drop (i * sz + sz) := by
        rw [Nat.add_assoc, ← hlen y, List.drop_length_add_append]
      rw [h1, h2]
      simp only [List.append_assoc]

/-- element i stored, cell by cell -/
def setsAt (w : World) (g : Nat) (base : Nat) : List (Value × Nat) → World
  | [] => w
  | p :: l => setsAt (w.setCell ⟨g, base + p.2, none⟩ p.1) g base l
theorem OwnR.stored {w : World} {α : Type} {P : Program} {t e : TypeId} {enc : α → List Value} {sz bytes : Nat} (E : Elt P t e enc sz bytes) {base g n cap : Nat} {l : List α} (h : OwnR w base e enc sz (.slice (some ⟨g, 0, none⟩) n cap) l) (hn : n = l.length) (i : Nat) (x : α) (hi : i < l.length) :
    OwnR (setsAt w g (i * sz) (enc x).zipIdx) base e enc sz (.slice (some ⟨g, 0, none⟩) n cap) (l.set i x) := by
  subst hn
  have key : ∀ (ps : List (Value × Nat)) (w : World) (xs : List Value), w.ownsRow base e sz (.slice (some ⟨g, 0, none⟩) l.length cap) l.length xs → (setsAt w g (i * sz) ps).ownsRow base e sz (.slice (some ⟨g, 0, none⟩) l.length cap) l.length (ps.foldl (fun c p => c.set (i * sz + p.2) p.1) xs) := by
    intro ps
    induction ps with
    | nil => intro w xs h; exact h
    | cons p ps ih => intro w xs h; exact ih _ _ (World.ownsRow.stored h (i * sz + p.2) p.1).1
  have h2 := key (enc x).zipIdx w _ h
  have e1 := flat_set enc sz E.len x l i hi sz (Nat.le_refl _)
  rw [show (enc x).take sz = enc x from List.take_of_length_le (by rw [E.len]; exact Nat.le_refl _)] at e1
  rw [← e1, ← flatMap_set enc sz E.len l i x hi] at h2
  unfold OwnR
  rw [List.length_set]
  exact h2
theorem grown_setsAt (g base : Nat) : ∀ (l : List (Value × Nat)) (w : World), w.grownBy (setsAt w g base l) (some g)
  | [], w => World.grownBy.refl _ _
  | p :: l, w => grown_trans (grown_set w g (base + p.2) p.1) (grown_setsAt g base l _)

/-- a store into element j of row i -/
theorem Qs.putRow {w W : World} {ks : List Kq} {α : Type} {P : Program} {t e : TypeId} {enc : α → List Value} {sz bytes : Nat} (E : Elt P t e enc sz bytes) (h : Qs w ks) (i g j : Nat) (x : α) {base hi cap n : Nat} {l : List α} (hn : n = l.length) (hj : j < l.length)
    (hW : setsAt w g (j * sz) (enc x).zipIdx = W) (ha : apBut g i ks) (ee : ks[i]? = some (qR base hi e enc sz (.slice (some ⟨g, 0, none⟩) n cap) l) := by rfl) : Qs W (ks.set i (qR base hi e enc sz (.slice (some ⟨g, 0, none⟩) n cap) (l.set j x))) := by
  subst hW
  intro k hk
  obtain ⟨m, hm⟩ := List.getElem?_of_mem hk
  have hrow := h.get i ee
  by_cases hmi : m = i
  · subst hmi
    rw [List.getElem?_set_self (List.getElem?_eq_some_iff.1 ee).1] at hm
    injection hm with hm
    subst hm
    exact ⟨OwnR.stored E hrow.1 hn j x hj, hrow.2.1, Nat.le_trans hrow.2.2 (grown_setsAt g _ _ w).size⟩
  · rw [List.getElem?_set_ne (fun e => hmi e.symm)] at hm
    exact k.go w _ _ (h.get m hm) (grown_setsAt g _ _ w) (fun y ey => by injection ey with ey; subst ey; exact but_mem ha m k hmi hm)

/-- an element's cells, as they may be stored into -/
theorem OwnR.cells {w : World} {α : Type} {P : Program} {t e : TypeId} {enc : α → List Value} {sz bytes : Nat} (E : Elt P t e enc sz bytes) {base g n cap : Nat} {l : List α} (h : OwnR w base e enc sz (.slice (some ⟨g, 0, none⟩) n cap) l) (hn : n = l.length) (i j : Nat) (hi : i < l.length) (hj : j < sz) :
    (∃ v, w.cell? ⟨g, i * sz + j, none⟩ = some v) ∧ w.frozen? ⟨g, i * sz + j, none⟩ = false := by
  subst hn
  refine ⟨?_, World.ownsRow.frozenAt h _⟩
  obtain ⟨A, c, hv, -, hr⟩ := OwnR.row E h
  injection hv with e1 _ _
  obtain ⟨p, o, hA, hc⟩ := hr i l[i] (List.getElem?_eq_getElem hi)
  rw [← e1] at hA
  injection hA with e2
  injection e2 with e2 e3 _
  subst e2; subst e3
  have hjl : j < (enc l[i]).length := by rw [E.len]; exact hj
  exact ⟨_, by have := hc j _ (List.getElem?_eq_getElem hjl); rwa [Nat.zero_add] at this⟩

end Go.Proofs.Ytfbnobhecfgahaa
