/- Append of one element, and where the new row lies; rows beside objects. -/
import Derived.Test.YtfbnobhecfgahaaObj
import Derived.Deep.AppendLies
set_option linter.unusedSimpArgs false
set_option linter.unusedVariables false
namespace Go.Proofs.Ytfbnobhecfgahaa
open Go.RowKit

/-- 'append(out, x)', x in a block of its own: where the new row lies -/
theorem appR1L {P : Program} {α : Type} {t e : TypeId} {enc : α → List Value} {sz bytes : Nat} (E : Elt P t e enc sz bytes) (w : World) {ops : Array Oper} {rest : List Oper} {o : Oper} {a : Act} {Q : Exit → Act → World → Prop} (hgd : o.guard = none) (s x : Operand)
    (ho : o.op = .call { callee := .builtin .append, args := #[s, x], argTypes := #[t, t] })
    (base : Nat) (v : Value) (L : List α) (hs : a.eval s = v) (hown : OwnR w base e enc sz v L) (g c : Nat) (y : α) (u : TypeId) (cs : Array Value)
    (hx : a.eval x = .slice (some ⟨g, 0, none⟩) 1 c) (hb : Blk w g u cs) (hcs : cs = (enc y).toArray) (hlen : L.length + 1 ≤ maxLen) (hbytes : (L.length + 1) * bytes ≤ 140737488355328) (hbase : base ≤ w.heap.size)
    (h : ∀ g' c' w', OwnR w' base e enc sz (.slice (some ⟨g', 0, none⟩) (L.length + 1) c') (L ++ [y]) → w.grownBy w' v.ownBlock → (v.ownBlock = some g' ∨ g' = w.heap.size) → g' < w'.heap.size → wpList P ops Q rest (a.put o.dst (.slice (some ⟨g', 0, none⟩) (L.length + 1) c')) w') : wpList P ops Q (o :: rest) a w := by
  subst hcs
  obtain ⟨z, hinfo, hzs⟩ := E.info
  obtain ⟨i, hi, hz, hsz, hby⟩ := info_parts hinfo
  refine wpList_append_lies (P := P) w hgd s x t ho base e i z sz bytes E.under hi hz hsz hby hzs E.pos v L.length (L.flatMap enc) hs hown ⟨g, 0, none⟩ 1 c (enc y) hx (by rw [E.len]; simp) ?_ (fun u hu => E.one y u hu) (by omega) hlen hbytes hbase _ rfl ?_
  · intro j u hj
    rw [show (⟨g, 0, none⟩ : Addr).add j = ⟨g, j, none⟩ from by cases j <;> simp [Addr.add], hb.cell]
    simpa using hj
  · intro g' c' w' h2 h3 h4 h5
    exact h g' c' w' (by unfold OwnR; rw [List.length_append, List.flatMap_append]; simpa using h2) h3 h4 h5

section
variable {w w' : World} {ks : List Kq} {O O1 O2 : Ob}
theorem ap_set {i : Nat} {k : Nat} {q q' : Kq} : ∀ {ks : List Kq} {i : Nat}, apAll k ks → q'.ap k → apAll k (ks.set i q')
  | [], _, _, _ => trivial
  | _ :: _, 0, h, hq => ⟨hq, h.2⟩
  | _ :: _, _ + 1, h, hq => ⟨h.1, ap_set (q := q) (i := i) h.2 hq⟩
theorem foot_row {v : Value} (h : w.grownBy w' v.ownBlock) : Foot (fun k => v.ownBlock = some k) w w' := ⟨h.os, h.tape, h.output, h.size, fun k hk hn => h.block k hk (fun e => hn e.symm)⟩
theorem Qs.appended {α : Type} {B : Nat} {e : TypeId} {enc : α → List Value} {sz : Nat} {v v' : Value} {L L' : List α} (h : Qs w ks) (i : Nat) (ee : ks[i]? = some (qV B e enc sz v L)) (hb : ∀ k, v.ownBlock = some k → apBut k i ks) (hown : OwnR w' B e enc sz v' L') (hgrow : w.grownBy w' v.ownBlock) : Qs w' (ks.set i (qV B e enc sz v' L')) := by
  intro k hk
  obtain ⟨m, hm⟩ := List.getElem?_of_mem hk
  by_cases hmi : m = i
  · subst hmi
    rw [List.getElem?_set_self (List.getElem?_eq_some_iff.1 ee).1] at hm
    injection hm with hm
    subst hm
    exact hown
  · rw [List.getElem?_set_ne (fun e => hmi e.symm)] at hm
    exact k.go w _ _ (h.get m hm) hgrow (fun y ey => but_mem (hb y ey) m k hmi hm)
theorem One.appended {α : Type} {B : Nat} {e : TypeId} {enc : α → List Value} {sz : Nat} {v : Value} {L L' : List α} (h : One w ks O) (i : Nat) {g' n' c' : Nat} (ee : ks[i]? = some (qV B e enc sz v L)) (hb : ∀ k, v.ownBlock = some k → apBut k i ks)
    (hown : OwnR w' B e enc sz (.slice (some ⟨g', 0, none⟩) n' c') L') (hgrow : w.grownBy w' v.ownBlock) (hat : v.ownBlock = some g' ∨ g' = w.heap.size) (hlt : g' < w'.heap.size) : One w' (ks.set i (qV B e enc sz (.slice (some ⟨g', 0, none⟩) n' c') L')) O := by
  obtain ⟨S, h1, h2⟩ := h.ex
  have hv : ∀ k, apAll k ks → v.ownBlock ≠ some k := fun k hk => hk.mem (qV B e enc sz v L) (List.mem_of_getElem? ee)
  refine ⟨⟨S, h1.foot (foot_row hgrow) (fun k hk e => hv k (h2 k hk) e), fun k hk => ap_set (q := qV B e enc sz v L) (i := i) (h2 k hk) ?_⟩, h.qs.appended i ee hb hown hgrow, fun k hk => ap_set (q := qV B e enc sz v L) (i := i) (h.new k (Nat.le_trans hgrow.size hk)) ?_⟩
  · intro e
    have e2 : g' = k := by simpa [Value.ownBlock] using e
    subst e2
    rcases hat with h5 | h5
    · exact hv g' (h2 g' hk) h5
    · have := h1.low g' hk; omega
  · intro e
    have e2 : g' = k := by simpa [Value.ownBlock] using e
    omega
/-- one more fact, on new memory -/
theorem One.push {k : Kq} (h : One w ks O) (b : Below w.heap.size w w') (hk : k.P w') (h1 : ∀ j, j < w.heap.size → k.ap j) (h2 : ∀ j, w'.heap.size ≤ j → k.ap j) : One w' (k :: ks) O := by
  obtain ⟨S, k1, k2⟩ := h.ex
  exact ⟨⟨S, k1.below b, fun j hj => ⟨h1 j (k1.low j hj), k2 j hj⟩⟩, (h.qs.go b).cons hk, fun j hj => ⟨h2 j hj, h.new j (Nat.le_trans b.size hj)⟩⟩
theorem One.pushRow {α : Type} {e : TypeId} {enc : α → List Value} {sz : Nat} {v : Value} {L : List α} (h : One w ks O) (b : Below w.heap.size w w') (hown : OwnR w' w.heap.size e enc sz v L) : One w' (qV w.heap.size e enc sz v L :: ks) O :=
  h.push b hown (fun j hj e => by have := (World.ownsRow.lt hown j e).1; omega) (fun j hj e => by have := (World.ownsRow.lt hown j e).2; omega)
theorem One.pushNil {α : Type} (B : Nat) (e : TypeId) (enc : α → List Value) (sz : Nat) (h : One w ks O) : One w (qV B e enc sz (.slice none 0 0) [] :: ks) O :=
  h.push (Below.refl _ _) (OwnR.nil _ _ _ _ _) (fun _ _ e => by cases e) (fun _ _ e => by cases e)
theorem One.drew (h : One w ks O) : One w.drew ks O := by
  obtain ⟨S, h1, h2⟩ := h.ex
  exact ⟨⟨S, ⟨h1.low, fun w' fw => h1.go w' ⟨fw.os, fw.tape, fw.output, fw.size, fw.block⟩⟩, h2⟩, h.qs.drew, h.new⟩
end

end Go.Proofs.Ytfbnobhecfgahaa
