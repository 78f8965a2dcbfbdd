/- 'Only these blocks may turn' as a kept fact; an append of one element at a step. -/
import Derived.Test.YtgadedpcekiljaaTou
set_option linter.unusedSimpArgs false
set_option linter.unusedVariables false
namespace Go.Proofs.Ytgadedpcekiljaa
open Go.RowKit

def qU (F : Nat → Prop) (w0 : World) : Kq := ⟨fun w => Tou F w0 w, fun k => F k ∨ w0.heap.size ≤ k, fun w => w0.heap.size ≤ w.heap.size, fun w w' r h hg ha => ⟨hg.os.trans h.os, hg.tape.trans h.tape, hg.output.trans h.output, Nat.le_trans h.size hg.size, fun k hk h1 => (hg.block k (Nat.lt_of_lt_of_le hk h.size) (fun e => by
  rcases ha k e.symm with h3 | h3
  · exact h1 h3
  · omega)).trans (h.block k hk h1)⟩, fun _ h => h.size⟩
theorem Qs.tou {w w0 : World} {ks : List Kq} {F : Nat → Prop} (h : Qs w ks) (i : Nat) (e : ks[i]? = some (qU F w0) := by rfl) : Tou F w0 w := h.get i e

theorem step_appR1L {α : Type} {P : Program} {t e : TypeId} {enc : α → List Value} {sz bytes : Nat} (E : Elt P t e enc sz bytes) (w : World) {ops : Array Oper} {o : Oper} {a : Act} {K : Act → World → Prop} {Q : Exit → Act → World → Prop} {Ep : Prop} (hgd : o.guard = none) (s x : Operand)
    (ho : o.op = .call { callee := .builtin .append, args := #[s, x], argTypes := #[t, t] })
    (base : Nat) (v : Value) (L : List α) (hs : a.eval s = v) (hown : OwnR w base e enc sz v L) (g c : Nat) (y : α) (u : TypeId) (cs : Array Value)
    (hx : a.eval x = .slice (some ⟨g, 0, none⟩) 1 c) (hb : Blk w g u cs) (hcs : cs = (enc y).toArray) (hlen : L.length + 1 ≤ maxLen) (hbytes : (L.length + 1) * bytes ≤ 140737488355328) (hbase : base ≤ w.heap.size) (H : Nat) (hH : w.heap.size = H)
    (h : ∀ g' c' w', OwnR w' base e enc sz (.slice (some ⟨g', 0, none⟩) (L.length + 1) c') (L ++ [y]) → w.grownBy w' v.ownBlock → (v.ownBlock = some g' ∨ g' = H) → g' < w'.heap.size → K (a.put o.dst (.slice (some ⟨g', 0, none⟩) (L.length + 1) c')) w') :
    if Region.wanted o (yielded ops a.tmps) = true then Oper.wp P o a w K Q else Ep := by
  subst hcs
  obtain ⟨z, hinfo, hzs⟩ := E.info
  obtain ⟨i, hi, hz, hsz, hby⟩ := info_parts hinfo
  refine step_append_lies (P := P) w hgd s x t ho base e i z sz bytes E.under hi hz hsz hby hzs E.pos v L.length (L.flatMap enc) hs hown ⟨g, 0, none⟩ 1 c (enc y) hx (by rw [E.len]; omega) ?_ (fun u hu => E.one y u hu) (by omega) hlen hbytes hbase H hH ?_
  · intro j u hj
    have h1 : w.cell? ⟨g, j, none⟩ = some u := by rw [hb.cell]; simpa using hj
    unfold Addr.add
    split
    · rename_i h0; subst h0; simpa using h1
    · simpa using h1
  · intro g' c' w' h2 h3 h4 h5
    exact h g' c' w' (by unfold OwnR; rw [List.length_append, List.flatMap_append]; simpa using h2) h3 h4 h5

end Go.Proofs.Ytgadedpcekiljaa
