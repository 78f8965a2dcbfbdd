/- An append of one element to a row that is a thing beside others; numbers of 32 bits. -/
import Derived.Test.YtgadedpcekiljaaTouQ
import Derived.Test.YtgadedpcekiljaaSep
import Derived.Test.YtgadedpcekiljaaSrt0
set_option linter.unusedSimpArgs false
set_option linter.unusedVariables false
namespace Go.Proofs.Ytgadedpcekiljaa
open Go.RowKit
theorem sep_app1 {α : Type} {P : Program} {t e : TypeId} {enc : α → List Value} {sz bytes : Nat} (E : Elt P t e enc sz bytes) {w : World} {ops : Array Oper} {rest : List Oper} {o : Oper} {a : Act} {Q : Exit → Act → World → Prop} (hgd : o.guard = none) (s x : Operand)
    (ho : o.op = .call { callee := .builtin .append, args := #[s, x], argTypes := #[t, t] })
    {B : Nat} {w0 : World} {ts : List Kt} (i : Nat) (v : Value) (L : List α) (hs : a.eval s = v) (h : Sep B w0 w ts) (hi : ts[i]? = some (thR e enc sz v L)) (g c : Nat) (y : α) (u : TypeId) (cs : Array Value)
    (hx : a.eval x = .slice (some ⟨g, 0, none⟩) 1 c) (hb : Blk w g u cs) (hcs : cs = (enc y).toArray) (hlen : L.length + 1 ≤ maxLen) (hbytes : (L.length + 1) * bytes ≤ 140737488355328)
    (hK : ∀ g' c' w', Sep B w0 w' (ts.set i (thR e enc sz (.slice (some ⟨g', 0, none⟩) (L.length + 1) c') (L ++ [y]))) → wpList P ops Q rest (a.put o.dst (.slice (some ⟨g', 0, none⟩) (L.length + 1) c')) w') : wpList P ops Q (o :: rest) a w := by
  refine wpList_plain hgd fun K hK' => ?_
  have h1 := step_appR1L (ops := ops) (Q := Q) (Ep := True) (K := K) E w hgd s x ho 0 v L hs (h.at_ i hi) g c y u cs hx hb hcs hlen hbytes (Nat.zero_le _) w.heap.size rfl (fun g' c' w' h1 h2 h3 h4 => hK' _ _ (hK g' c' w' (h.call (t' := thR e enc sz (.slice (some ⟨g', 0, none⟩) (L.length + 1) c') (L ++ [y])) i hi (Tou.of_grown h2 (fun j e => e)) h1 (fun j hj => by
    injection (show some g' = some j from hj) with hj
    subst hj
    rcases h3 with h3 | h3
    · exact .inl h3
    · exact .inr (by omega)))))
  rw [if_pos (by simp [Region.wanted, hgd])] at h1
  exact h1
theorem Try.eltU : Elt Try.prog 39 24 encU 1 4 := ⟨Try.underlying39, ⟨.int .u32 0, by kernel_rfl, rfl⟩, by decide, fun _ => rfl, fun x v h => by
  unfold encU at h
  rw [List.mem_singleton] at h
  subst h
  rfl⟩
/-- a row is none, or lies at the beginning of a block -/
theorem row_cases {w : World} {e : TypeId} {v : Value} {l : List Nat} (h : OwnR w 0 e encU 1 v l) : (v = .slice none 0 0 ∧ l = []) ∨ ∃ g n c, v = .slice (some ⟨g, 0, none⟩) n c ∧ n = l.length := by
  rcases h.2 with ⟨h1, h2⟩ | ⟨g, cap, cur, hv, _⟩
  · exact .inl ⟨h1, by first | exact h2 | (apply List.eq_nil_of_length_eq_zero; simpa using h2) | (apply List.eq_nil_of_length_eq_zero; exact h2)⟩
  · exact .inr ⟨g, _, cap, hv, rfl⟩
end Go.Proofs.Ytgadedpcekiljaa
