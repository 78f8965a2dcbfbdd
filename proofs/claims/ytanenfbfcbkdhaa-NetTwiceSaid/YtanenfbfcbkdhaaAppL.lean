/- Bytes: a new block of them; an append of one, of many, and where the new row lies. -/
import Derived.Test.YtanenfbfcbkdhaaOwn
import Derived.Test.YtanenfbfcbkdhaaKq
import Derived.Test.YtanenfbfcbkdhaaApp
import Derived.Deep.AppendLies
set_option linter.unusedSimpArgs false
set_option linter.unusedVariables false
namespace Go.Proofs.Ytanenfbfcbkdhaa
open Go.RowKit
set_option maxRecDepth 100000

theorem own_built (w : World) (bs : List UInt8) {base : Nat} (hb : base ≤ w.heap.size) (hl : bs.length ≤ 100000) : OwnB (w.alloc (.cells (bs.map bv).toArray 5)) base (.slice (some ⟨w.heap.size, 0, none⟩) bs.length bs.length) bs :=
  ⟨by simp, .inr ⟨w.heap.size, bs.length, (bs.map bv).toArray, rfl, hb, heap_alloc_new w _, Nat.le_refl _, by unfold maxLen; omega, by simp, by simp [List.take_of_length_le]⟩⟩
/-- 'append(out, b)' of one byte: where the new row lies -/
theorem appBL (w : World) {ops : Array Oper} {rest : List Oper} {o : Oper} {a : Act} {Q : Exit → Act → World → Prop} (hgd : o.guard = none) (s x : Operand)
    (ho : o.op = .call { callee := .builtin .append, args := #[s, x], argTypes := #[22, 22] })
    (base : Nat) (v : Value) (l : List UInt8) (hs : a.eval s = v) (hown : OwnB w base v l)
    (g : Nat) (b : UInt8) (hx : a.eval x = .slice (some ⟨g, 0, none⟩) 1 1) (hc : w.cell? ⟨g, 0, none⟩ = some (bv b)) (hlen : l.length + 1 ≤ 140737488355328) (hbase : base ≤ w.heap.size)
    (h : ∀ g' c' w', OwnB w' base (.slice (some ⟨g', 0, none⟩) (l.length + 1) c') (l ++ [b]) → w.grownBy w' v.ownBlock → (v.ownBlock = some g' ∨ g' = w.heap.size) → g' < w'.heap.size → wpList Try.prog ops Q rest (a.put o.dst (.slice (some ⟨g', 0, none⟩) (l.length + 1) c')) w') : wpList Try.prog ops Q (o :: rest) a w := by
  obtain ⟨i, hi, hz, hsz, hby⟩ := info_parts Try.info_u8
  refine wpList_append_lies (P := Try.prog) w hgd s x 22 ho base 5 i (.int .u8 0) 1 1 Try.underlying22 hi hz hsz hby rfl (by decide) v l.length (l.map bv) hs hown ⟨g, 0, none⟩ 1 1 [bv b] hx (by simp) ?_ (fun u hu => ?_) (by omega) (by unfold maxLen; omega) (by omega) hbase _ rfl ?_
  · intro j u hj
    cases j with
    | zero => simp at hj; subst hj; simpa [Addr.add] using hc
    | succ j => simp at hj
  · simp at hu; subst hu; rfl
  · intro g' c' w' h2 h3 h4 h5
    exact h g' c' w' (by unfold OwnB; rw [List.length_append, List.map_append]; simpa using h2) h3 h4 h5

theorem run_app_empty {P : Program} (w : World) (base : Nat) (t ty e : TypeId) (i : TypeInfo) (size : Nat) (ht : P.underlying t = some (.slice e)) (hi : P.info? e = some i)
    (v : Value) (n : Nat) (xs : List Value) (hown : w.ownsRow base e size v n xs) (ad : Addr) (c : Nat) : (Builtin.append_ #[t, t] ty #[v, .slice (some ad) 0 c]).run P w = .ok v w := by
  rcases hown.2 with ⟨rfl, rfl⟩ | ⟨g, cap, cur, rfl, _, _, hnc, _⟩
  · simp [Builtin.append_, run_underlying ht, sizeOf, typeInfo, hi, Builtin.lenOf, Builtin.firstCells, loadCells, loadCellsFrom, Result.andThen]
  · simp [Builtin.append_, run_underlying ht, sizeOf, typeInfo, hi, Builtin.lenOf, Builtin.firstCells, hnc, storeCells, loadCells, loadCellsFrom, Result.andThen]
/-- 'append(out, x...)': where the new row lies -/
theorem appAllL (w : World) {ops : Array Oper} {rest : List Oper} {o : Oper} {a : Act} {Q : Exit → Act → World → Prop} (hgd : o.guard = none) (s x : Operand)
    (ho : o.op = .call { callee := .builtin .append, args := #[s, x], argTypes := #[22, 22] })
    (base : Nat) (v : Value) (L : List UInt8) (hs : a.eval s = v) (hown : OwnB w base v L) (A : Option Addr) (c : Nat) (l : List UInt8)
    (hx : a.eval x = .slice A l.length c) (hb : Bs w A l) (hlen : L.length + l.length ≤ 140737488355328) (hbase : base ≤ w.heap.size)
    (h : ∀ A' c' w', OwnB w' base (.slice A' (L.length + l.length) c') (L ++ l) → w.grownBy w' v.ownBlock → (∀ j, (Value.slice A' (L.length + l.length) c').ownBlock = some j → v.ownBlock = some j ∨ w.heap.size ≤ j) → wpList Try.prog ops Q rest (a.put o.dst (.slice A' (L.length + l.length) c')) w') : wpList Try.prog ops Q (o :: rest) a w := by
  obtain ⟨i, hi, hz, hsz, hby⟩ := info_parts Try.info_u8
  by_cases hl0 : l = []
  · subst hl0
    obtain ⟨A', c', rfl, _⟩ := hown.isB
    refine wpList_plain hgd fun K hK => ?_
    have hrun : (Builtin.append_ #[22, 22] o.type #[.slice A' L.length c', .slice A 0 c]).run Try.prog w = .ok (.slice A' L.length c') w := by
      rcases A with _ | ad
      · exact run_app_nil (P := Try.prog) w base 22 o.type 5 i 1 Try.underlying22 hi _ _ _ hown c
      · exact run_app_empty (P := Try.prog) w base 22 o.type 5 i 1 Try.underlying22 hi _ _ _ hown ad c
    simp only [List.length_nil] at hx
    unfold Oper.wp
    simp [execOp, ho, resolve, invoke, builtin, hs, hx, hrun, Result.andThen]
    exact hK _ _ (h A' c' w (by simpa using hown) (World.grownBy.refl _ _) (fun j hj => .inl (by simpa using hj)))
  · have hlp : 0 < l.length := List.length_pos_iff.2 hl0
    rcases A with _ | ad
    · obtain ⟨p, o', hA, _⟩ := hb 0 l[0] (List.getElem?_eq_getElem hlp)
      cases hA
    · refine wpList_append_lies (P := Try.prog) w hgd s x 22 ho base 5 i (.int .u8 0) 1 1 Try.underlying22 hi hz hsz hby rfl (by decide) v L.length (L.map bv) hs hown ad l.length c (l.map bv) hx (by simp) ?_ ?_ hlp (by unfold maxLen; omega) (by omega) hbase _ rfl ?_
      · intro j u hj
        rw [List.getElem?_map] at hj
        obtain ⟨b, hjb, rfl⟩ := Option.map_eq_some_iff.1 hj
        obtain ⟨p, o', hA, hc⟩ := hb j b hjb
        injection hA with e
        subst e
        unfold Addr.add
        split
        · rename_i h0; subst h0; simpa using hc
        · exact hc
      · intro u hu
        obtain ⟨b, _, rfl⟩ := List.mem_map.1 hu
        rfl
      · intro g' c' w' h2 h3 h4 h5
        refine h (some ⟨g', 0, none⟩) c' w' (by unfold OwnB; rw [List.length_append, List.map_append]; exact h2) h3 (fun j hj => ?_)
        have e2 : g' = j := by simpa [Value.ownBlock] using hj
        subst e2
        rcases h4 with h9 | h9
        · exact .inl h9
        · exact .inr (by omega)

end Go.Proofs.Ytanenfbfcbkdhaa
