/- Appends under a fence: an operation of a drawn region; all of a slice, nil or not; a box behind them. -/
import Derived.Test.YtipbkfjmblkolaaStf4
namespace Go.Proofs.Ytipbkfjmblkolaa
open Go.RowKit Go.Shelf

theorem Boxed.appended0 {W w1 : World} {n₀ B : Nat} {t e : TypeId} {size : Nat} {v v' : Value} {k m : Nat} {xs ys : List Value}
    (hv : Boxed W B t v) (hte : t ≠ e) (hrow : W.ownsRow n₀ e size v k xs) (hn₀ : n₀ ≤ W.heap.size) (hB : n₀ ≤ B)
    (hown' : w1.ownsRow n₀ e size v' m ys) (hgrow : W.grownBy w1 v.ownBlock) :
    Boxed w1 B t v ∧ Boxed (w1.setCell ⟨B, 0, none⟩ v') B t v' ∧ (w1.setCell ⟨B, 0, none⟩ v').ownsRow n₀ e size v' m ys ∧ KeepsOthers W (w1.setCell ⟨B, 0, none⟩ v') ∧ Below n₀ W (w1.setCell ⟨B, 0, none⟩ v') := by
  have hv1 : Boxed w1 B t v := hv.kept hgrow (hv.not_row hte hrow)
  refine ⟨hv1, hv1.set v', hown'.kept (grownBy_setCell' w1 B v') (.inr (hv1.not_row hte hown').symm), ?_, ?_⟩
  · refine (KeepsOthers.of_grownBy hgrow fun j o ej hj => ?_).trans (KeepsOthers.setCell _ _ _)
    rcases hrow.2 with ⟨rfl, _⟩ | ⟨g, cap, cur, rfl, _, hgb, _⟩
    · simp [Value.ownBlock] at ej
    · obtain rfl : g = j := by simpa [Value.ownBlock] using ej
      rw [hgb] at hj; cases hj; rfl
  · refine ((Below.refl n₀ W).grown hgrow hn₀ fun j ej => ?_).setCell (p := ⟨B, 0, none⟩) hB v'
    rcases hrow.2 with ⟨rfl, _⟩ | ⟨g, cap, cur, rfl, hb, _, _⟩
    · simp [Value.ownBlock] at ej
    · obtain rfl : g = j := by simpa [Value.ownBlock] using ej
      exact hb

/-- an append keeps whatever is no cells, and what lay below -/
theorem own_keeps {W w1 : World} {n₀ : Nat} {e : TypeId} {size : Nat} {v : Value} {k : Nat} {xs : List Value} {tmp : Obj} (hrow : W.ownsRow n₀ e size v k xs) (hn₀ : n₀ ≤ W.heap.size) (hgrow : (W.alloc tmp).grownBy w1 v.ownBlock) : KeepsOthers W w1 ∧ Below n₀ W w1 := by
  constructor
  · refine (KeepsOthers.alloc W tmp).trans (KeepsOthers.of_grownBy hgrow fun j o ej hj => ?_)
    rcases (hrow.alloc tmp).2 with ⟨rfl, _⟩ | ⟨g, cap, cur, rfl, _, hgb, _⟩
    · simp [Value.ownBlock] at ej
    · obtain rfl : g = j := by simpa [Value.ownBlock] using ej
      rw [hgb] at hj; cases hj; rfl
  · refine ((Below.refl n₀ W).alloc hn₀ tmp).grown hgrow (by simp; omega) fun j ej => ?_
    rcases hrow.2 with ⟨rfl, _⟩ | ⟨g, cap, cur, rfl, hb, _, _⟩
    · simp [Value.ownBlock] at ej
    · obtain rfl : g = j := by simpa [Value.ownBlock] using ej
      exact hb

/-- all of x behind what v owns: the builtin's run -/
theorem run_appAll (w : World) (ty : TypeId) (base : Nat) (v : Value) (L : List UInt8) (hown : OwnB w base v L) (A : Option Addr) (c : Nat) (l : List UInt8) (hb : Bs w A l) (hlen : L.length + l.length ≤ 140737488355328) (hbase : base ≤ w.heap.size) :
    ∃ v' w', (Builtin.append_ #[22, 22] ty #[v, .slice A l.length c]).run Try.prog w = .ok v' w' ∧ OwnB w' base v' (L ++ l) ∧ w.grownBy w' v.ownBlock := by
  obtain ⟨i, hi, hz, hsz, hby⟩ := info_parts Try.info_u8
  rcases A with _ | ad
  · have h0 : l = [] := by
      cases l with
      | nil => rfl
      | cons b l => obtain ⟨p, o, hA, _⟩ := hb 0 b rfl; cases hA
    subst h0
    exact ⟨v, w, run_app_nil w base 22 ty 5 i 1 Try.underlying22 hi _ _ _ hown c, by rw [List.append_nil]; exact hown, ⟨rfl, rfl, rfl, Nat.le_refl _, fun _ _ _ => rfl⟩⟩
  · obtain ⟨v', w', hrun, r1, r2, r3⟩ := run_append_own (P := Try.prog) w base 22 ty 5 i (.int .u8 0) 1 1 Try.underlying22 hi hz hsz hby rfl (by decide) v L.length (L.map bv) hown ad l.length c (l.map bv) (by simp)
      (fun j u hj => by
        rw [List.getElem?_map] at hj
        obtain ⟨b, hjb, rfl⟩ := Option.map_eq_some_iff.1 hj
        obtain ⟨p, o, hA, hc⟩ := hb j b hjb
        injection hA with e
        subst e
        unfold Addr.add
        split
        · rename_i h0; subst h0; simpa using hc
        · exact hc)
      (fun u hu => by
        obtain ⟨b, _, rfl⟩ := List.mem_map.1 hu
        rfl) (by unfold maxLen; omega) (by omega) hbase
    exact ⟨v', w', hrun, by unfold OwnB; rw [List.length_append, List.map_append]; exact r1, r2⟩

/-- one operation under a fence -/
theorem operAll {F : Fence} {n : Nat} (w : World) {o : Oper} {a : Act} {K : Act → World → Prop} {Q : Exit → Act → World → Prop} (s x : Operand)
    (ho : o.op = .call { callee := .builtin .append, args := #[s, x], argTypes := #[22, 22] })
    (base : Nat) (v : Value) (L : List UInt8) (hs : a.eval s = v) (hown : OwnB w base v L) (A : Option Addr) (c : Nat) (l : List UInt8)
    (hx : a.eval x = .slice A l.length c) (hb : Bs w A l) (hlen : L.length + l.length ≤ 140737488355328) (hbase : base ≤ w.heap.size)
    (h : ∀ v' w', OwnB w' base v' (L ++ l) → w.grownBy w' v.ownBlock → K (a.put o.dst v') w') : Oper.wpIn F n Try.prog o a w K Q := by
  obtain ⟨v', w', hrun, r1, r2⟩ := run_appAll w o.type base v L hown A c l hb hlen hbase
  unfold Oper.wpIn
  refine ⟨?_, ?_⟩
  · simp [Oper.about, ho, resolve, Target.leads, Sem.run_pure]
  · rw [Oper.semAt_plain F _ _ (by rw [ho]; intro c hc'; cases hc')]
    simp [execOp, ho, resolve, invoke, builtin, hs, hx, hrun, Result.andThen]
    exact h v' w' r1 r2

theorem appAllIn {F : Fence} {n : Nat} (w : World) {ops : Array Oper} {rest : List Oper} {o : Oper} {a : Act} {Q : Exit → Act → World → Prop} (hgd : o.guard = none) (s x : Operand)
    (ho : o.op = .call { callee := .builtin .append, args := #[s, x], argTypes := #[22, 22] })
    (base : Nat) (v : Value) (L : List UInt8) (hs : a.eval s = v) (hown : OwnB w base v L) (A : Option Addr) (c : Nat) (l : List UInt8)
    (hx : a.eval x = .slice A l.length c) (hb : Bs w A l) (hlen : L.length + l.length ≤ 140737488355328) (hbase : base ≤ w.heap.size)
    (h : ∀ v' w', OwnB w' base v' (L ++ l) → w.grownBy w' v.ownBlock → wpListIn F n Try.prog ops Q rest (a.put o.dst v') w') : wpListIn F n Try.prog ops Q (o :: rest) a w :=
  wpListIn_plain hgd fun K hK => operAll w s x ho base v L hs hown A c l hx hb hlen hbase fun v' w' h1 h2 => hK _ _ (h v' w' h1 h2)

/-- 'x[i:]' of bytes, under a fence -/
theorem cutBEIn {F : Fence} {n : Nat} (w : World) {ops : Array Oper} {rest : List Oper} {o : Oper} {a : Act} {Q : Exit → Act → World → Prop} (hgd : o.guard = none) (t lo : Operand)
    (ho : o.op = .slice 22 t (some lo) none none) (A : Option Addr) (k c : Nat) (ht : a.eval t = .slice A k c) (hA : Fm A c) (i : Nat) (hlo : a.eval lo = .int .i64 i)
    (hij : i ≤ k) (hj : k ≤ c)
    (h : ∀ X, (∀ w' l, Bs w' A l → l.length ≤ c → Bs w' X (l.drop i)) → Fm X (c - i) → wpListIn F n Try.prog ops Q rest (a.put o.dst (.slice X (k - i) (c - i))) w) : wpListIn F n Try.prog ops Q (o :: rest) a w := by
  refine wpListIn_plain hgd fun K hK => ?_
  unfold Oper.wpIn
  obtain ⟨X, hr, h1, h2⟩ : ∃ X, (Instr.sliceAt 22 (.slice A k c) (some (.int .i64 i)) none none).run Try.prog w = .ok (.slice X (k - i) (c - i)) w ∧ (∀ w' l, Bs w' A l → l.length ≤ c → Bs w' X (l.drop i)) ∧ Fm X (c - i) := by
    rcases hA with rfl | ⟨p, f, rfl⟩
    · obtain rfl : k = 0 := by omega
      obtain rfl : i = 0 := by omega
      exact ⟨A, by rcases A with _ | ⟨p, f, b⟩ <;> simp [go_sem], fun w' l hb _ => hb, .inl rfl⟩
    · exact ⟨if c = i then some ⟨p, f, none⟩ else some ⟨p, f + i, none⟩, by simp [go_sem, hij, hj], fun w' l hb hc => hb.cutAt i hc, .inr (by split <;> exact ⟨_, _, rfl⟩)⟩
  refine ⟨?_, ?_⟩
  · simp [Oper.about, ho]
  · rw [Oper.semAt_plain F _ _ (by rw [ho]; intro c hc'; cases hc')]
    simp [execOp, ho, ht, hlo, hr, Result.andThen]
    exact hK _ _ (h X h1 h2)

end Go.Proofs.Ytipbkfjmblkolaa
