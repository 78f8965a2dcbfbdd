/- Appends as operations that make memory. -/
import Derived.Test.YtanenfbfcbkdhaaApp
import Derived.Test.YtanenfbfcbkdhaaFrt
namespace Go.Proofs.Ytanenfbfcbkdhaa
open Go.RowKit
set_option maxRecDepth 100000

/-- all of x behind what v owns: the builtin's run -/
theorem run_appA (w : World) (ty : TypeId) (base : Nat) (v : Value) (L : List UInt8) (hown : OwnB w base v L) (A : Option Addr) (c : Nat) (l : List UInt8) (hb : Bs w A l) (hlen : L.length + l.length ≤ 140737488355328) (hbase : base ≤ w.heap.size) :
    ∃ v' w', (Builtin.append_ #[22, 22] ty #[v, .slice A l.length c]).run Try.prog w = .ok v' w' ∧ OwnB w' base v' (L ++ l) ∧ w.grownBy w' v.ownBlock := by
  obtain ⟨i, hi, hz, hsz, hby⟩ := info_parts Try.info_u8
  rcases A with _ | ad
  · have h0 : l = [] := by
      cases l with
      | nil => rfl
      | cons b l => obtain ⟨p, o, hA, _⟩ := hb 0 b rfl; cases hA
    subst h0
    exact ⟨v, w, run_app_nil w base 22 ty 5 i 1 Try.underlying22 hi _ _ _ hown c, by rw [List.append_nil]; exact hown, ⟨rfl, rfl, rfl, Nat.le_refl _, fun _ _ _ => rfl⟩⟩
  · obtain ⟨v', w', hrun, r1, r2, r3⟩ := run_append_own (P := Try.prog) w base 22 ty 5 i (.int .u8 0) 1 1 Try.underlying22 hi hz hsz hby rfl (by decide) v L.length (L.map bv) hown ad l.length c (l.map bv) (by simp)
      (fun j u hj => by
        rw [List.getElem?_map] at hj
        obtain ⟨b, hjb, rfl⟩ := Option.map_eq_some_iff.1 hj
        obtain ⟨p, o, hA, hc⟩ := hb j b hjb
        injection hA with e
        subst e
        unfold Addr.add
        split
        · rename_i h0; subst h0; simpa using hc
        · exact hc)
      (fun u hu => by
        obtain ⟨b, _, rfl⟩ := List.mem_map.1 hu
        rfl) (by unfold maxLen; omega) (by omega) hbase
    exact ⟨v', w', hrun, by unfold OwnB; rw [List.length_append, List.map_append]; exact r1, r2⟩

/-- 'append([]byte(nil), x...)' as an operation of a region that makes memory -/
theorem grow_appNil {o : Oper} {a : Act} {W : World} (s x : Operand) (ho : o.op = .call { callee := .builtin .append, args := #[s, x], argTypes := #[22, 22] })
    (hs : a.eval s = .slice none 0 0) (A : Option Addr) (n c : Nat) (l : List UInt8) (hx : a.eval x = .slice A n c) (hn : n = l.length) (hb : Bs W A l) (hlen : l.length ≤ 140737488355328) (base : Nat) (hbase : base ≤ W.heap.size) :
    growUpon Try.prog W (fun v z => ∃ A' c', v = .slice A' l.length c' ∧ OwnB z base v l) ((execOp a.eval o).run Try.prog W) := by
  subst hn
  obtain ⟨v', w', hrun, h1, h2⟩ := run_appA W o.type W.heap.size (.slice none 0 0) [] (OwnB.nil _ _) A c l hb (by simpa using hlen) (Nat.le_refl _)
  rw [List.nil_append] at h1
  have hB : Below W.heap.size W w' := own_grown (OwnB.nil W W.heap.size) h2 (Nat.le_refl _)
  obtain ⟨A', c', hv, _⟩ := h1.isB
  have hr : (execOp a.eval o).run Try.prog W = .ok (.value v') w' := by
    simp [execOp, ho, resolve, invoke, builtin, hs, hx, hrun, Result.andThen]
  rw [hr]
  exact ⟨hB, A', c', hv, h1.mono hbase⟩

/-- an operation whose run is known -/
theorem grow_val {P : Program} {o : Oper} {a : Act} {W w' : World} {R : Value → World → Prop} {v : Value} (hr : (execOp a.eval o).run P W = .ok (.value v) w') (hb : Below W.heap.size W w') (hR : R v w') : growUpon P W R ((execOp a.eval o).run P W) := by
  rw [hr]
  exact ⟨hb, hR⟩
/-- '[]byte{..}' as an operation of a region that makes memory -/
theorem grow_bytes {o : Oper} {a : Act} {W : World} (R : Value → World → Prop) (cs : List UInt8) (t : TypeId)
    (hr : (execOp a.eval o).run Try.prog W = .ok (.value (.slice (some ⟨W.heap.size, 0, none⟩) cs.length cs.length)) (W.alloc (.cells (cs.map bv).toArray t)))
    (hR : ∀ g z, Blk z g t (cs.map bv).toArray → R (.slice (some ⟨g, 0, none⟩) cs.length cs.length) z) : growUpon Try.prog W R ((execOp a.eval o).run Try.prog W) := by
  rw [hr]
  exact ⟨below_alloc _ _, hR _ _ (Blk.new W t _)⟩
theorem Blk.bs {w : World} {g : Nat} {t : TypeId} {l : List UInt8} (h : Blk w g t (l.map bv).toArray) : Bs w (some ⟨g, 0, none⟩) l := fun i b hi => by
  refine ⟨_, _, rfl, ?_⟩
  rw [Nat.zero_add, h.cell i]
  simp [hi]

end Go.Proofs.Ytanenfbfcbkdhaa
