/- A slice of bytes cut by variables; the document's Wrap. -/
import Derived.Test.YtipbkfjmblkolaaStf2
namespace Go.Proofs.Ytipbkfjmblkolaa
open Go.RowKit

theorem run_cut_some (w : World) (p f n c i j : Nat) (hij : i ≤ j) (hj : j ≤ c) : (Instr.sliceAt 22 (.slice (some ⟨p, f, none⟩) n c) (some (.int .i64 i)) (some (.int .i64 j)) none).run Try.prog w = .ok (.slice (if c = i then some ⟨p, f, none⟩ else some ⟨p, f + i, none⟩) (j - i) (c - i)) w := by
  simp [go_sem, hij, hj]

/-- a slice's address as slices have it -/
def Fm (A : Option Addr) (c : Nat) : Prop := c = 0 ∨ ∃ p f, A = some ⟨p, f, none⟩

theorem Bs.cutAt {w : World} {p f c : Nat} {l : List UInt8} (h : Bs w (some ⟨p, f, none⟩) l) (i : Nat) (hc : l.length ≤ c) : Bs w (if c = i then some ⟨p, f, none⟩ else some ⟨p, f + i, none⟩) (l.drop i) := by
  have := h.rest i c hc
  by_cases h0 : c = i
  · rw [if_pos h0] at this ⊢; exact this
  · rw [if_neg h0] at this ⊢
    have e : (some (⟨p, f, none⟩ : Addr)).map (·.add i) = some ⟨p, f + i, none⟩ := by
      show some (Addr.add ⟨p, f, none⟩ i) = _
      unfold Addr.add
      split
      · rename_i h1; subst h1; rfl
      · rfl
    rw [e] at this; exact this

/-- 'x[i:j]' of bytes -/
theorem cutB (w : World) {ops : Array Oper} {rest : List Oper} {o : Oper} {a : Act} {Q : Exit → Act → World → Prop} (hgd : o.guard = none) (t lo hi : Operand)
    (ho : o.op = .slice 22 t (some lo) (some hi) none) (A : Option Addr) (n c : Nat) (ht : a.eval t = .slice A n c) (hA : Fm A c) (i j : Nat) (hlo : a.eval lo = .int .i64 i) (hhi : a.eval hi = .int .i64 j)
    (hij : i ≤ j) (hj : j ≤ c)
    (h : ∀ X, (∀ w' l, Bs w' A l → l.length ≤ c → Bs w' X (l.drop i)) → Fm X (c - i) → wpList Try.prog ops Q rest (a.put o.dst (.slice X (j - i) (c - i))) w) : wpList Try.prog ops Q (o :: rest) a w := by
  refine wpList_plain hgd fun K hK => ?_
  unfold Oper.wp
  obtain ⟨X, hr, h1, h2⟩ : ∃ X, (Instr.sliceAt 22 (.slice A n c) (some (.int .i64 i)) (some (.int .i64 j)) none).run Try.prog w = .ok (.slice X (j - i) (c - i)) w ∧ (∀ w' l, Bs w' A l → l.length ≤ c → Bs w' X (l.drop i)) ∧ Fm X (c - i) := by
    rcases hA with rfl | ⟨p, f, rfl⟩
    · obtain rfl : j = 0 := by omega
      obtain rfl : i = 0 := by omega
      exact ⟨A, by rcases A with _ | ⟨p, f, b⟩ <;> simp [go_sem], fun w' l hb _ => hb, .inl rfl⟩
    · exact ⟨_, run_cut_some w p f n c i j hij hj, fun w' l hb hc => hb.cutAt i hc, .inr (by split <;> exact ⟨_, _, rfl⟩)⟩
  simp [execOp, ho, ht, hlo, hhi, hr, Result.andThen]
  exact hK _ _ (h X h1 h2)
/-- 'x[i:]' of bytes -/
theorem cutBE (w : World) {ops : Array Oper} {rest : List Oper} {o : Oper} {a : Act} {Q : Exit → Act → World → Prop} (hgd : o.guard = none) (t lo : Operand)
    (ho : o.op = .slice 22 t (some lo) none none) (A : Option Addr) (n c : Nat) (ht : a.eval t = .slice A n c) (hA : Fm A c) (i : Nat) (hlo : a.eval lo = .int .i64 i)
    (hij : i ≤ n) (hj : n ≤ c)
    (h : ∀ X, (∀ w' l, Bs w' A l → l.length ≤ c → Bs w' X (l.drop i)) → Fm X (c - i) → wpList Try.prog ops Q rest (a.put o.dst (.slice X (n - i) (c - i))) w) : wpList Try.prog ops Q (o :: rest) a w := by
  refine wpList_plain hgd fun K hK => ?_
  unfold Oper.wp
  obtain ⟨X, hr, h1, h2⟩ : ∃ X, (Instr.sliceAt 22 (.slice A n c) (some (.int .i64 i)) none none).run Try.prog w = .ok (.slice X (n - i) (c - i)) w ∧ (∀ w' l, Bs w' A l → l.length ≤ c → Bs w' X (l.drop i)) ∧ Fm X (c - i) := by
    rcases hA with rfl | ⟨p, f, rfl⟩
    · obtain rfl : n = 0 := by omega
      obtain rfl : i = 0 := by omega
      exact ⟨A, by rcases A with _ | ⟨p, f, b⟩ <;> simp [go_sem], fun w' l hb _ => hb, .inl rfl⟩
    · exact ⟨if c = i then some ⟨p, f, none⟩ else some ⟨p, f + i, none⟩, by simp [go_sem, hij, hj], fun w' l hb hc => hb.cutAt i hc, .inr (by split <;> exact ⟨_, _, rfl⟩)⟩
  simp [execOp, ho, ht, hlo, hr, Result.andThen]
  exact hK _ _ (h X h1 h2)

theorem encL_len (l : List UInt8) : (encL l).length ≤ 2 * l.length + 1 := by
  have := encL_length _ l (Nat.le_refl _)
  omega
theorem noz_snoc {l : List UInt8} {f i : Nat} (h : NoZ ((l.drop f).take (i - f))) (hfi : f ≤ i) (hi : i < l.length) (hz : l[i] ≠ 0) : NoZ ((l.drop f).take (i + 1 - f)) := by
  have e : i + 1 - f = (i - f) + 1 := by omega
  rw [e, List.take_add_one]
  intro x hx
  rcases List.mem_append.1 hx with h1 | h1
  · exact h x h1
  · rw [List.getElem?_drop, show f + (i - f) = i by omega, List.getElem?_eq_getElem hi] at h1
    simp at h1
    rw [h1]; exact hz
theorem drop_hit {l : List UInt8} {f i : Nat} (hfi : f ≤ i) (hi : i < l.length) (hz : l[i] = 0) : l.drop f = (l.drop f).take (i - f) ++ 0 :: l.drop (i + 1) := by
  conv => lhs; rw [← List.take_append_drop (i - f) (l.drop f)]
  rw [List.drop_drop, show f + (i - f) = i by omega, List.drop_eq_getElem_cons hi, hz]

set_option maxRecDepth 100000 in
set_option maxHeartbeats 2000000 in
/-- the document's Wrap -/
theorem refWrap_any (A : Option Addr) (c : Nat) (l : List UInt8) (w : World) (hl : Bs w A l) (hA : Fm A c) (hc : l.length ≤ c) (hn : l.length ≤ 100000) :
    Calls Try.prog 21 #[.slice A l.length c] w fun e w' => ∃ A' n' c', e = .returned (.slice A' n' c') ∧ n' = (wrapL l).length ∧ OwnB w' w.heap.size (.slice A' n' c') (wrapL l) ∧ Below w.heap.size w w' := by
  obtain ⟨R, hR⟩ : ∃ R, R = encL l := ⟨_, rfl⟩
  have hRl : R.length ≤ 200001 := by have := encL_len l; rw [hR]; omega
  show Calls _ _ _ _ fun e w' => ∃ A' n' c', e = .returned (.slice A' n' c') ∧ n' = (encL l ++ [0]).length ∧ OwnB w' w.heap.size (.slice A' n' c') (encL l ++ [0]) ∧ Below w.heap.size w w'
  rw [← hR]
  have HR := Lib.hid hR
  have HRl := Lib.hid hRl
  have Hn := Lib.hid hn
  clear hR hRl hn
  go_enter Try.func21, Try.ntmps21
  go_wp2_with fail
  go_loopw [3, 4, 5] (fun s0 s1 s2 wr => ∃ (V1 : Option Addr) (V2 : Nat) (L' : List UInt8) (f i : Nat), s0 = .slice V1 L'.length V2 ∧ s1 = .int .i64 f ∧ s2 = .int .i64 i ∧ f ≤ i ∧ i ≤ l.length ∧ OwnB wr w.heap.size (.slice V1 L'.length V2) L' ∧ Below w.heap.size w wr ∧ Hid (NoZ ((l.drop f).take (i - f))) ∧ Hid (R = L' ++ encL (l.drop f)))
    (fun _ _ s _ => l.length - (intOf s).toNat)
  case atStart => exact ⟨none, 0, [], 0, 0, rfl, rfl, rfl, Nat.le_refl _, Nat.zero_le _, OwnB.nil _ _, Below.refl _ _, Lib.hid (by simp [NoZ]), Lib.hid (by rw [HR.out]; rfl)⟩
  case round =>
    obtain ⟨V1, V2, L', f, i, rfl, rfl, rfl, hfi, hil, hown', t', HZ, HR'⟩ := hrel
    have hLl : L'.length ≤ 200001 := by
      have := HRl.out
      rw [HR'.out, List.length_append] at this
      omega
    have HLl := Lib.hid hLl
    have Hfi := Lib.hid hfi
    have n1 : i < 2 ^ 62 := by have := Hn.out; omega
    clear hLl
    rcases Nat.lt_or_ge i l.length with hlt | hge
    · have d1 : decide ((i : Int) < l.length) = true := by simp; omega
      have d2 : decide (i < l.length) = true := by simp; omega
      have e1 : IntKind.i64.wrap ((i : Int) + 1) = ((i + 1 : Nat) : Int) := by rw [IntKind.wrap_i64]; omega
      have hlw := hl.belowB t' (Nat.le_refl _)
      obtain ⟨p, o, rfl, hcell⟩ := hlw i l[i] (List.getElem?_eq_getElem hlt)
      unfold bv at hcell
      by_cases hz : l[i] = 0
      · have d3 : decide ((l[i].toNat : Int) = 0) = true := by rw [hz]; rfl
        have HH := Lib.hid (drop_hit hfi hlt hz)
        rw [hz] at hcell
        clear d3
        go_wp2_with fail
        obtain ⟨q, hq⟩ : ∃ q, q = (l.drop f).take (i - f) := ⟨_, rfl⟩
        have hql : q.length = i - f := by rw [hq, List.length_take, List.length_drop]; omega
        have hqb : Bs w (some ⟨p, o + f, none⟩) q := by
          have := hl.cutAt f hc
          rw [if_neg (by omega)] at this
          rw [hq]; exact this.take _
        have hRq : R = (L' ++ partE q) ++ encL (l.drop (i + 1)) := by
          rw [HR'.out, HH.out, encL_app (by have := HZ.out; exact this), ← hq, List.append_assoc]
        rw [← hql]
        refine (part_any w.heap.size _ _ q _ L' w wr hqb (Nat.le_refl _) t' t'.size (by omega) hown' (by have := HLl.out; have := Hn.out; omega)).mono ?_
        rintro e w2 ⟨A2, c2, rfl, o2, t2, z2⟩
        clear hq hql
        go_wp2_with fail
        go_roundw
        case rel =>
          refine ⟨A2, c2, L' ++ partE q, i + 1, i + 1, (by rw [List.length_append]), rfl, rfl, Nat.le_refl _, hlt, o2, t2, Lib.hid (by simp [NoZ]), Lib.hid hRq⟩
        case measure =>
          show l.length - (((i + 1 : Nat) : Int)).toNat < l.length - ((i : Nat) : Int).toNat
          omega
      · have hz0 : l[i].toNat ≠ 0 := fun h => hz (UInt8.toNat_inj.1 h)
        have d3 : decide ((l[i].toNat : Int) = 0) = false := by simp; exact hz0
        have HZ2 := Lib.hid (noz_snoc HZ.out hfi hlt hz)
        obtain ⟨x, hx⟩ : ∃ x, x = l[i].toNat := ⟨_, rfl⟩
        rw [← hx] at hcell d3 hz0
        clear hx hz
        have d4 : decide (x = 0) = false := by simp; exact hz0
        go_wp2_with fail
        go_roundw
        case rel =>
          exact ⟨V1, V2, L', f, i + 1, rfl, rfl, rfl, Nat.le_succ_of_le hfi, hlt, hown', t', HZ2, HR'⟩
        case measure =>
          show l.length - (((i + 1 : Nat) : Int)).toNat < l.length - ((i : Nat) : Int).toNat
          omega
    · obtain rfl : i = l.length := by omega
      have d1 : decide ((l.length : Int) < l.length) = false := by simp
      have hq : NoZ (l.drop f) := by
        have := HZ.out
        rwa [List.take_of_length_le (by rw [List.length_drop]; omega)] at this
      have hfin : R = L' ++ partE (l.drop f) := by rw [HR'.out, encL_noz hq]
      have Hfin := Lib.hid hfin
      have hdl : l.length - f = (l.drop f).length := by rw [List.length_drop]
      clear hq hfin HZ HR'
      go_wp2_with (refine cutBE _ rfl (.tmp 26) (.tmp 27) rfl A l.length c rfl hA f rfl Hfi.out hc ?_; intro X hX hFX; have HX := Lib.hid hX; clear hX hFX; simp [Act.put])
      rename_i K aK
      unfold Oper.wp
      simp [execOp, go_sem]
      have hXb := HX.out w l hl hc
      rw [hdl]
      refine (part_any w.heap.size X _ (l.drop f) _ L' w wr hXb (Nat.le_refl _) t' t'.size (by have := Hfi.out; omega) hown' (by have := HLl.out; have := Hn.out; omega)).mono ?_
      rintro e w2 ⟨A2, c2, rfl, o2, t2, z2⟩
      rw [← Hfin.out] at o2 ⊢
      simp only
      apply aK
      have HRl' := HRl
      clear HX hXb hdl Hfin hown' t'
      go_wp2_with (at_builtin; refine appB _ rfl (.tmp 30) (.tmp 31) rfl w.heap.size _ R rfl (o2.alloc _) w2.heap.size 0 rfl (box_cell _ _ _ _ _ rfl) (by have := HRl.out; omega) (by simp; omega) ?_; intro g1 k1 w3 o3 b3)
      go_ret
      exact ⟨_, _, _, rfl, by simp, o3, t2.trans ((below_alloc _ _).mono z2 |>.trans b3)⟩

end Go.Proofs.Ytipbkfjmblkolaa
