/-
  A slice of bytes of the call's own: what is made, appended to, stored into; kept while the world grows.
-/
import Derived.Test.YtanenfbfcbkdhaaUp
namespace Go.Proofs.Ytanenfbfcbkdhaa
open Go.RowKit

/-- bytes of the call's own -/
def OwnB (w : World) (base : Nat) (v : Value) (l : List UInt8) : Prop := w.ownsRow base 5 1 v l.length (l.map bv)

/-- a value that reads as bytes -/
def IsB (w : World) (v : Value) (l : List UInt8) : Prop := ∃ A c, v = .slice A l.length c ∧ l.length ≤ c ∧ c ≤ maxLen ∧ Bs w A l

theorem IsB.below {w w' : World} {v : Value} {l : List UInt8} (h : IsB w v l) (hb : Below w.heap.size w w') : IsB w' v l := by
  obtain ⟨A, c, h1, h2, h3, h4⟩ := h
  exact ⟨A, c, h1, h2, h3, h4.below hb⟩

theorem OwnB.below {w w' : World} {base : Nat} {v : Value} {l : List UInt8} (h : OwnB w base v l) (hb : Below w.heap.size w w') : OwnB w' base v l := own_below h hb
theorem OwnB.mono {w : World} {base base' : Nat} {v : Value} {l : List UInt8} (h : OwnB w base v l) (hb : base' ≤ base) : OwnB w base' v l := own_mono h hb
theorem OwnB.nil (w : World) (base : Nat) : OwnB w base (.slice none 0 0) [] := World.ownsRow_nil _ _ _ _

theorem OwnB.isB {w : World} {base : Nat} {v : Value} {l : List UInt8} (h : OwnB w base v l) : IsB w v l := by
  rcases h.2 with ⟨rfl, h0⟩ | ⟨g, cap, cur, rfl, hbg, hgg, hn, hm, hs, ht⟩
  · have : l = [] := List.eq_nil_of_length_eq_zero h0
    subst this
    exact ⟨none, 0, rfl, Nat.le_refl _, Nat.zero_le _, Bs.nil _ _⟩
  · refine ⟨some ⟨g, 0, none⟩, cap, rfl, hn, hm, fun i b hi => ⟨g, 0, rfl, ?_⟩⟩
    rw [Nat.zero_add, cell_of_row w g i cur _ (0, 0) hgg]
    have h2 : (cur.toList.take (l.length * 1))[i]? = some (bv b) := by rw [ht, List.getElem?_map, hi]; rfl
    rw [List.getElem?_take] at h2
    split at h2
    · simpa using h2
    · cases h2

theorem Try.info_u8 : (Try.prog.info? 5).map (fun i => (i.zero, i.size, i.bytes)) = some (some (.int .u8 0), 1, 1) := by kernel_rfl

theorem OwnB.alloc {w : World} {base : Nat} {v : Value} {l : List UInt8} (h : OwnB w base v l) (o : Obj) : OwnB (w.alloc o) base v l := World.ownsRow.alloc h o

/-- 'append(out, b)' of one byte -/
theorem appB (w : World) {ops : Array Oper} {rest : List Oper} {o : Oper} {a : Act} {Q : Exit → Act → World → Prop} (hgd : o.guard = none) (s x : Operand)
    (ho : o.op = .call { callee := .builtin .append, args := #[s, x], argTypes := #[22, 22] })
    (base : Nat) (v : Value) (l : List UInt8) (hs : a.eval s = v) (hown : OwnB w base v l)
    (g : Nat) (b : UInt8) (hx : a.eval x = .slice (some ⟨g, 0, none⟩) 1 1) (hc : w.cell? ⟨g, 0, none⟩ = some (bv b)) (hlen : l.length + 1 ≤ 140737488355328) (hbase : base ≤ w.heap.size)
    (h : ∀ g' cap w', OwnB w' base (.slice (some ⟨g', 0, none⟩) (l.length + 1) cap) (l ++ [b]) → Below base w w' → wpList Try.prog ops Q rest (a.put o.dst (.slice (some ⟨g', 0, none⟩) (l.length + 1) cap)) w') : wpList Try.prog ops Q (o :: rest) a w := by
  refine app1 w hgd s x 22 ho base 5 (.int .u8 0) 1 Try.underlying22 Try.info_u8 rfl v l.length (l.map bv) hs hown g (bv b) hx hc rfl (by unfold maxLen; omega) (by omega) hbase fun v' w' h1 h2 => ?_
  have h3 := h1
  rcases h3.2 with ⟨_, h0⟩ | ⟨g', cap, cur, rfl, _⟩
  · omega
  · exact h g' cap w' (by unfold OwnB; simpa using h1) h2

theorem OwnB.form {w : World} {base : Nat} {v : Value} {l : List UInt8} (h : OwnB w base v l) (hl : 0 < l.length) :
    ∃ g cap, v = .slice (some ⟨g, 0, none⟩) l.length cap ∧ base ≤ g ∧ g < w.heap.size ∧ l.length ≤ cap := by
  rcases h.2 with ⟨_, h0⟩ | ⟨g, cap, cur, rfl, hb, hg, hc, _⟩
  · omega
  · exact ⟨g, cap, rfl, hb, (Array.getElem?_eq_some_iff.1 hg).1, hc⟩

theorem OwnB.cell {w : World} {base g n cap : Nat} {l : List UInt8} (h : OwnB w base (.slice (some ⟨g, 0, none⟩) n cap) l) (i : Nat) (hi : i < l.length) : w.cell? ⟨g, i, none⟩ = some (bv l[i]) := by
  obtain ⟨A, c, hv, _, _, hb⟩ := h.isB
  injection hv with e1 e2 e3
  subst e1
  obtain ⟨p, o, hA, hc⟩ := hb i l[i] (List.getElem?_eq_getElem hi)
  injection hA with e
  injection e with e1 e2 _
  subst e1; subst e2
  simpa using hc

theorem OwnB.len {w : World} {base g n cap : Nat} {A : Option Addr} {l : List UInt8} (h : OwnB w base (.slice A n cap) l) : n = l.length := by
  obtain ⟨A, c, hv, _⟩ := h.isB
  injection hv

theorem OwnB.frozen {w : World} {base g n cap : Nat} {l : List UInt8} (h : OwnB w base (.slice (some ⟨g, 0, none⟩) n cap) l) (i : Nat) : w.frozen? ⟨g, i, none⟩ = false := by
  have hn : n = l.length := h.len (g := g)
  subst hn
  exact World.ownsRow.frozenAt h i

theorem OwnB.set {w : World} {base g n cap : Nat} {l : List UInt8} (h : OwnB w base (.slice (some ⟨g, 0, none⟩) n cap) l) (i : Nat) (x : UInt8) :
    OwnB (w.setCell ⟨g, i, none⟩ (bv x)) base (.slice (some ⟨g, 0, none⟩) n cap) (l.set i x) := by
  have hn : n = l.length := h.len (g := g)
  subst hn
  have h1 := World.ownsRow.stored h i (bv x)
  unfold OwnB
  rw [List.map_set, List.length_set]
  exact h1.1

theorem OwnB.base {w : World} {base g n cap : Nat} {l : List UInt8} (h : OwnB w base (.slice (some ⟨g, 0, none⟩) n cap) l) (hl : 0 < l.length) : base ≤ g := by
  obtain ⟨g', cap', hv, hb, _⟩ := h.form hl
  injection hv with e
  injection e with e
  injection e with e _ _
  omega

/-- a store elsewhere -/
theorem OwnB.far {w : World} {base : Nat} {v : Value} {l : List UInt8} (h : OwnB w base v l) {p : Addr} (hp : v.ownBlock ≠ some p.block) (u : Value) : OwnB (w.setCell p u) base v l :=
  World.ownsRow.kept (row := some p.block) h ⟨rfl, rfl, rfl, by simp [World.setCell], fun k _ hk => Below.heap_setCell w p u k (fun e => hk (by rw [e]))⟩ (.inr hp)

theorem OwnB.ne {w : World} {base : Nat} {v : Value} {l : List UInt8} (h : OwnB w base v l) {k : Nat} (hk : k < base) : v.ownBlock ≠ some k := by
  intro e
  have := (World.ownsRow.lt h k e).1
  omega

theorem OwnB.drew {w : World} {base : Nat} {v : Value} {l : List UInt8} (h : OwnB w base v l) : OwnB w.drew base v l := h

theorem OwnB.lt {w : World} {base g n cap : Nat} {l : List UInt8} (h : OwnB w base (.slice (some ⟨g, 0, none⟩) n cap) l) : base ≤ g ∧ g < w.heap.size := World.ownsRow.lt h g rfl

/-- 'make([]byte, n)' -/
theorem mkB (w : World) {ops : Array Oper} {rest : List Oper} {o : Oper} {a : Act} {Q : Exit → Act → World → Prop} (hgd : o.guard = none) (lo co : Operand)
    (ho : o.op = Op.makeSlice 22 lo co) (base n : Nat) (hl : a.eval lo = .int .i64 n) (hc : a.eval co = .int .i64 n) (hn : n ≤ 140737488355328) (hbase : base ≤ w.heap.size)
    (h : ∀ w', OwnB w' base (.slice (some ⟨w.heap.size, 0, none⟩) n n) (List.replicate n 0) → Below w.heap.size w w' → wpList Try.prog ops Q rest (a.put o.dst (.slice (some ⟨w.heap.size, 0, none⟩) n n)) w') : wpList Try.prog ops Q (o :: rest) a w := by
  obtain ⟨i, hi, hz, hsz, hby⟩ := info_parts Try.info_u8
  refine wpList_make_full w hgd lo co 22 ho base 5 i (.int .u8 0) 1 Try.underlying22 hi hz hsz .i64 .i64 n n n hl hc rfl rfl (by rw [hby]; omega) (by unfold maxLen; omega) hbase fun w' h1 h2 => h w' ?_ ?_
  · unfold OwnB
    rw [List.length_replicate, List.map_replicate]
    have e : (madeCells (Value.int .u8 0).cells (n * 1)).toList = List.replicate n (bv 0) := by rw [Nat.mul_one]; exact toList_madeCells_one _ _
    rw [e] at h1
    exact h1
  · exact (Below.refl _ _).grown h2 (Nat.le_refl _) (fun k hk => by cases hk)

/-- 'copy(b, x)', b of the call's own, x not longer -/
theorem copyB (w : World) {ops : Array Oper} {rest : List Oper} {o : Oper} {a : Act} {Q : Exit → Act → World → Prop} (hgd : o.guard = none) (d s : Operand)
    (ho : o.op = .call { callee := .builtin .copy, args := #[d, s], argTypes := #[22, 22] }) (base g n cap : Nat) (L : List UInt8) (hd : a.eval d = .slice (some ⟨g, 0, none⟩) n cap)
    (hown : OwnB w base (.slice (some ⟨g, 0, none⟩) n cap) L) (A : Option Addr) (c : Nat) (l : List UInt8) (hs : a.eval s = .slice A l.length c) (hb : Bs w A l) (hln : l.length ≤ n)
    (h : ∀ w', OwnB w' base (.slice (some ⟨g, 0, none⟩) n cap) (l ++ L.drop l.length) → Below base w w' → g < w'.heap.size → wpList Try.prog ops Q rest (a.put o.dst (goInt l.length)) w') : wpList Try.prog ops Q (o :: rest) a w := by
  have hnL : n = L.length := hown.len (g := g)
  have hlt := hown.lt
  rcases hown.2 with ⟨h0, _⟩ | ⟨g', cap', cur, h', hb', hg, hnc, hcm, hcs, htake⟩
  · cases h0
  · injection h' with e1 e2 e3
    injection e1 with e1
    injection e1 with e1 _ _
    subst e1; subst e3
    have hcsz : cur.toList.length = cap := by rw [Array.length_toList, hcs, Nat.mul_one]
    refine wpList_copy_splice hgd d s 22 22 ho 5 Try.underlying22 (by have := Try.info_u8; simp only [Option.map_eq_some_iff, Prod.mk.injEq] at this ⊢; obtain ⟨i, hi, _, h2, _⟩ := this; exact ⟨i, hi, h2⟩) (some ⟨g, 0, none⟩) A n cap l.length c hd hs g 0 cur.toList 5 (by simpa using hg) (l.map bv) (by rw [List.length_map]; exact (Nat.min_eq_left hln).symm) ?_ ?_ ?_ base w (Below.refl _ _) hb' ?_
    · intro hpos
      rw [List.length_map] at hpos
      obtain ⟨p, o, rfl, _, hc⟩ := hb.at_ hpos
      refine ⟨rfl, _, rfl, fun j v hj => ?_⟩
      rw [List.getElem?_map] at hj
      obtain ⟨b, hjb, rfl⟩ := Option.map_eq_some_iff.1 hj
      obtain ⟨hjl, rfl⟩ := List.getElem?_eq_some_iff.1 hjb
      have := hc j hjl
      unfold Addr.add
      split
      · rename_i h0; subst h0; simpa using this
      · exact this
    · rw [List.length_map, hcsz, Nat.zero_add]; omega
    · intro v hv
      obtain ⟨b, _, rfl⟩ := List.mem_map.1 hv
      rfl
    · intro w' hh hbel
      rw [List.length_map]
      have hlenL : (l ++ L.drop l.length).length = L.length := by rw [List.length_append, List.length_drop]; omega
      refine h w' ⟨by rw [List.length_map, Nat.mul_one], .inr ⟨g, cap, (splice cur.toList 0 (l.map bv)).toArray, by rw [hlenL, hnL], hb', hh.out, by omega, hcm, ?_, ?_⟩⟩ hbel ?_
      · rw [List.size_toArray, length_splice _ _ _ (by rw [List.length_map, hcsz]; omega), hcsz, Nat.mul_one]
      · rw [hlenL]
        simp only [splice, List.take_zero, List.nil_append, Nat.zero_add, List.length_map, Nat.mul_one] at htake ⊢
        rw [List.take_append, List.length_map, List.take_of_length_le (by rw [List.length_map]; omega), List.map_append, List.map_drop, ← htake, List.take_drop, List.drop_take]
        congr 2
        rw [List.drop_take]
        congr 1
        omega
      · have := hh.out
        rcases Nat.lt_or_ge g w'.heap.size with h1 | h1
        · exact h1
        · rw [Array.getElem?_eq_none h1] at this; cases this

/-- 'string(b)' -/
theorem str_of {w : World} {A : Option Addr} {l : List UInt8} (h : Bs w A l) (c : Nat) : (convert 22 9 (.slice A l.length c)).run Try.prog w = .ok (.string ⟨l.toArray⟩) w := by
  rcases Nat.eq_zero_or_pos l.length with h0 | h0
  · have : l = [] := List.eq_nil_of_length_eq_zero h0
    subst this
    rcases A with _ | a
    · exact run_convert_bytes_nil w _ _ Try.underlying22 Try.underlying5 _ _ _ Try.underlying9
    · exact run_convert_bytes_back w _ _ _ a c [] Try.underlying22 Try.underlying5 Try.underlying9 (fun j hj => by simp at hj)
  · obtain ⟨p, o, rfl, _, hc⟩ := h.at_ h0
    refine run_convert_bytes_back w _ _ _ _ c l Try.underlying22 Try.underlying5 Try.underlying9 (fun j hj => ?_)
    have := hc j hj
    unfold Addr.add
    split
    · rename_i h0; subst h0; simpa using this
    · exact this

/-- what a slice of the call's own reads as -/
theorem OwnB.bs {w : World} {base n c : Nat} {A : Option Addr} {l : List UInt8} (h : OwnB w base (.slice A n c) l) : Bs w A l := by
  obtain ⟨A', c', hv, _, _, hb⟩ := h.isB
  injection hv with e1 _ _
  subst e1
  exact hb

section
variable {w W w' : World}
theorem OwnB.go [u : Up w W] {base : Nat} {v : Value} {l : List UInt8} (b : OwnB w base v l) (h : Below W.heap.size W w') : OwnB w' base v l := own_below b (go1 h)
theorem OwnB.up [u : Up w W] {base : Nat} {v : Value} {l : List UInt8} (b : OwnB w base v l) : OwnB W base v l := own_below b u.below
end

end Go.Proofs.Ytanenfbfcbkdhaa
