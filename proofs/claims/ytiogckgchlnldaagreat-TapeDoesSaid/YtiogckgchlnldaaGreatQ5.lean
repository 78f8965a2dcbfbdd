/- Joined: Up, Own, Row, Kp, Kq, App, MakR. -/
import Derived.Test.YtiogckgchlnldaaGreatQ4
import Derived.Laws.Rows
import Derived.Laws.ResultCell
set_option linter.unusedSimpArgs false
set_option linter.unusedVariables false
/- Facts that are carried from world to world: new blocks, draws, and a call that changes nothing that was there. -/
set_option linter.unusedSimpArgs false
set_option linter.unusedVariables false
namespace Go.Proofs.YtiogckgchlnldaaGreat
open Go.RowKit

class Up (w W : World) : Prop where
  below : Below w.heap.size w W
instance Up.rfl {w : World} : Up w w := ⟨Below.refl _ _⟩
instance Up.alloc {w W : World} {o : Obj} [h : Up w W] : Up w (W.alloc o) := ⟨h.below.alloc h.below.size _⟩
instance Up.drew {w W : World} [h : Up w W] : Up w W.drew := ⟨h.below.drew⟩
instance Up.drewN {w W : World} {n : Nat} [h : Up w W] : Up w (W.drewN n) := ⟨below_drewN h.below n⟩

section
variable {w W w' : World}
theorem on (t : Below w.heap.size w w') {w2 : World} [u : Up w' W] (h : Below W.heap.size W w2) : Below w.heap.size w w2 := (t.trans (u.below.mono t.size)).trans (h.mono (by have := t.size; have := u.below.size; omega))
theorem go1 [u : Up w W] (h : Below W.heap.size W w') : Below w.heap.size w w' := u.below.trans (h.mono u.below.size)
theorem cel [u : Up w W] (h : Below W.heap.size W w') {a : Addr} {v : Value} (c : w.cell? a = some v) : w'.cell? a = some v := ((go1 h).cell (cell_lt c)).trans c
theorem box [u : Up w W] (h : Below W.heap.size W w') {a b : Addr} {x y : Value} (c : w.cell? a = some x ∧ w.cell? b = some y) : w'.cell? a = some x ∧ w'.cell? b = some y := ⟨cel h c.1, cel h c.2⟩
theorem Bs.go [u : Up w W] {A : Option Addr} {l : List UInt8} (b : Bs w A l) (h : Below W.heap.size W w') : Bs w' A l := b.below (go1 h)
theorem Bs.up [u : Up w W] {A : Option Addr} {l : List UInt8} (b : Bs w A l) : Bs W A l := b.below u.below
theorem onA (t : Below w.heap.size w w') [u : Up w' W] : Below w.heap.size w W := t.trans (u.below.mono t.size)
theorem Bs.on {A : Option Addr} {l : List UInt8} (b : Bs w A l) (t : Below w.heap.size w w') [u : Up w' W] : Bs W A l := b.below (onA t)
/-- a block that was laid, with one more behind it, or two, known behind a call -/
theorem boxN2 {t : TypeId} {x y : Value} {o : Obj} (h : Below ((w.alloc (.cells #[x, y] t)).alloc o).heap.size ((w.alloc (.cells #[x, y] t)).alloc o) w') : w'.cell? ⟨w.heap.size, 0, none⟩ = some x ∧ w'.cell? ⟨w.heap.size, 1, none⟩ = some y :=
  box h ⟨box_cell w #[x, y] t 0 x rfl, box_cell w #[x, y] t 1 y rfl⟩
theorem boxN3 {t : TypeId} {x y : Value} {o o2 : Obj} (h : Below (((w.alloc (.cells #[x, y] t)).alloc o).alloc o2).heap.size (((w.alloc (.cells #[x, y] t)).alloc o).alloc o2) w') : w'.cell? ⟨w.heap.size, 0, none⟩ = some x ∧ w'.cell? ⟨w.heap.size, 1, none⟩ = some y :=
  box h ⟨box_cell w #[x, y] t 0 x rfl, box_cell w #[x, y] t 1 y rfl⟩
end

theorem Blk.duo {w : World} {g : Nat} {t : TypeId} {x y : Value} (h : Blk w g t #[x, y]) :
    (w.cell? ⟨g, 0, none⟩ = some x ∧ w.cell? ⟨g, 1, none⟩ = some y) ∧ (w.frozen? ⟨g, 0, none⟩ = false ∧ w.frozen? ⟨g, 1, none⟩ = false) := ⟨⟨h.cell 0, h.cell 1⟩, h.frozen 0, h.frozen 1⟩
theorem Blk.tri {w : World} {g : Nat} {t : TypeId} {x y z : Value} (h : Blk w g t #[x, y, z]) :
    (w.cell? ⟨g, 0, none⟩ = some x ∧ w.cell? ⟨g, 1, none⟩ = some y ∧ w.cell? ⟨g, 2, none⟩ = some z) ∧ (w.frozen? ⟨g, 0, none⟩ = false ∧ w.frozen? ⟨g, 1, none⟩ = false ∧ w.frozen? ⟨g, 2, none⟩ = false) :=
  ⟨⟨h.cell 0, h.cell 1, h.cell 2⟩, h.frozen 0, h.frozen 1, h.frozen 2⟩
theorem keepF (w : World) (o : Obj) (a : Addr) (h : (w.cell? a).isSome = true) : (w.alloc o).frozen? a = w.frozen? a := by
  obtain ⟨v, hv⟩ := Option.isSome_iff_exists.1 h
  exact (below_alloc w o).frozen (cell_lt hv)
theorem Blk.go {w W w' : World} {g : Nat} {t : TypeId} {cs : Array Value} [u : Up w W] (h : Blk w g t cs) (hb : Below W.heap.size W w') : Blk w' g t cs := h.below (go1 hb) h.lt
theorem Blk.up {w W : World} {g : Nat} {t : TypeId} {cs : Array Value} [u : Up w W] (h : Blk w g t cs) : Blk W g t cs := h.below u.below h.lt

theorem Blk.set {w : World} {g : Nat} {t : TypeId} {cs : Array Value} (h : Blk w g t cs) (i : Nat) (v : Value) : Blk (w.setCell ⟨g, i, none⟩ v) g t (cs.setIfInBounds i v) := heap_setCell_same w g i cs t v h
theorem Blk.far {w : World} {g : Nat} {t : TypeId} {cs : Array Value} (h : Blk w g t cs) (a : Addr) (v : Value) (hne : g ≠ a.block) : Blk (w.setCell a v) g t cs := (heap_setCell_other w a g v hne).trans h
theorem Blk.drew {w : World} {g : Nat} {t : TypeId} {cs : Array Value} (h : Blk w g t cs) : Blk w.drew g t cs := h
theorem Blk.set2 {w : World} {g : Nat} {t : TypeId} {x y : Value} (h : Blk w g t #[x, y]) (a b : Value) : Blk ((w.setCell ⟨g, 0, none⟩ a).setCell ⟨g, 1, none⟩ b) g t #[a, b] := by simpa using (h.set 0 a).set 1 b
theorem Blk.set3 {w : World} {g : Nat} {t : TypeId} {x y z : Value} (h : Blk w g t #[x, y, z]) (a b c : Value) : Blk (((w.setCell ⟨g, 0, none⟩ a).setCell ⟨g, 1, none⟩ b).setCell ⟨g, 2, none⟩ c) g t #[a, b, c] := by simpa using ((h.set 0 a).set 1 b).set 2 c

theorem results_row_tmp {P : Program} {fn : Func} {p u : Tmp} {ty : TypeId} (h : fn.results = #[.cell p ty, .tmp u]) (tmps : Array Value) (w : World) (g : Nat) (t : TypeId) (cs : Array Value) (d : TypeDesc)
    (hp : tmps.getD p undef = .pointer (some ⟨g, 0, none⟩)) (hg : Blk w g t cs)
    (hu : P.underlying ty = some d) (hd : (match d with | .struct _ | .array _ _ => true | _ => false) = true) (hi : (P.info? ty).map (·.size) = some cs.size) (v : Value) (hv : tmps.getD u undef = v) :
    (results fn tmps).run P w = .ok (.tuple #[.agg cs, v]) w := by
  subst hv
  rw [results_cell_tmp h, hp]
  simp [asAddr, run_loadVar_row w g t ty cs (0, 0) d hg hu hd hi]

end Go.Proofs.YtiogckgchlnldaaGreat

/-
  A slice of bytes of the call's own: what is made, appended to, stored into; kept while the world grows.
-/
namespace Go.Proofs.YtiogckgchlnldaaGreat
open Go.RowKit

/-- bytes of the call's own -/
def OwnB (w : World) (base : Nat) (v : Value) (l : List UInt8) : Prop := w.ownsRow base 5 1 v l.length (l.map bv)

/-- a value that reads as bytes -/
def IsB (w : World) (v : Value) (l : List UInt8) : Prop := ∃ A c, v = .slice A l.length c ∧ l.length ≤ c ∧ c ≤ maxLen ∧ Bs w A l

theorem IsB.below {w w' : World} {v : Value} {l : List UInt8} (h : IsB w v l) (hb : Below w.heap.size w w') : IsB w' v l := by
  obtain ⟨A, c, h1, h2, h3, h4⟩ := h
  exact ⟨A, c, h1, h2, h3, h4.below hb⟩

theorem OwnB.below {w w' : World} {base : Nat} {v : Value} {l : List UInt8} (h : OwnB w base v l) (hb : Below w.heap.size w w') : OwnB w' base v l := own_below h hb
theorem OwnB.mono {w : World} {base base' : Nat} {v : Value} {l : List UInt8} (h : OwnB w base v l) (hb : base' ≤ base) : OwnB w base' v l := own_mono h hb
theorem OwnB.nil (w : World) (base : Nat) : OwnB w base (.slice none 0 0) [] := World.ownsRow_nil _ _ _ _

theorem OwnB.isB {w : World} {base : Nat} {v : Value} {l : List UInt8} (h : OwnB w base v l) : IsB w v l := by
  rcases h.2 with ⟨rfl, h0⟩ | ⟨g, cap, cur, rfl, hbg, hgg, hn, hm, hs, ht⟩
  · have : l = [] := List.eq_nil_of_length_eq_zero h0
    subst this
    exact ⟨none, 0, rfl, Nat.le_refl _, Nat.zero_le _, Bs.nil _ _⟩
  · refine ⟨some ⟨g, 0, none⟩, cap, rfl, hn, hm, fun i b hi => ⟨g, 0, rfl, ?_⟩⟩
    rw [Nat.zero_add, cell_of_row w g i cur _ (0, 0) hgg]
    have h2 : (cur.toList.take (l.length * 1))[i]? = some (bv b) := by rw [ht, List.getElem?_map, hi]; rfl
    rw [List.getElem?_take] at h2
    split at h2
    · simpa using h2
    · cases h2

theorem Tryz.info_u8 : (Tryz.prog.info? 5).map (fun i => (i.zero, i.size, i.bytes)) = some (some (.int .u8 0), 1, 1) := by kernel_rfl

theorem OwnB.alloc {w : World} {base : Nat} {v : Value} {l : List UInt8} (h : OwnB w base v l) (o : Obj) : OwnB (w.alloc o) base v l := World.ownsRow.alloc h o

/-- 'append(out, b)' of one byte -/
theorem appB (w : World) {ops : Array Oper} {rest : List Oper} {o : Oper} {a : Act} {Q : Exit → Act → World → Prop} (hgd : o.guard = none) (s x : Operand)
    (ho : o.op = .call { callee := .builtin .append, args := #[s, x], argTypes := #[22, 22] })
    (base : Nat) (v : Value) (l : List UInt8) (hs : a.eval s = v) (hown : OwnB w base v l)
    (g : Nat) (b : UInt8) (hx : a.eval x = .slice (some ⟨g, 0, none⟩) 1 1) (hc : w.cell? ⟨g, 0, none⟩ = some (bv b)) (hlen : l.length + 1 ≤ 140737488355328) (hbase : base ≤ w.heap.size)
    (h : ∀ g' cap w', OwnB w' base (.slice (some ⟨g', 0, none⟩) (l.length + 1) cap) (l ++ [b]) → Below base w w' → wpList Tryz.prog ops Q rest (a.put o.dst (.slice (some ⟨g', 0, none⟩) (l.length + 1) cap)) w') : wpList Tryz.prog ops Q (o :: rest) a w := by
  refine app1 w hgd s x 22 ho base 5 (.int .u8 0) 1 Tryz.underlying22 Tryz.info_u8 rfl v l.length (l.map bv) hs hown g (bv b) hx hc rfl (by unfold maxLen; omega) (by omega) hbase fun v' w' h1 h2 => ?_
  have h3 := h1
  rcases h3.2 with ⟨_, h0⟩ | ⟨g', cap, cur, rfl, _⟩
  · omega
  · exact h g' cap w' (by unfold OwnB; simpa using h1) h2

theorem OwnB.form {w : World} {base : Nat} {v : Value} {l : List UInt8} (h : OwnB w base v l) (hl : 0 < l.length) :
    ∃ g cap, v = .slice (some ⟨g, 0, none⟩) l.length cap ∧ base ≤ g ∧ g < w.heap.size ∧ l.length ≤ cap := by
  rcases h.2 with ⟨_, h0⟩ | ⟨g, cap, cur, rfl, hb, hg, hc, _⟩
  · omega
  · exact ⟨g, cap, rfl, hb, (Array.getElem?_eq_some_iff.1 hg).1, hc⟩

theorem OwnB.cell {w : World} {base g n cap : Nat} {l : List UInt8} (h : OwnB w base (.slice (some ⟨g, 0, none⟩) n cap) l) (i : Nat) (hi : i < l.length) : w.cell? ⟨g, i, none⟩ = some (bv l[i]) := by
  obtain ⟨A, c, hv, _, _, hb⟩ := h.isB
  injection hv with e1 e2 e3
  subst e1
  obtain ⟨p, o, hA, hc⟩ := hb i l[i] (List.getElem?_eq_getElem hi)
  injection hA with e
  injection e with e1 e2 _
  subst e1; subst e2
  simpa using hc

theorem OwnB.len {w : World} {base g n cap : Nat} {A : Option Addr} {l : List UInt8} (h : OwnB w base (.slice A n cap) l) : n = l.length := by
  obtain ⟨A, c, hv, _⟩ := h.isB
  injection hv

theorem OwnB.frozen {w : World} {base g n cap : Nat} {l : List UInt8} (h : OwnB w base (.slice (some ⟨g, 0, none⟩) n cap) l) (i : Nat) : w.frozen? ⟨g, i, none⟩ = false := by
  have hn : n = l.length := h.len (g := g)
  subst hn
  exact World.ownsRow.frozenAt h i

theorem OwnB.set {w : World} {base g n cap : Nat} {l : List UInt8} (h : OwnB w base (.slice (some ⟨g, 0, none⟩) n cap) l) (i : Nat) (x : UInt8) :
    OwnB (w.setCell ⟨g, i, none⟩ (bv x)) base (.slice (some ⟨g, 0, none⟩) n cap) (l.set i x) := by
  have hn : n = l.length := h.len (g := g)
  subst hn
  have h1 := World.ownsRow.stored h i (bv x)
  unfold OwnB
  rw [List.map_set, List.length_set]
  exact h1.1

theorem OwnB.base {w : World} {base g n cap : Nat} {l : List UInt8} (h : OwnB w base (.slice (some ⟨g, 0, none⟩) n cap) l) (hl : 0 < l.length) : base ≤ g := by
  obtain ⟨g', cap', hv, hb, _⟩ := h.form hl
  injection hv with e
  injection e with e
  injection e with e _ _
  omega

/-- a store elsewhere -/
theorem OwnB.far {w : World} {base : Nat} {v : Value} {l : List UInt8} (h : OwnB w base v l) {p : Addr} (hp : v.ownBlock ≠ some p.block) (u : Value) : OwnB (w.setCell p u) base v l :=
  World.ownsRow.kept (row := some p.block) h ⟨rfl, rfl, rfl, by simp [World.setCell], fun k _ hk => Below.heap_setCell w p u k (fun e => hk (by rw [e]))⟩ (.inr hp)

theorem OwnB.ne {w : World} {base : Nat} {v : Value} {l : List UInt8} (h : OwnB w base v l) {k : Nat} (hk : k < base) : v.ownBlock ≠ some k := by
  intro e
  have := (World.ownsRow.lt h k e).1
  omega

theorem OwnB.drew {w : World} {base : Nat} {v : Value} {l : List UInt8} (h : OwnB w base v l) : OwnB w.drew base v l := h

theorem OwnB.lt {w : World} {base g n cap : Nat} {l : List UInt8} (h : OwnB w base (.slice (some ⟨g, 0, none⟩) n cap) l) : base ≤ g ∧ g < w.heap.size := World.ownsRow.lt h g rfl

/-- 'make([]byte, n)' -/
theorem mkB (w : World) {ops : Array Oper} {rest : List Oper} {o : Oper} {a : Act} {Q : Exit → Act → World → Prop} (hgd : o.guard = none) (lo co : Operand)
    (ho : o.op = Op.makeSlice 22 lo co) (base n : Nat) (hl : a.eval lo = .int .i64 n) (hc : a.eval co = .int .i64 n) (hn : n ≤ 140737488355328) (hbase : base ≤ w.heap.size)
    (h : ∀ w', OwnB w' base (.slice (some ⟨w.heap.size, 0, none⟩) n n) (List.replicate n 0) → Below w.heap.size w w' → wpList Tryz.prog ops Q rest (a.put o.dst (.slice (some ⟨w.heap.size, 0, none⟩) n n)) w') : wpList Tryz.prog ops Q (o :: rest) a w := by
  obtain ⟨i, hi, hz, hsz, hby⟩ := info_parts Tryz.info_u8
  refine wpList_make_full w hgd lo co 22 ho base 5 i (.int .u8 0) 1 Tryz.underlying22 hi hz hsz .i64 .i64 n n n hl hc rfl rfl (by rw [hby]; omega) (by unfold maxLen; omega) hbase fun w' h1 h2 => h w' ?_ ?_
  · unfold OwnB
    rw [List.length_replicate, List.map_replicate]
    have e : (madeCells (Value.int .u8 0).cells (n * 1)).toList = List.replicate n (bv 0) := by rw [Nat.mul_one]; exact toList_madeCells_one _ _
    rw [e] at h1
    exact h1
  · exact (Below.refl _ _).grown h2 (Nat.le_refl _) (fun k hk => by cases hk)

/-- 'copy(b, x)', b of the call's own, x not longer -/
theorem copyB (w : World) {ops : Array Oper} {rest : List Oper} {o : Oper} {a : Act} {Q : Exit → Act → World → Prop} (hgd : o.guard = none) (d s : Operand)
    (ho : o.op = .call { callee := .builtin .copy, args := #[d, s], argTypes := #[22, 22] }) (base g n cap : Nat) (L : List UInt8) (hd : a.eval d = .slice (some ⟨g, 0, none⟩) n cap)
    (hown : OwnB w base (.slice (some ⟨g, 0, none⟩) n cap) L) (A : Option Addr) (c : Nat) (l : List UInt8) (hs : a.eval s = .slice A l.length c) (hb : Bs w A l) (hln : l.length ≤ n)
    (h : ∀ w', OwnB w' base (.slice (some ⟨g, 0, none⟩) n cap) (l ++ L.drop l.length) → Below base w w' → g < w'.heap.size → wpList Tryz.prog ops Q rest (a.put o.dst (goInt l.length)) w') : wpList Tryz.prog ops Q (o :: rest) a w := by
  have hnL : n = L.length := hown.len (g := g)
  have hlt := hown.lt
  rcases hown.2 with ⟨h0, _⟩ | ⟨g', cap', cur, h', hb', hg, hnc, hcm, hcs, htake⟩
  · cases h0
  · injection h' with e1 e2 e3
    injection e1 with e1
    injection e1 with e1 _ _
    subst e1; subst e3
    have hcsz : cur.toList.length = cap := by rw [Array.length_toList, hcs, Nat.mul_one]
    refine wpList_copy_splice hgd d s 22 22 ho 5 Tryz.underlying22 (by have := Tryz.info_u8; simp only [Option.map_eq_some_iff, Prod.mk.injEq] at this ⊢; obtain ⟨i, hi, _, h2, _⟩ := this; exact ⟨i, hi, h2⟩) (some ⟨g, 0, none⟩) A n cap l.length c hd hs g 0 cur.toList 5 (by simpa using hg) (l.map bv) (by rw [List.length_map]; exact (Nat.min_eq_left hln).symm) ?_ ?_ ?_ base w (Below.refl _ _) hb' ?_
    · intro hpos
      rw [List.length_map] at hpos
      obtain ⟨p, o, rfl, _, hc⟩ := hb.at_ hpos
      refine ⟨rfl, _, rfl, fun j v hj => ?_⟩
      rw [List.getElem?_map] at hj
      obtain ⟨b, hjb, rfl⟩ := Option.map_eq_some_iff.1 hj
      obtain ⟨hjl, rfl⟩ := List.getElem?_eq_some_iff.1 hjb
      have := hc j hjl
      unfold Addr.add
      split
      · rename_i h0; subst h0; simpa using this
      · exact this
    · rw [List.length_map, hcsz, Nat.zero_add]; omega
    · intro v hv
      obtain ⟨b, _, rfl⟩ := List.mem_map.1 hv
      rfl
    · intro w' hh hbel
      rw [List.length_map]
      have hlenL : (l ++ L.drop l.length).length = L.length := by rw [List.length_append, List.length_drop]; omega
      refine h w' ⟨by rw [List.length_map, Nat.mul_one], .inr ⟨g, cap, (splice cur.toList 0 (l.map bv)).toArray, by rw [hlenL, hnL], hb', hh.out, by omega, hcm, ?_, ?_⟩⟩ hbel ?_
      · rw [List.size_toArray, length_splice _ _ _ (by rw [List.length_map, hcsz]; omega), hcsz, Nat.mul_one]
      · rw [hlenL]
        simp only [splice, List.take_zero, List.nil_append, Nat.zero_add, List.length_map, Nat.mul_one] at htake ⊢
        rw [List.take_append, List.length_map, List.take_of_length_le (by rw [List.length_map]; omega), List.map_append, List.map_drop, ← htake, List.take_drop, List.drop_take]
        congr 2
        rw [List.drop_take]
        congr 1
        omega
      · have := hh.out
        rcases Nat.lt_or_ge g w'.heap.size with h1 | h1
        · exact h1
        · rw [Array.getElem?_eq_none h1] at this; cases this

/-- 'string(b)' -/
theorem str_of {w : World} {A : Option Addr} {l : List UInt8} (h : Bs w A l) (c : Nat) : (convert 22 9 (.slice A l.length c)).run Tryz.prog w = .ok (.string ⟨l.toArray⟩) w := by
  rcases Nat.eq_zero_or_pos l.length with h0 | h0
  · have : l = [] := List.eq_nil_of_length_eq_zero h0
    subst this
    rcases A with _ | a
    · exact run_convert_bytes_nil w _ _ Tryz.underlying22 Tryz.underlying5 _ _ _ Tryz.underlying9
    · exact run_convert_bytes_back w _ _ _ a c [] Tryz.underlying22 Tryz.underlying5 Tryz.underlying9 (fun j hj => by simp at hj)
  · obtain ⟨p, o, rfl, _, hc⟩ := h.at_ h0
    refine run_convert_bytes_back w _ _ _ _ c l Tryz.underlying22 Tryz.underlying5 Tryz.underlying9 (fun j hj => ?_)
    have := hc j hj
    unfold Addr.add
    split
    · rename_i h0; subst h0; simpa using this
    · exact this

/-- what a slice of the call's own reads as -/
theorem OwnB.bs {w : World} {base n c : Nat} {A : Option Addr} {l : List UInt8} (h : OwnB w base (.slice A n c) l) : Bs w A l := by
  obtain ⟨A', c', hv, _, _, hb⟩ := h.isB
  injection hv with e1 _ _
  subst e1
  exact hb

section
variable {w W w' : World}
theorem OwnB.go [u : Up w W] {base : Nat} {v : Value} {l : List UInt8} (b : OwnB w base v l) (h : Below W.heap.size W w') : OwnB w' base v l := own_below b (go1 h)
theorem OwnB.up [u : Up w W] {base : Nat} {v : Value} {l : List UInt8} (b : OwnB w base v l) : OwnB W base v l := own_below b u.below
end

end Go.Proofs.YtiogckgchlnldaaGreat

/-
  Rows of elements of several cells each: as a slice reads them, and as the call's own; append of one and of many.
-/
set_option linter.unusedSimpArgs false
set_option linter.unusedVariables false
namespace Go.Proofs.YtiogckgchlnldaaGreat
open Go.RowKit

section
variable {α : Type}

/-- the cells from V on hold the elements, sz cells each -/
def Rw (w : World) (enc : α → List Value) (sz : Nat) (V : Option Addr) (l : List α) : Prop :=
  ∀ i x, l[i]? = some x → ∃ p o, V = some ⟨p, o, none⟩ ∧ ∀ j v, (enc x)[j]? = some v → w.cell? ⟨p, o + i * sz + j, none⟩ = some v
theorem Rw.below {w w' : World} {enc : α → List Value} {sz B : Nat} {V : Option Addr} {l : List α} (h : Rw w enc sz V l) (hb : Below B w w') (hB : w.heap.size ≤ B) : Rw w' enc sz V l := fun i x hi => by
  obtain ⟨p, o, hV, hc⟩ := h i x hi
  exact ⟨p, o, hV, fun j v hj => (hb.cell (Nat.lt_of_lt_of_le (cell_lt (hc j v hj)) hB)).trans (hc j v hj)⟩
theorem Rw.nil (w : World) (enc : α → List Value) (sz : Nat) (V : Option Addr) : Rw w enc sz V [] := fun i x h => by simp at h
theorem Rw.none {w : World} {enc : α → List Value} {sz : Nat} {l : List α} (h : Rw w enc sz none l) : l = [] := by
  cases l with
  | nil => rfl
  | cons x l => obtain ⟨p, o, hV, _⟩ := h 0 x rfl; cases hV

/-- a slice's type whose elements have sz cells -/
structure Elt (P : Program) (t e : TypeId) (enc : α → List Value) (sz bytes : Nat) : Prop where
  under : P.underlying t = some (.slice e)
  info : ∃ z, (P.info? e).map (fun i => (i.zero, i.size, i.bytes)) = some (some z, sz, bytes) ∧ z.cells.size = sz
  pos : 0 < sz
  len : ∀ x, (enc x).length = sz
  one : ∀ x, ∀ v ∈ enc x, v.oneCell' = true

theorem flat_get (enc : α → List Value) (sz : Nat) (hlen : ∀ x, (enc x).length = sz) : ∀ (l : List α) (i : Nat) (x : α), l[i]? = some x → ∀ j, j < sz → (l.flatMap enc)[i * sz + j]? = (enc x)[j]?
  | [], i, x, h, j, hj => by simp at h
  | y :: l, 0, x, h, j, hj => by
    simp at h
    subst h
    rw [List.flatMap_cons, Nat.zero_mul, Nat.zero_add, List.getElem?_append_left (by rw [hlen]; exact hj)]
  | y :: l, i + 1, x, h, j, hj => by
    have e : (i + 1) * sz + j = sz + (i * sz + j) := by rw [Nat.succ_mul]; omega
    rw [List.flatMap_cons, e, List.getElem?_append_right (by rw [hlen]; omega), hlen, Nat.add_sub_cancel_left]
    exact flat_get enc sz hlen l i x (by simpa using h) j hj
theorem flat_length (enc : α → List Value) (sz : Nat) (hlen : ∀ x, (enc x).length = sz) : ∀ (l : List α), (l.flatMap enc).length = l.length * sz
  | [] => by simp
  | y :: l => by rw [List.flatMap_cons, List.length_append, hlen, flat_length enc sz hlen l, List.length_cons, Nat.succ_mul]; omega
theorem flat_at (enc : α → List Value) (sz : Nat) (hsz : 0 < sz) (hlen : ∀ x, (enc x).length = sz) (l : List α) (k : Nat) (u : Value) (h : (l.flatMap enc)[k]? = some u) : ∃ x, l[k / sz]? = some x ∧ (enc x)[k % sz]? = some u := by
  have hk : k < (l.flatMap enc).length := by
    rcases Nat.lt_or_ge k (l.flatMap enc).length with h1 | h1
    · exact h1
    · rw [List.getElem?_eq_none h1] at h; cases h
  rw [flat_length enc sz hlen] at hk
  have hi : k / sz < l.length := (Nat.div_lt_iff_lt_mul hsz).2 hk
  refine ⟨l[k / sz], List.getElem?_eq_getElem hi, ?_⟩
  rw [← flat_get enc sz hlen l (k / sz) _ (List.getElem?_eq_getElem hi) (k % sz) (Nat.mod_lt _ hsz), Nat.mul_comm, Nat.div_add_mod]
  exact h

/-- elements of the call's own -/
def OwnR (w : World) (base : Nat) (e : TypeId) (enc : α → List Value) (sz : Nat) (v : Value) (l : List α) : Prop := w.ownsRow base e sz v l.length (l.flatMap enc)
section
variable {w w' : World} {base : Nat} {e : TypeId} {enc : α → List Value} {sz : Nat} {v : Value} {l : List α}
theorem OwnR.below (h : OwnR w base e enc sz v l) (hb : Below w.heap.size w w') : OwnR w' base e enc sz v l := own_below h hb
theorem OwnR.mono {base' : Nat} (h : OwnR w base e enc sz v l) (hb : base' ≤ base) : OwnR w base' e enc sz v l := own_mono h hb
theorem OwnR.nil (w : World) (base : Nat) (e : TypeId) (enc : α → List Value) (sz : Nat) : OwnR w base e enc sz (.slice none 0 0) [] := World.ownsRow_nil _ _ _ _
theorem OwnR.alloc (h : OwnR w base e enc sz v l) (o : Obj) : OwnR (w.alloc o) base e enc sz v l := World.ownsRow.alloc h o
theorem OwnR.drew (h : OwnR w base e enc sz v l) : OwnR w.drew base e enc sz v l := h
theorem OwnR.far (h : OwnR w base e enc sz v l) {p : Addr} (hp : v.ownBlock ≠ some p.block) (u : Value) : OwnR (w.setCell p u) base e enc sz v l :=
  World.ownsRow.kept (row := some p.block) h ⟨rfl, rfl, rfl, by simp [World.setCell], fun k _ hk => Below.heap_setCell w p u k (fun e => hk (by rw [e]))⟩ (.inr hp)
theorem OwnR.ne (h : OwnR w base e enc sz v l) {k : Nat} (hk : k < base) : v.ownBlock ≠ some k := by
  intro e
  have := (World.ownsRow.lt h k e).1
  omega
theorem OwnR.row {P : Program} {t : TypeId} {bytes : Nat} (E : Elt P t e enc sz bytes) (h : OwnR w base e enc sz v l) : ∃ A c, v = .slice A l.length c ∧ l.length ≤ c ∧ Rw w enc sz A l := by
  rcases h.2 with ⟨rfl, h0⟩ | ⟨g, cap, cur, rfl, hbg, hgg, hn, hm, hs, ht⟩
  · have : l = [] := List.eq_nil_of_length_eq_zero h0
    subst this
    exact ⟨none, 0, rfl, Nat.le_refl _, Rw.nil _ _ _ _⟩
  · refine ⟨some ⟨g, 0, none⟩, cap, rfl, hn, fun i x hi => ⟨g, 0, rfl, fun j v hj => ?_⟩⟩
    have hjs : j < sz := by
      rcases Nat.lt_or_ge j (enc x).length with h1 | h1
      · rw [E.len] at h1; exact h1
      · rw [List.getElem?_eq_none h1] at hj; cases hj
    rw [Nat.zero_add, cell_of_row w g (i * sz + j) cur _ (0, 0) hgg]
    have h2 : (cur.toList.take (l.length * sz))[i * sz + j]? = some v := by rw [ht, flat_get enc sz E.len l i x hi j hjs, hj]
    rw [List.getElem?_take] at h2
    split at h2
    · simpa using h2
    · cases h2
end

theorem run_app_nilR {P : Program} (w : World) (base : Nat) (t ty e : TypeId) (i : TypeInfo) (size : Nat) (ht : P.underlying t = some (.slice e)) (hi : P.info? e = some i)
    (v : Value) (n : Nat) (xs : List Value) (hown : w.ownsRow base e size v n xs) (c : Nat) : (Builtin.append_ #[t, t] ty #[v, .slice none 0 c]).run P w = .ok v w := by
  rcases hown.2 with ⟨rfl, rfl⟩ | ⟨g, cap, cur, rfl, _, _, hnc, _⟩
  · simp [Builtin.append_, run_underlying ht, sizeOf, typeInfo, hi, Builtin.lenOf, Builtin.firstCells]
  · simp [Builtin.append_, run_underlying ht, sizeOf, typeInfo, hi, Builtin.lenOf, Builtin.firstCells, hnc, storeCells]

/-- 'append(out, x...)' -/
theorem appR {P : Program} {t e : TypeId} {enc : α → List Value} {sz bytes : Nat} (E : Elt P t e enc sz bytes) (w : World) {ops : Array Oper} {rest : List Oper} {o : Oper} {a : Act} {Q : Exit → Act → World → Prop} (hgd : o.guard = none) (s x : Operand)
    (ho : o.op = .call { callee := .builtin .append, args := #[s, x], argTypes := #[t, t] })
    (base : Nat) (v : Value) (L : List α) (hs : a.eval s = v) (hown : OwnR w base e enc sz v L) (A : Option Addr) (c : Nat) (l : List α)
    (hx : a.eval x = .slice A l.length c) (hb : Rw w enc sz A l) (hlen : L.length + l.length ≤ maxLen) (hbytes : (L.length + l.length) * bytes ≤ 140737488355328) (hbase : base ≤ w.heap.size)
    (h : ∀ A' c' w', OwnR w' base e enc sz (.slice A' (L.length + l.length) c') (L ++ l) → Below base w w' → wpList P ops Q rest (a.put o.dst (.slice A' (L.length + l.length) c')) w') : wpList P ops Q (o :: rest) a w := by
  obtain ⟨z, hinfo, hzs⟩ := E.info
  obtain ⟨i, hi, hz, hsz, hby⟩ := info_parts hinfo
  rcases A with _ | ad
  · have h0 := hb.none
    subst h0
    obtain ⟨A', c', rfl, _⟩ := hown.row E
    refine wpList_plain hgd fun K hK => ?_
    have hrun := run_app_nilR (P := P) w base t o.type e i sz E.under hi _ _ _ hown c
    unfold Oper.wp
    simp [execOp, ho, resolve, invoke, builtin, hs, hx, hrun, Result.andThen]
    exact hK _ _ (h A' c' w (by simpa using hown) (Below.refl _ _))
  · refine wpList_append_own (P := P) w hgd s x t ho base e i z sz bytes E.under hi hz hsz hby hzs E.pos v L.length (L.flatMap enc) hs hown ad l.length c (l.flatMap enc) hx (flat_length enc sz E.len l) ?_ ?_ hlen hbytes hbase fun v' w' h2 h3 _ => ?_
    · intro j u hj
      obtain ⟨y, hy, hu⟩ := flat_at enc sz E.pos E.len l j u hj
      obtain ⟨p, o, hA, hc⟩ := hb _ y hy
      injection hA with e
      subst e
      have h1 := hc _ u hu
      rw [Nat.add_assoc, Nat.mul_comm, Nat.div_add_mod] at h1
      unfold Addr.add
      split
      · rename_i h0; subst h0; simpa using h1
      · exact h1
    · intro u hu
      obtain ⟨y, _, hy⟩ := List.mem_flatMap.1 hu
      exact E.one y u hy
    · have h4 : OwnR w' base e enc sz v' (L ++ l) := by unfold OwnR; rw [List.length_append, List.flatMap_append]; exact h2
      obtain ⟨A', c', hv, _⟩ := h4.row E
      rw [List.length_append] at hv
      subst hv
      exact h A' c' w' h4 (own_grown hown h3 hbase)

/-- 'append(out, x)', x in a block of its own -/
theorem appR1 {P : Program} {t e : TypeId} {enc : α → List Value} {sz bytes : Nat} (E : Elt P t e enc sz bytes) (w : World) {ops : Array Oper} {rest : List Oper} {o : Oper} {a : Act} {Q : Exit → Act → World → Prop} (hgd : o.guard = none) (s x : Operand)
    (ho : o.op = .call { callee := .builtin .append, args := #[s, x], argTypes := #[t, t] })
    (base : Nat) (v : Value) (L : List α) (hs : a.eval s = v) (hown : OwnR w base e enc sz v L) (g c : Nat) (y : α) (u : TypeId) (cs : Array Value)
    (hx : a.eval x = .slice (some ⟨g, 0, none⟩) 1 c) (hb : Blk w g u cs) (hcs : cs = (enc y).toArray) (hlen : L.length + 1 ≤ maxLen) (hbytes : (L.length + 1) * bytes ≤ 140737488355328) (hbase : base ≤ w.heap.size)
    (h : ∀ g' c' w', OwnR w' base e enc sz (.slice (some ⟨g', 0, none⟩) (L.length + 1) c') (L ++ [y]) → Below base w w' → base ≤ g' → wpList P ops Q rest (a.put o.dst (.slice (some ⟨g', 0, none⟩) (L.length + 1) c')) w') : wpList P ops Q (o :: rest) a w := by
  subst hcs
  refine appR E w hgd s x ho base v L hs hown (some ⟨g, 0, none⟩) c [y] hx ?_ hlen hbytes hbase fun A' c' w' h1 h2 => ?_
  · intro i z hi
    cases i with
    | succ i => simp at hi
    | zero =>
      simp at hi
      subst hi
      refine ⟨g, 0, rfl, fun j v hj => ?_⟩
      rw [Nat.zero_mul, Nat.add_zero, Nat.zero_add, hb.cell]
      simpa using hj
  · have h3 := h1
    rcases h3.2 with ⟨_, h0⟩ | ⟨g', cap, cur, hv, hg, _⟩
    · simp at h0
    · injection hv with e1 e2 e3
      subst e1
      exact h g' c' w' h1 h2 hg
end

end Go.Proofs.YtiogckgchlnldaaGreat

/- A bundle of facts that are kept while the world grows: one hypothesis, one step a call. -/
namespace Go.Proofs.YtiogckgchlnldaaGreat
open Go.RowKit

structure Kp where
  P : World → Prop
  go : ∀ w w', P w → Below w.heap.size w w' → P w'

/-- a block -/
def kB (g : Nat) (t : TypeId) (cs : Array Value) : Kp := ⟨fun w => Blk w g t cs, fun _ _ h b => h.below b h.lt⟩
/-- bytes -/
def kS (A : Option Addr) (l : List UInt8) : Kp := ⟨fun w => Bs w A l, fun _ _ h b => h.below b⟩
/-- what the call began with -/
def kW (w0 : World) (B : Nat) (_ : B ≤ w0.heap.size) : Kp := ⟨fun w => Below B w0 w ∧ B ≤ w.heap.size, fun _ _ h b => ⟨h.1.trans (b.mono h.2), Nat.le_trans h.2 b.size⟩⟩
/-- bytes of the call's own -/
def kO (base : Nat) (v : Value) (l : List UInt8) : Kp := ⟨fun w => OwnB w base v l, fun _ _ h b => h.below b⟩
/-- the world has so many blocks -/
def kZ (n : Nat) : Kp := ⟨fun w => n ≤ w.heap.size, fun _ _ h b => Nat.le_trans h b.size⟩
/-- whatever else is kept -/
def kP (P : World → Prop) (h : ∀ w w', P w → Below w.heap.size w w' → P w') : Kp := ⟨P, h⟩

def Ks (w : World) (ks : List Kp) : Prop := ∀ k ∈ ks, k.P w

section
variable {w w' : World} {ks : List Kp}
theorem Ks.nil (w : World) : Ks w [] := fun _ h => by cases h
theorem Ks.cons {k : Kp} (h : Ks w ks) (hk : k.P w) : Ks w (k :: ks) := fun j hj => by
  rcases List.mem_cons.1 hj with rfl | hj
  · exact hk
  · exact h j hj
theorem Ks.go (h : Ks w ks) (b : Below w.heap.size w w') : Ks w' ks := fun k hk => k.go w w' (h k hk) b
theorem Ks.alloc (h : Ks w ks) (o : Obj) : Ks (w.alloc o) ks := h.go (below_alloc w o)
theorem Ks.get (h : Ks w ks) (i : Nat) {k : Kp} (e : ks[i]? = some k) : k.P w := h k (List.mem_of_getElem? e)
theorem Ks.blk (h : Ks w ks) (i : Nat) {g : Nat} {t : TypeId} {cs : Array Value} (e : ks[i]? = some (kB g t cs) := by rfl) : Blk w g t cs := h.get i e
theorem Ks.bs (h : Ks w ks) (i : Nat) {A : Option Addr} {l : List UInt8} (e : ks[i]? = some (kS A l) := by rfl) : Bs w A l := h.get i e
theorem Ks.own (h : Ks w ks) (i : Nat) {base : Nat} {v : Value} {l : List UInt8} (e : ks[i]? = some (kO base v l) := by rfl) : OwnB w base v l := h.get i e
theorem Ks.top (h : Ks w ks) (i : Nat) {w0 : World} {B : Nat} {hB : B ≤ w0.heap.size} (e : ks[i]? = some (kW w0 B hB) := by rfl) : Below B w0 w := (h.get i e : Below B w0 w ∧ _).1
theorem Ks.siz (h : Ks w ks) (i : Nat) {n : Nat} (e : ks[i]? = some (kZ n) := by rfl) : n ≤ w.heap.size := h.get i e
theorem Ks.oth (h : Ks w ks) (i : Nat) {P : World → Prop} {hP : ∀ w w', P w → Below w.heap.size w w' → P w'} (e : ks[i]? = some (kP P hP) := by rfl) : P w := h.get i e
theorem Ks.tail {k : Kp} (h : Ks w (k :: ks)) : Ks w ks := fun j hj => h j (List.mem_cons_of_mem _ hj)
end

/-- at a call's beginning: its own first, then one, two, three boxes -/
theorem Ks.zero (w : World) : Ks w [kW w w.heap.size (Nat.le_refl _)] := (Ks.nil w).cons ⟨Below.refl _ _, Nat.le_refl _⟩
theorem Ks.one (w : World) (b1 : Array Value) (t1 : TypeId) : Ks (w.alloc (.cells b1 t1)) [kW w w.heap.size (Nat.le_refl _), kB w.heap.size t1 b1] :=
  ((Ks.nil _).cons (k := kB _ _ _) (Blk.new w _ _)).cons ⟨below_alloc w _, by simp⟩
theorem Ks.two (w : World) (b1 b2 : Array Value) (t1 t2 : TypeId) : Ks ((w.alloc (.cells b1 t1)).alloc (.cells b2 t2)) [kW w w.heap.size (Nat.le_refl _), kB w.heap.size t1 b1, kB (w.heap.size + 1) t2 b2] := by
  have s1 : (w.alloc (.cells b1 t1)).heap.size = w.heap.size + 1 := by simp
  have h := ((Ks.nil _).cons (k := kB _ _ _) (Blk.new (w.alloc (.cells b1 t1)) t2 b2)).cons (k := kB w.heap.size t1 b1) ((Blk.new w _ _).alloc _)
  rw [s1] at h
  exact h.cons ⟨(below_alloc w _).alloc (by simp) _, by simp; omega⟩
theorem Ks.three (w : World) (b1 b2 b3 : Array Value) (t1 t2 t3 : TypeId) : Ks (((w.alloc (.cells b1 t1)).alloc (.cells b2 t2)).alloc (.cells b3 t3)) [kW w w.heap.size (Nat.le_refl _), kB w.heap.size t1 b1, kB (w.heap.size + 1) t2 b2, kB (w.heap.size + 2) t3 b3] := by
  have s2 : ((w.alloc (.cells b1 t1)).alloc (.cells b2 t2)).heap.size = w.heap.size + 2 := by simp
  have h := (Ks.two w b1 b2 t1 t2).alloc (.cells b3 t3)
  have n := Blk.new ((w.alloc (.cells b1 t1)).alloc (.cells b2 t2)) t3 b3
  rw [s2] at n
  intro k hk
  simp only [List.mem_cons, List.not_mem_nil, or_false] at hk
  rcases hk with rfl | rfl | rfl | rfl
  · exact h.get 0 rfl
  · exact h.get 1 rfl
  · exact h.get 2 rfl
  · exact n
theorem Ks.four (w : World) (b1 b2 b3 b4 : Array Value) (t1 t2 t3 t4 : TypeId) : Ks ((((w.alloc (.cells b1 t1)).alloc (.cells b2 t2)).alloc (.cells b3 t3)).alloc (.cells b4 t4)) [kW w w.heap.size (Nat.le_refl _), kB w.heap.size t1 b1, kB (w.heap.size + 1) t2 b2, kB (w.heap.size + 2) t3 b3, kB (w.heap.size + 3) t4 b4] := by
  have s2 : (((w.alloc (.cells b1 t1)).alloc (.cells b2 t2)).alloc (.cells b3 t3)).heap.size = w.heap.size + 3 := by simp
  have h := (Ks.three w b1 b2 b3 t1 t2 t3).alloc (.cells b4 t4)
  have n := Blk.new (((w.alloc (.cells b1 t1)).alloc (.cells b2 t2)).alloc (.cells b3 t3)) t4 b4
  rw [s2] at n
  intro k hk
  simp only [List.mem_cons, List.not_mem_nil, or_false] at hk
  rcases hk with rfl | rfl | rfl | rfl | rfl
  · exact h.get 0 rfl
  · exact h.get 1 rfl
  · exact h.get 2 rfl
  · exact h.get 3 rfl
  · exact n

/-- new facts in front -/
theorem Ks.box {w : World} {ks : List Kp} (h : Ks w ks) (b : Array Value) (t : TypeId) : Ks (w.alloc (.cells b t)) (kB w.heap.size t b :: ks) := (h.alloc _).cons (k := kB _ _ _) (Blk.new w t b)
theorem Ks.bs_ {w : World} {ks : List Kp} (h : Ks w ks) {A : Option Addr} {l : List UInt8} (b : Bs w A l) : Ks w (kS A l :: ks) := h.cons (k := kS A l) b
theorem Ks.own_ {w : World} {ks : List Kp} (h : Ks w ks) {base : Nat} {v : Value} {l : List UInt8} (b : OwnB w base v l) : Ks w (kO base v l :: ks) := h.cons (k := kO base v l) b
theorem Ks.siz_ {w : World} {ks : List Kp} (h : Ks w ks) : Ks w (kZ w.heap.size :: ks) := h.cons (k := kZ w.heap.size) (Nat.le_refl _)

end Go.Proofs.YtiogckgchlnldaaGreat

/- A bundle of facts on memory of the call's own: kept while the world grows and other blocks are stored into. -/
namespace Go.Proofs.YtiogckgchlnldaaGreat
open Go.RowKit

structure Kq where
  P : World → Prop
  ap : Nat → Prop
  say : World → Prop
  go : ∀ w w' r, P w → w.grownBy w' r → (∀ k, r = some k → ap k) → P w'
  tell : ∀ w, P w → say w

/-- what the cells from i on hold -/
def cellsSay (w : World) (g : Nat) : Nat → List Value → Prop
  | _, [] => True
  | i, v :: l => w.cell? ⟨g, i, none⟩ = some v ∧ w.frozen? ⟨g, i, none⟩ = false ∧ cellsSay w g (i + 1) l
theorem cells_say {w : World} {g : Nat} {t : TypeId} {cs : Array Value} (h : Blk w g t cs) : ∀ (l : List Value) (i : Nat), cs.toList.drop i = l → cellsSay w g i l
  | [], _, _ => trivial
  | v :: l, i, e => by
    have hv : cs[i]? = some v := by
      have := congrArg List.head? e
      rw [List.head?_drop] at this
      simpa using this
    refine ⟨(h.cell i).trans hv, h.frozen i, cells_say h l (i + 1) ?_⟩
    have := congrArg List.tail e
    simpa [List.tail_drop] using this

theorem Blk.kept {w w' : World} {r : Option Nat} {g : Nat} {t : TypeId} {cs : Array Value} (h : Blk w g t cs) (hg : w.grownBy w' r) (hr : r ≠ some g) : Blk w' g t cs := (hg.block g h.lt (fun e => hr e.symm)).trans h

/-- a block -/
def qB (g : Nat) (t : TypeId) (cs : Array Value) : Kq := ⟨fun w => Blk w g t cs, fun k => g ≠ k, fun w => cellsSay w g 0 cs.toList, fun _ _ _ h hg ha => h.kept hg (fun e => ha g e rfl), fun _ h => cells_say h _ 0 rfl⟩
/-- what the call began with -/
def qW (w0 : World) (B : Nat) (_ : B ≤ w0.heap.size) : Kq := ⟨fun w => Below B w0 w ∧ B ≤ w.heap.size, fun k => B ≤ k, fun w => B ≤ w.heap.size, fun _ _ _ h hg ha => ⟨h.1.grown hg h.2 ha, Nat.le_trans h.2 hg.size⟩, fun _ h => h.2⟩
/-- bytes of the call's own, in blocks from base on, below hi -/
def qO (base hi : Nat) (v : Value) (l : List UInt8) : Kq := ⟨fun w => OwnB w base v l ∧ (∀ k, v.ownBlock = some k → k < hi) ∧ hi ≤ w.heap.size, fun k => k < base ∨ hi ≤ k, fun _ => True,
  fun w w' r h hg ha => ⟨World.ownsRow.kept h.1 hg (by
    rcases hv : v.ownBlock with _ | k
    · exact .inl rfl
    · refine .inr fun e => ?_
      have h1 := h.2.1 k hv
      have h2 := (World.ownsRow.lt h.1 k hv).1
      have h3 := ha k e.symm
      omega), h.2.1, Nat.le_trans h.2.2 hg.size⟩, fun _ _ => trivial⟩
/-- elements of the call's own -/
def qR {α : Type} (base hi : Nat) (e : TypeId) (enc : α → List Value) (sz : Nat) (v : Value) (l : List α) : Kq := ⟨fun w => OwnR w base e enc sz v l ∧ (∀ k, v.ownBlock = some k → k < hi) ∧ hi ≤ w.heap.size, fun k => k < base ∨ hi ≤ k, fun _ => True,
  fun w w' r h hg ha => ⟨World.ownsRow.kept h.1 hg (by
    rcases hv : v.ownBlock with _ | k
    · exact .inl rfl
    · refine .inr fun e => ?_
      have h1 := h.2.1 k hv
      have h2 := (World.ownsRow.lt h.1 k hv).1
      have h3 := ha k e.symm
      omega), h.2.1, Nat.le_trans h.2.2 hg.size⟩, fun _ _ => trivial⟩
/-- so many blocks -/
def qZ (n : Nat) : Kq := ⟨fun w => n ≤ w.heap.size, fun _ => True, fun w => n ≤ w.heap.size, fun _ _ _ h hg _ => Nat.le_trans h hg.size, fun _ h => h⟩
/-- whatever else is kept while the world grows above B -/
def qP (P : World → Prop) (w0 : World) (B : Nat) (_ : B ≤ w0.heap.size) (h : ∀ w, Below B w0 w → P w) : Kq := ⟨fun w => Below B w0 w ∧ B ≤ w.heap.size, fun k => B ≤ k, fun _ => True, fun _ _ _ h hg ha => ⟨h.1.grown hg h.2 ha, Nat.le_trans h.2 hg.size⟩, fun _ _ => trivial⟩

def Qs (w : World) (ks : List Kq) : Prop := ∀ k ∈ ks, k.P w
def apAll (g : Nat) : List Kq → Prop
  | [] => True
  | k :: ks => k.ap g ∧ apAll g ks
def apBut (g : Nat) : Nat → List Kq → Prop
  | _, [] => True
  | 0, _ :: ks => apAll g ks
  | i + 1, k :: ks => k.ap g ∧ apBut g i ks
def sayAll (w : World) : List Kq → Prop
  | [] => True
  | k :: ks => k.say w ∧ sayAll w ks
theorem apAll.mem {g : Nat} : ∀ {ks : List Kq}, apAll g ks → ∀ k ∈ ks, k.ap g
  | [], _, _, h => by cases h
  | _ :: _, h, k, hk => by
    rcases List.mem_cons.1 hk with rfl | hk
    · exact h.1
    · exact apAll.mem h.2 k hk

/-- stores into one block -/
def sets (w : World) (g : Nat) : List (Nat × Value) → World
  | [] => w
  | p :: l => sets (w.setCell ⟨g, p.1, none⟩ p.2) g l
def setsL (cs : List Value) : List (Nat × Value) → List Value
  | [] => cs
  | p :: l => setsL (cs.set p.1 p.2) l
theorem grown_set (w : World) (g o : Nat) (v : Value) : w.grownBy (w.setCell ⟨g, o, none⟩ v) (some g) := ⟨rfl, rfl, rfl, by simp [World.setCell], fun k _ hk => Below.heap_setCell w ⟨g, o, none⟩ v k (fun e => hk (by rw [e]))⟩
theorem grown_trans {a b c : World} {r : Option Nat} (h : a.grownBy b r) (k : b.grownBy c r) : a.grownBy c r := World.grownBy.andThen h k (fun _ h => .inr h)
theorem grown_sets (g : Nat) : ∀ (l : List (Nat × Value)) (w : World), w.grownBy (sets w g l) (some g)
  | [], w => World.grownBy.refl _ _
  | p :: l, w => grown_trans (grown_set w g p.1 p.2) (grown_sets g l _)
theorem Blk.sets {g : Nat} {t : TypeId} : ∀ (l : List (Nat × Value)) {w : World} {cs : Array Value}, Blk w g t cs → Blk (sets w g l) g t (setsL cs.toList l).toArray
  | [], _, _, h => h
  | p :: l, w, cs, h => by
    have := Blk.sets l (h.set p.1 p.2)
    rw [Array.toList_setIfInBounds] at this
    exact this
theorem size_sets (g : Nat) : ∀ (l : List (Nat × Value)) (w : World), (sets w g l).heap.size = w.heap.size
  | [], _ => rfl
  | p :: l, w => (size_sets g l _).trans (by simp [World.setCell])
theorem grown_below {w w' : World} (b : Below w.heap.size w w') (r : Option Nat) : w.grownBy w' r := ⟨b.os, b.tape, b.output, b.size, fun k hk _ => b.block k hk⟩
theorem grown_drew (w : World) (r : Option Nat) : w.grownBy w.drew r := ⟨rfl, rfl, rfl, Nat.le_refl _, fun _ _ _ => rfl⟩

section
variable {w w' : World} {ks : List Kq}
theorem Qs.nil (w : World) : Qs w [] := fun _ h => by cases h
theorem Qs.cons {k : Kq} (h : Qs w ks) (hk : k.P w) : Qs w (k :: ks) := fun j hj => by
  rcases List.mem_cons.1 hj with rfl | hj
  · exact hk
  · exact h j hj
theorem Qs.grow (h : Qs w ks) {r : Option Nat} (hg : w.grownBy w' r) (ha : ∀ g, r = some g → apAll g ks) : Qs w' ks := fun k hk => k.go w w' r (h k hk) hg (fun g e => (ha g e).mem k hk)
theorem Qs.go (h : Qs w ks) (b : Below w.heap.size w w') : Qs w' ks := h.grow (grown_below b none) (fun _ e => by cases e)
theorem Qs.drew (h : Qs w ks) : Qs w.drew ks := h.grow (grown_drew w none) (fun _ e => by cases e)
theorem Qs.alloc (h : Qs w ks) (o : Obj) : Qs (w.alloc o) ks := h.go (below_alloc w o)
theorem Qs.get (h : Qs w ks) (i : Nat) {k : Kq} (e : ks[i]? = some k) : k.P w := h k (List.mem_of_getElem? e)
theorem Qs.blk (h : Qs w ks) (i : Nat) {g : Nat} {t : TypeId} {cs : Array Value} (e : ks[i]? = some (qB g t cs) := by rfl) : Blk w g t cs := h.get i e
theorem Qs.own (h : Qs w ks) (i : Nat) {base hi : Nat} {v : Value} {l : List UInt8} (e : ks[i]? = some (qO base hi v l) := by rfl) : OwnB w base v l := (h.get i e : OwnB w base v l ∧ _).1
theorem Qs.row (h : Qs w ks) (i : Nat) {α : Type} {base hi : Nat} {t : TypeId} {enc : α → List Value} {sz : Nat} {v : Value} {l : List α} (e : ks[i]? = some (qR base hi t enc sz v l) := by rfl) : OwnR w base t enc sz v l := (h.get i e : OwnR w base t enc sz v l ∧ _).1
theorem Qs.top (h : Qs w ks) (i : Nat) {w0 : World} {B : Nat} {hB : B ≤ w0.heap.size} (e : ks[i]? = some (qW w0 B hB) := by rfl) : Below B w0 w := (h.get i e : Below B w0 w ∧ _).1
theorem Qs.siz (h : Qs w ks) (i : Nat) {n : Nat} (e : ks[i]? = some (qZ n) := by rfl) : n ≤ w.heap.size := h.get i e
theorem Qs.tail {k : Kq} (h : Qs w (k :: ks)) : Qs w ks := fun j hj => h j (List.mem_cons_of_mem _ hj)
theorem Qs.says : ∀ {ks : List Kq}, Qs w ks → sayAll w ks
  | [], _ => trivial
  | k :: _, h => ⟨k.tell w (h k List.mem_cons_self), Qs.says h.tail⟩
theorem Qs.zero (w : World) : Qs w [qW w w.heap.size (Nat.le_refl _)] := (Qs.nil w).cons (k := qW _ _ _) ⟨Below.refl _ _, Nat.le_refl _⟩
/-- new facts in front -/
theorem Qs.box (h : Qs w ks) (b : Array Value) (t : TypeId) : Qs (w.alloc (.cells b t)) (qB w.heap.size t b :: ks) := (h.alloc _).cons (k := qB _ _ _) (Blk.new w t b)
theorem Qs.own_ (h : Qs w ks) {base : Nat} {v : Value} {l : List UInt8} (b : OwnB w base v l) : Qs w (qO base w.heap.size v l :: ks) := h.cons (k := qO _ _ _ _) ⟨b, fun k hk => (World.ownsRow.lt b k hk).2, Nat.le_refl _⟩
theorem Qs.row_ (h : Qs w ks) {α : Type} {base : Nat} {t : TypeId} {enc : α → List Value} {sz : Nat} {v : Value} {l : List α} (b : OwnR w base t enc sz v l) : Qs w (qR base w.heap.size t enc sz v l :: ks) := h.cons (k := qR _ _ _ _ _ _ _) ⟨b, fun k hk => (World.ownsRow.lt b k hk).2, Nat.le_refl _⟩
theorem Qs.siz_ (h : Qs w ks) : Qs w (qZ w.heap.size :: ks) := h.cons (k := qZ w.heap.size) (Nat.le_refl _)
end

theorem but_mem {g : Nat} : ∀ {ks : List Kq} {i : Nat}, apBut g i ks → ∀ j k, j ≠ i → ks[j]? = some k → k.ap g
  | [], _, _, j, k, _, e => by simp at e
  | _ :: ks, 0, h, j, k, hj, e => by
    cases j with
    | zero => exact absurd rfl hj
    | succ j => exact apAll.mem h k (List.mem_of_getElem? (by simpa using e))
  | _ :: ks, i + 1, h, j, k, hj, e => by
    cases j with
    | zero => simp at e; subst e; exact h.1
    | succ j => exact but_mem h.2 j k (fun e => hj (by rw [e])) (by simpa using e)

/-- stores into block i -/
theorem Qs.put {w : World} {ks : List Kq} (h : Qs w ks) (i g : Nat) (l : List (Nat × Value)) (cs' : Array Value) {t : TypeId} {cs : Array Value} (ha : apBut g i ks) (e : ks[i]? = some (qB g t cs) := by rfl) (hc : setsL cs.toList l = cs'.toList := by rfl) : Qs (sets w g l) (ks.set i (qB g t cs')) := by
  have hc' : (setsL cs.toList l).toArray = cs' := by rw [hc]
  rw [← hc']
  intro k hk
  obtain ⟨j, hj⟩ := List.getElem?_of_mem hk
  by_cases hji : j = i
  · subst hji
    rw [List.getElem?_set_self (List.getElem?_eq_some_iff.1 e).1] at hj
    injection hj with hj
    subst hj
    exact Blk.sets l (h.blk j e)
  · rw [List.getElem?_set_ne (fun e => hji e.symm)] at hj
    exact k.go w _ _ (h.get j hj) (grown_sets g l w) (fun x ex => by injection ex with ex; subst ex; exact but_mem ha j k hji hj)

/-- the same, at the world that it comes to -/
theorem Qs.putTo {w W : World} {ks : List Kq} (h : Qs w ks) (i g : Nat) (l : List (Nat × Value)) (cs' : Array Value) {t : TypeId} {cs : Array Value} (hW : sets w g l = W) (ha : apBut g i ks) (e : ks[i]? = some (qB g t cs) := by rfl) (hc : setsL cs.toList l = cs'.toList := by rfl) : Qs W (ks.set i (qB g t cs')) := hW ▸ h.put i g l cs' ha e hc

theorem setCell_sets (w : World) (g o : Nat) (v : Value) : w.setCell ⟨g, o, none⟩ v = sets w g [(o, v)] := rfl
theorem sets_sets (w : World) (g : Nat) (l l' : List (Nat × Value)) : sets (sets w g l) g l' = sets w g (l ++ l') := by
  induction l generalizing w with
  | nil => rfl
  | cons p l ih => exact ih _

end Go.Proofs.YtiogckgchlnldaaGreat

/- 'append(out, x...)' of bytes, x nil or not. -/
namespace Go.Proofs.YtiogckgchlnldaaGreat
open Go.RowKit

theorem run_app_nil {P : Program} (w : World) (base : Nat) (t ty e : TypeId) (i : TypeInfo) (size : Nat) (ht : P.underlying t = some (.slice e)) (hi : P.info? e = some i)
    (v : Value) (n : Nat) (xs : List Value) (hown : w.ownsRow base e size v n xs) (c : Nat) : (Builtin.append_ #[t, t] ty #[v, .slice none 0 c]).run P w = .ok v w := by
  rcases hown.2 with ⟨rfl, rfl⟩ | ⟨g, cap, cur, rfl, _, _, hnc, _⟩
  · simp [Builtin.append_, run_underlying ht, sizeOf, typeInfo, hi, Builtin.lenOf, Builtin.firstCells]
  · simp [Builtin.append_, run_underlying ht, sizeOf, typeInfo, hi, Builtin.lenOf, Builtin.firstCells, hnc, storeCells]

set_option maxRecDepth 100000 in
/-- 'append(out, x...)' -/
theorem appAll (w : World) {ops : Array Oper} {rest : List Oper} {o : Oper} {a : Act} {Q : Exit → Act → World → Prop} (hgd : o.guard = none) (s x : Operand)
    (ho : o.op = .call { callee := .builtin .append, args := #[s, x], argTypes := #[22, 22] })
    (base : Nat) (v : Value) (L : List UInt8) (hs : a.eval s = v) (hown : OwnB w base v L) (A : Option Addr) (c : Nat) (l : List UInt8)
    (hx : a.eval x = .slice A l.length c) (hb : Bs w A l) (hlen : L.length + l.length ≤ 140737488355328) (hbase : base ≤ w.heap.size)
    (h : ∀ A' c' w', OwnB w' base (.slice A' (L.length + l.length) c') (L ++ l) → Below base w w' → wpList Tryz.prog ops Q rest (a.put o.dst (.slice A' (L.length + l.length) c')) w') : wpList Tryz.prog ops Q (o :: rest) a w := by
  obtain ⟨i, hi, hz, hsz, hby⟩ := info_parts Tryz.info_u8
  rcases A with _ | ad
  · have h0 : l = [] := by
      cases l with
      | nil => rfl
      | cons b l => obtain ⟨p, o, hA, _⟩ := hb 0 b rfl; cases hA
    subst h0
    obtain ⟨A', c', rfl, _⟩ := hown.isB
    refine wpList_plain hgd fun K hK => ?_
    have hrun := run_app_nil (P := Tryz.prog) w base 22 o.type 5 i 1 Tryz.underlying22 hi _ _ _ hown c
    unfold Oper.wp
    simp [execOp, ho, resolve, invoke, builtin, hs, hx, hrun, Result.andThen]
    exact hK _ _ (h A' c' w (by simpa using hown) (Below.refl _ _))
  · refine wpList_append_own (P := Tryz.prog) w hgd s x 22 ho base 5 i (.int .u8 0) 1 1 Tryz.underlying22 hi hz hsz hby rfl (by decide) v L.length (L.map bv) hs hown ad l.length c (l.map bv) hx (by simp) ?_ ?_ (by unfold maxLen; omega) (by omega) hbase fun v' w' h2 h3 _ => ?_
    · intro j u hj
      rw [List.getElem?_map] at hj
      obtain ⟨b, hjb, rfl⟩ := Option.map_eq_some_iff.1 hj
      obtain ⟨p, o, hA, hc⟩ := hb j b hjb
      injection hA with e
      subst e
      unfold Addr.add
      split
      · rename_i h0; subst h0; simpa using hc
      · exact hc
    · intro u hu
      obtain ⟨b, _, rfl⟩ := List.mem_map.1 hu
      rfl
    · have h4 : OwnB w' base v' (L ++ l) := by unfold OwnB; rw [List.length_append, List.map_append]; exact h2
      obtain ⟨A', c', hv, _⟩ := h4.isB
      rw [List.length_append] at hv
      subst hv
      exact h A' c' w' h4 (own_grown hown h3 hbase)

end Go.Proofs.YtiogckgchlnldaaGreat

/- 'make([]T, n)' of elements of several cells; one element stored; bits as elements. -/
namespace Go.Proofs.YtiogckgchlnldaaGreat
open Go.RowKit

theorem made_flat {α : Type} (enc : α → List Value) (sz : Nat) (z : Array Value) (z0 : α) (hz : z.toList = enc z0) (hs : z.size = sz) (hsz : 0 < sz) (n : Nat) : (madeCells z (n * sz)).toList = (List.replicate n z0).flatMap enc := by
  have hl : ∀ x : α, x = z0 → (enc x).length = sz := fun x e => by rw [e, ← hz, Array.length_toList, hs]
  have hgen : ∀ n : Nat, ((List.replicate n z0).flatMap enc).length = n * sz := by
    intro n
    induction n with
    | zero => simp
    | succ n ih => rw [List.replicate_succ, List.flatMap_cons, List.length_append, ih, hl z0 rfl, Nat.succ_mul]; omega
  apply List.ext_getElem?
  intro i
  by_cases hi : i < n * sz
  · have h1 : (madeCells z (n * sz)).toList[i]? = some (z[i % z.size]!) := by
      rw [Array.getElem?_toList]
      simp [madeCells, hi]
    rw [h1]
    have hget : ∀ (m : Nat) (k : Nat), k < m * sz → ((List.replicate m z0).flatMap enc)[k]? = (enc z0)[k % sz]? := by
      intro m
      induction m with
      | zero => intro k hk; omega
      | succ m ih =>
        intro k hk
        rw [List.replicate_succ, List.flatMap_cons]
        by_cases hks : k < sz
        · rw [List.getElem?_append_left (by rw [hl z0 rfl]; exact hks), Nat.mod_eq_of_lt hks]
        · rw [List.getElem?_append_right (by rw [hl z0 rfl]; omega), hl z0 rfl, ih (k - sz) (by rw [Nat.succ_mul] at hk; omega)]
          congr 1
          rw [← Nat.mod_eq_sub_mod (by omega)]
    rw [hget n i hi, ← hz, hs, Array.getElem?_toList]
    have hm : i % sz < z.size := by rw [hs]; exact Nat.mod_lt _ hsz
    rw [Array.getElem?_eq_getElem hm, getElem!_pos z (i % sz) hm]
  · rw [List.getElem?_eq_none (by rw [Array.length_toList, size_madeCells]; omega), List.getElem?_eq_none (by rw [hgen]; omega)]

/-- 'make([]T, n)' -/
theorem mkR {P : Program} {α : Type} {t e : TypeId} {enc : α → List Value} {sz bytes : Nat} (E : Elt P t e enc sz bytes) (z : Value) (z0 : α) (hinfo : (P.info? e).map (fun i => (i.zero, i.size, i.bytes)) = some (some z, sz, bytes)) (hz : z.cells.toList = enc z0)
    (w : World) {ops : Array Oper} {rest : List Oper} {o : Oper} {a : Act} {Q : Exit → Act → World → Prop} (hgd : o.guard = none) (lo co : Operand)
    (ho : o.op = Op.makeSlice t lo co) (base n : Nat) (hl : a.eval lo = .int .i64 n) (hc : a.eval co = .int .i64 n) (hn : n ≤ maxLen) (hby2 : n * bytes ≤ 140737488355328) (hbase : base ≤ w.heap.size)
    (h : ∀ w', OwnR w' base e enc sz (.slice (some ⟨w.heap.size, 0, none⟩) n n) (List.replicate n z0) → Below w.heap.size w w' → wpList P ops Q rest (a.put o.dst (.slice (some ⟨w.heap.size, 0, none⟩) n n)) w') : wpList P ops Q (o :: rest) a w := by
  obtain ⟨i, hi, hzz, hsz, hby⟩ := info_parts hinfo
  have hcs : z.cells.size = sz := by have := E.len z0; rw [← hz, Array.length_toList] at this; exact this
  refine wpList_make_full w hgd lo co t ho base e i z sz E.under hi hzz hsz .i64 .i64 n n n hl hc rfl rfl (by rw [hby, Nat.mul_comm]; omega) hn hbase fun w' h1 h2 => h w' ?_ ?_
  · unfold OwnR
    rw [List.length_replicate, ← made_flat enc sz z.cells z0 hz hcs E.pos n]
    exact h1
  · exact (Below.refl _ _).grown h2 (Nat.le_refl _) (fun k hk => by cases hk)

theorem flat_set {α : Type} (enc : α → List Value) (sz : Nat) (hlen : ∀ x, (enc x).length = sz) (x : α) : ∀ (l : List α) (i : Nat), i < l.length → ∀ j, j ≤ sz → (l.flatMap enc).take (i * sz) ++ (enc x).take j ++ (l.flatMap enc).drop (i * sz + j) = ((enc x).take j).zipIdx.foldl (fun c p => c.set (i * sz + p.2) p.1) (l.flatMap enc) := by
  intro l i hi j
  induction j with
  | zero => intro _; simp
  | succ j ih =>
    intro hj
    have hjl : j < (enc x).length := by rw [hlen]; omega
    rw [List.take_succ_eq_append_getElem hjl, List.zipIdx_append, List.foldl_append, ← ih (by omega)]
    have hL := flat_length enc sz hlen l
    have hb : i * sz + j < (l.flatMap enc).length := by
      rw [hL]
      have : (i + 1) * sz ≤ l.length * sz := Nat.mul_le_mul_right _ hi
      rw [Nat.succ_mul] at this
      omega
    have h1 : ((l.flatMap enc).take (i * sz) ++ (enc x).take j).length = i * sz + j := by
      rw [List.length_append, List.length_take, List.length_take]
      omega
    simp only [List.zipIdx_cons, List.zipIdx_nil, List.foldl_cons, List.foldl_nil, List.length_take, Nat.min_eq_left (Nat.le_of_lt hjl), Nat.zero_add]
    rw [List.set_append_right _ _ (by omega), h1, List.drop_eq_getElem_cons hb]
    simp only [Nat.sub_self, List.set_cons_zero, List.append_assoc, List.singleton_append]
    rfl

theorem flatMap_set {α : Type} (enc : α → List Value) (sz : Nat) (hlen : ∀ x, (enc x).length = sz) (l : List α) (i : Nat) (x : α) (hi : i < l.length) : (l.set i x).flatMap enc = (l.flatMap enc).take (i * sz) ++ enc x ++ (l.flatMap enc).drop (i * sz + sz) := by
  induction l generalizing i with
  | nil => simp at hi
  | cons y l ih =>
    cases i with
    | zero =>
      simp only [List.set_cons_zero, List.flatMap_cons, Nat.zero_mul, List.take_zero, List.nil_append, Nat.zero_add]
      rw [← hlen y, List.drop_left]
    | succ i =>
      have e : (i + 1) * sz = sz + i * sz := by rw [Nat.succ_mul]; omega
      simp only [List.set_cons_succ, List.flatMap_cons]
      rw [ih i (by simpa using hi), e]
      have h1 : ((enc y) ++ l.flatMap enc).take (sz + i * sz) = enc y ++ (l.flatMap enc).take (i * sz) := by
        rw [← hlen y, List.take_length_add_append]
      have h2 : ((enc y) ++ l.flatMap enc).drop (sz + i * sz + sz) = (l.flatMap enc).drop (i * sz + sz) := by
        rw [Nat.add_assoc, ← hlen y, List.drop_length_add_append]
      rw [h1, h2]
      simp only [List.append_assoc]

/-- element i stored, cell by cell -/
def setsAt (w : World) (g : Nat) (base : Nat) : List (Value × Nat) → World
  | [] => w
  | p :: l => setsAt (w.setCell ⟨g, base + p.2, none⟩ p.1) g base l
theorem OwnR.stored {w : World} {α : Type} {P : Program} {t e : TypeId} {enc : α → List Value} {sz bytes : Nat} (E : Elt P t e enc sz bytes) {base g n cap : Nat} {l : List α} (h : OwnR w base e enc sz (.slice (some ⟨g, 0, none⟩) n cap) l) (hn : n = l.length) (i : Nat) (x : α) (hi : i < l.length) :
    OwnR (setsAt w g (i * sz) (enc x).zipIdx) base e enc sz (.slice (some ⟨g, 0, none⟩) n cap) (l.set i x) := by
  subst hn
  have key : ∀ (ps : List (Value × Nat)) (w : World) (xs : List Value), w.ownsRow base e sz (.slice (some ⟨g, 0, none⟩) l.length cap) l.length xs → (setsAt w g (i * sz) ps).ownsRow base e sz (.slice (some ⟨g, 0, none⟩) l.length cap) l.length (ps.foldl (fun c p => c.set (i * sz + p.2) p.1) xs) := by
    intro ps
    induction ps with
    | nil => intro w xs h; exact h
    | cons p ps ih => intro w xs h; exact ih _ _ (World.ownsRow.stored h (i * sz + p.2) p.1).1
  have h2 := key (enc x).zipIdx w _ h
  have e1 := flat_set enc sz E.len x l i hi sz (Nat.le_refl _)
  rw [show (enc x).take sz = enc x from List.take_of_length_le (by rw [E.len]; exact Nat.le_refl _)] at e1
  rw [← e1, ← flatMap_set enc sz E.len l i x hi] at h2
  unfold OwnR
  rw [List.length_set]
  exact h2
theorem grown_setsAt (g base : Nat) : ∀ (l : List (Value × Nat)) (w : World), w.grownBy (setsAt w g base l) (some g)
  | [], w => World.grownBy.refl _ _
  | p :: l, w => grown_trans (grown_set w g (base + p.2) p.1) (grown_setsAt g base l _)

/-- a store into element j of row i -/
theorem Qs.putRow {w W : World} {ks : List Kq} {α : Type} {P : Program} {t e : TypeId} {enc : α → List Value} {sz bytes : Nat} (E : Elt P t e enc sz bytes) (h : Qs w ks) (i g j : Nat) (x : α) {base hi cap n : Nat} {l : List α} (hn : n = l.length) (hj : j < l.length)
    (hW : setsAt w g (j * sz) (enc x).zipIdx = W) (ha : apBut g i ks) (ee : ks[i]? = some (qR base hi e enc sz (.slice (some ⟨g, 0, none⟩) n cap) l) := by rfl) : Qs W (ks.set i (qR base hi e enc sz (.slice (some ⟨g, 0, none⟩) n cap) (l.set j x))) := by
  subst hW
  intro k hk
  obtain ⟨m, hm⟩ := List.getElem?_of_mem hk
  have hrow := h.get i ee
  by_cases hmi : m = i
  · subst hmi
    rw [List.getElem?_set_self (List.getElem?_eq_some_iff.1 ee).1] at hm
    injection hm with hm
    subst hm
    exact ⟨OwnR.stored E hrow.1 hn j x hj, hrow.2.1, Nat.le_trans hrow.2.2 (grown_setsAt g _ _ w).size⟩
  · rw [List.getElem?_set_ne (fun e => hmi e.symm)] at hm
    exact k.go w _ _ (h.get m hm) (grown_setsAt g _ _ w) (fun y ey => by injection ey with ey; subst ey; exact but_mem ha m k hmi hm)

/-- an element's cells, as they may be stored into -/
theorem OwnR.cells {w : World} {α : Type} {P : Program} {t e : TypeId} {enc : α → List Value} {sz bytes : Nat} (E : Elt P t e enc sz bytes) {base g n cap : Nat} {l : List α} (h : OwnR w base e enc sz (.slice (some ⟨g, 0, none⟩) n cap) l) (hn : n = l.length) (i j : Nat) (hi : i < l.length) (hj : j < sz) :
    (∃ v, w.cell? ⟨g, i * sz + j, none⟩ = some v) ∧ w.frozen? ⟨g, i * sz + j, none⟩ = false := by
  subst hn
  refine ⟨?_, World.ownsRow.frozenAt h _⟩
  obtain ⟨A, c, hv, -, hr⟩ := OwnR.row E h
  injection hv with e1 _ _
  obtain ⟨p, o, hA, hc⟩ := hr i l[i] (List.getElem?_eq_getElem hi)
  rw [← e1] at hA
  injection hA with e2
  injection e2 with e2 e3 _
  subst e2; subst e3
  have hjl : j < (enc l[i]).length := by rw [E.len]; exact hj
  exact ⟨_, by have := hc j _ (List.getElem?_eq_getElem hjl); rwa [Nat.zero_add] at this⟩

end Go.Proofs.YtiogckgchlnldaaGreat
