/- Joined: Up, Own, Row, Kp, Kq, App, Bit4, Bit5, Bit7, Zig0, MakR, Ref9, Bit6, NoP. -/
import Derived.Test.YtmcdollkmlcpbaaGreatDoorQ6
import Derived.Laws.Rows
import Derived.Laws.ResultCell
import Derived.Test.YtmcdollkmlcpbaaGreatDoorQ4
import Derived.Test.YtmcdollkmlcpbaaGreatDoorQ1
import Derived.Laws.StructEq
import Derived.BigQuiet
import Derived.Deep.QuietTactic
set_option linter.unusedSimpArgs false
set_option linter.unusedVariables false
set_option linter.unusedSimpArgs false
set_option linter.unusedVariables false
namespace Go.Proofs.YtmcdollkmlcpbaaGreatDoor
open Go.RowKit
class Up (w W : World) : Prop where
 below : Below w.heap.size w W
instance Up.rfl {w : World} : Up w w := ⟨Below.refl _ _⟩
instance Up.alloc {w W : World} {o : Obj} [h : Up w W] : Up w (W.alloc o) := ⟨h.below.alloc h.below.size _⟩
instance Up.drew {w W : World} [h : Up w W] : Up w W.drew := ⟨h.below.drew⟩
instance Up.drewN {w W : World} {n : Nat} [h : Up w W] : Up w (W.drewN n) := ⟨below_drewN h.below n⟩
section
variable {w W w' : World}
theorem on (t : Below w.heap.size w w') {w2 : World} [u : Up w' W] (h : Below W.heap.size W w2) : Below w.heap.size w w2 := (t.trans (u.below.mono t.size)).trans (h.mono (by have := t.size; have := u.below.size; omega))
theorem go1 [u : Up w W] (h : Below W.heap.size W w') : Below w.heap.size w w' := u.below.trans (h.mono u.below.size)
theorem cel [u : Up w W] (h : Below W.heap.size W w') {a : Addr} {v : Value} (c : w.cell? a = some v) : w'.cell? a = some v := ((go1 h).cell (cell_lt c)).trans c
theorem box [u : Up w W] (h : Below W.heap.size W w') {a b : Addr} {x y : Value} (c : w.cell? a = some x ∧ w.cell? b = some y) : w'.cell? a = some x ∧ w'.cell? b = some y := ⟨cel h c.1, cel h c.2⟩
theorem Bs.go [u : Up w W] {A : Option Addr} {l : List UInt8} (b : Bs w A l) (h : Below W.heap.size W w') : Bs w' A l := b.below (go1 h)
theorem Bs.up [u : Up w W] {A : Option Addr} {l : List UInt8} (b : Bs w A l) : Bs W A l := b.below u.below
theorem onA (t : Below w.heap.size w w') [u : Up w' W] : Below w.heap.size w W := t.trans (u.below.mono t.size)
theorem Bs.on {A : Option Addr} {l : List UInt8} (b : Bs w A l) (t : Below w.heap.size w w') [u : Up w' W] : Bs W A l := b.below (onA t)
end
theorem Blk.duo {w : World} {g : Nat} {t : TypeId} {x y : Value} (h : Blk w g t #[x, y]) :
  (w.cell? ⟨g, 0, none⟩ = some x ∧ w.cell? ⟨g, 1, none⟩ = some y) ∧ (w.frozen? ⟨g, 0, none⟩ = false ∧ w.frozen? ⟨g, 1, none⟩ = false) := ⟨⟨h.cell 0, h.cell 1⟩, h.frozen 0, h.frozen 1⟩
theorem Blk.tri {w : World} {g : Nat} {t : TypeId} {x y z : Value} (h : Blk w g t #[x, y, z]) :
  (w.cell? ⟨g, 0, none⟩ = some x ∧ w.cell? ⟨g, 1, none⟩ = some y ∧ w.cell? ⟨g, 2, none⟩ = some z) ∧ (w.frozen? ⟨g, 0, none⟩ = false ∧ w.frozen? ⟨g, 1, none⟩ = false ∧ w.frozen? ⟨g, 2, none⟩ = false) :=
 ⟨⟨h.cell 0, h.cell 1, h.cell 2⟩, h.frozen 0, h.frozen 1, h.frozen 2⟩
theorem keepF (w : World) (o : Obj) (a : Addr) (h : (w.cell? a).isSome = true) : (w.alloc o).frozen? a = w.frozen? a := by
 obtain ⟨v, hv⟩ := Option.isSome_iff_exists.1 h
 exact (below_alloc w o).frozen (cell_lt hv)
theorem Blk.go {w W w' : World} {g : Nat} {t : TypeId} {cs : Array Value} [u : Up w W] (h : Blk w g t cs) (hb : Below W.heap.size W w') : Blk w' g t cs := h.below (go1 hb) h.lt
theorem Blk.set {w : World} {g : Nat} {t : TypeId} {cs : Array Value} (h : Blk w g t cs) (i : Nat) (v : Value) : Blk (w.setCell ⟨g, i, none⟩ v) g t (cs.setIfInBounds i v) := heap_setCell_same w g i cs t v h
theorem Blk.far {w : World} {g : Nat} {t : TypeId} {cs : Array Value} (h : Blk w g t cs) (a : Addr) (v : Value) (hne : g ≠ a.block) : Blk (w.setCell a v) g t cs := (heap_setCell_other w a g v hne).trans h
theorem Blk.drew {w : World} {g : Nat} {t : TypeId} {cs : Array Value} (h : Blk w g t cs) : Blk w.drew g t cs := h
theorem Blk.set2 {w : World} {g : Nat} {t : TypeId} {x y : Value} (h : Blk w g t #[x, y]) (a b : Value) : Blk ((w.setCell ⟨g, 0, none⟩ a).setCell ⟨g, 1, none⟩ b) g t #[a, b] := by simpa using (h.set 0 a).set 1 b
theorem Blk.set3 {w : World} {g : Nat} {t : TypeId} {x y z : Value} (h : Blk w g t #[x, y, z]) (a b c : Value) : Blk (((w.setCell ⟨g, 0, none⟩ a).setCell ⟨g, 1, none⟩ b).setCell ⟨g, 2, none⟩ c) g t #[a, b, c] := by simpa using ((h.set 0 a).set 1 b).set 2 c
theorem results_row_tmp {P : Program} {fn : Func} {p u : Tmp} {ty : TypeId} (h : fn.results = #[.cell p ty, .tmp u]) (tmps : Array Value) (w : World) (g : Nat) (t : TypeId) (cs : Array Value) (d : TypeDesc)
  (hp : tmps.getD p undef = .pointer (some ⟨g, 0, none⟩)) (hg : Blk w g t cs)
  (hu : P.underlying ty = some d) (hd : (match d with | .struct _ | .array _ _ => true | _ => false) = true) (hi : (P.info? ty).map (·.size) = some cs.size) (v : Value) (hv : tmps.getD u undef = v) :
  (results fn tmps).run P w = .ok (.tuple #[.agg cs, v]) w := by
 subst hv
 rw [results_cell_tmp h, hp]
 simp [asAddr, run_loadVar_row w g t ty cs (0, 0) d hg hu hd hi]
end Go.Proofs.YtmcdollkmlcpbaaGreatDoor
namespace Go.Proofs.YtmcdollkmlcpbaaGreatDoor
open Go.RowKit
def OwnB (w : World) (base : Nat) (v : Value) (l : List UInt8) : Prop := w.ownsRow base 5 1 v l.length (l.map bv)
def IsB (w : World) (v : Value) (l : List UInt8) : Prop := ∃ A c, v = .slice A l.length c ∧ l.length ≤ c ∧ c ≤ maxLen ∧ Bs w A l
theorem OwnB.below {w w' : World} {base : Nat} {v : Value} {l : List UInt8} (h : OwnB w base v l) (hb : Below w.heap.size w w') : OwnB w' base v l := own_below h hb
theorem OwnB.mono {w : World} {base base' : Nat} {v : Value} {l : List UInt8} (h : OwnB w base v l) (hb : base' ≤ base) : OwnB w base' v l := own_mono h hb
theorem OwnB.nil (w : World) (base : Nat) : OwnB w base (.slice none 0 0) [] := World.ownsRow_nil _ _ _ _
theorem OwnB.isB {w : World} {base : Nat} {v : Value} {l : List UInt8} (h : OwnB w base v l) : IsB w v l := by
 rcases h.2 with ⟨rfl, h0⟩ | ⟨g, cap, cur, rfl, hbg, hgg, hn, hm, hs, ht⟩
 ·have : l = [] := List.eq_nil_of_length_eq_zero h0
  subst this
  exact ⟨none, 0, rfl, Nat.le_refl _, Nat.zero_le _, Bs.nil _ _⟩
 ·refine ⟨some ⟨g, 0, none⟩, cap, rfl, hn, hm, fun i b hi => ⟨g, 0, rfl, ?_⟩⟩
  rw [Nat.zero_add, cell_of_row w g i cur _ (0, 0) hgg]
  have h2 : (cur.toList.take (l.length * 1))[i]? = some (bv b) := by rw [ht, List.getElem?_map, hi]; rfl
  rw [List.getElem?_take] at h2
  split at h2
  ·simpa using h2
  ·cases h2
theorem Tryz.info_u8 : (Tryz.prog.info? 5).map (fun i => (i.zero, i.size, i.bytes)) = some (some (.int .u8 0), 1, 1) := by kernel_rfl
theorem OwnB.alloc {w : World} {base : Nat} {v : Value} {l : List UInt8} (h : OwnB w base v l) (o : Obj) : OwnB (w.alloc o) base v l := World.ownsRow.alloc h o
theorem OwnB.cell {w : World} {base g n cap : Nat} {l : List UInt8} (h : OwnB w base (.slice (some ⟨g, 0, none⟩) n cap) l) (i : Nat) (hi : i < l.length) : w.cell? ⟨g, i, none⟩ = some (bv l[i]) := by
 obtain ⟨A, c, hv, _, _, hb⟩ := h.isB
 injection hv with e1 e2 e3
 subst e1
 obtain ⟨p, o, hA, hc⟩ := hb i l[i] (List.getElem?_eq_getElem hi)
 injection hA with e
 injection e with e1 e2 _
 subst e1; subst e2
 simpa using hc
theorem OwnB.len {w : World} {base g n cap : Nat} {A : Option Addr} {l : List UInt8} (h : OwnB w base (.slice A n cap) l) : n = l.length := by
 obtain ⟨A, c, hv, _⟩ := h.isB
 injection hv
theorem OwnB.frozen {w : World} {base g n cap : Nat} {l : List UInt8} (h : OwnB w base (.slice (some ⟨g, 0, none⟩) n cap) l) (i : Nat) : w.frozen? ⟨g, i, none⟩ = false := by
 have hn : n = l.length := h.len (g := g)
 subst hn
 exact World.ownsRow.frozenAt h i
theorem OwnB.set {w : World} {base g n cap : Nat} {l : List UInt8} (h : OwnB w base (.slice (some ⟨g, 0, none⟩) n cap) l) (i : Nat) (x : UInt8) :
  OwnB (w.setCell ⟨g, i, none⟩ (bv x)) base (.slice (some ⟨g, 0, none⟩) n cap) (l.set i x) := by
 have hn : n = l.length := h.len (g := g)
 subst hn
 have h1 := World.ownsRow.stored h i (bv x)
 unfold OwnB
 rw [List.map_set, List.length_set]
 exact h1.1
theorem OwnB.far {w : World} {base : Nat} {v : Value} {l : List UInt8} (h : OwnB w base v l) {p : Addr} (hp : v.ownBlock ≠ some p.block) (u : Value) : OwnB (w.setCell p u) base v l :=
 World.ownsRow.kept (row := some p.block) h ⟨rfl, rfl, rfl, by simp [World.setCell], fun k _ hk => Below.heap_setCell w p u k (fun e => hk (by rw [e]))⟩ (.inr hp)
theorem OwnB.ne {w : World} {base : Nat} {v : Value} {l : List UInt8} (h : OwnB w base v l) {k : Nat} (hk : k < base) : v.ownBlock ≠ some k := by
 intro e
 have := (World.ownsRow.lt h k e).1
 omega
theorem OwnB.drew {w : World} {base : Nat} {v : Value} {l : List UInt8} (h : OwnB w base v l) : OwnB w.drew base v l := h
theorem OwnB.lt {w : World} {base g n cap : Nat} {l : List UInt8} (h : OwnB w base (.slice (some ⟨g, 0, none⟩) n cap) l) : base ≤ g ∧ g < w.heap.size := World.ownsRow.lt h g rfl
theorem mkB (w : World) {ops : Array Oper} {rest : List Oper} {o : Oper} {a : Act} {Q : Exit → Act → World → Prop} (hgd : o.guard = none) (lo co : Operand)
  (ho : o.op = Op.makeSlice 31 lo co) (base n : Nat) (hl : a.eval lo = .int .i64 n) (hc : a.eval co = .int .i64 n) (hn : n ≤ 140737488355328) (hbase : base ≤ w.heap.size)
  (h : ∀ w', OwnB w' base (.slice (some ⟨w.heap.size, 0, none⟩) n n) (List.replicate n 0) → Below w.heap.size w w' → wpList Tryz.prog ops Q rest (a.put o.dst (.slice (some ⟨w.heap.size, 0, none⟩) n n)) w') : wpList Tryz.prog ops Q (o :: rest) a w := by
 obtain ⟨i, hi, hz, hsz, hby⟩ := info_parts Tryz.info_u8
 refine wpList_make_full w hgd lo co 31 ho base 5 i (.int .u8 0) 1 Tryz.underlying31 hi hz hsz .i64 .i64 n n n hl hc rfl rfl (by rw [hby]; omega) (by unfold maxLen; omega) hbase fun w' h1 h2 => h w' ?_ ?_
 ·unfold OwnB
  rw [List.length_replicate, List.map_replicate]
  have e : (madeCells (Value.int .u8 0).cells (n * 1)).toList = List.replicate n (bv 0) := by rw [Nat.mul_one]; exact toList_madeCells_one _ _
  rw [e] at h1
  exact h1
 ·exact (Below.refl _ _).grown h2 (Nat.le_refl _) (fun k hk => by cases hk)
theorem copyB (w : World) {ops : Array Oper} {rest : List Oper} {o : Oper} {a : Act} {Q : Exit → Act → World → Prop} (hgd : o.guard = none) (d s : Operand)
  (ho : o.op = .call { callee := .builtin .copy, args := #[d, s], argTypes := #[31, 31] }) (base g n cap : Nat) (L : List UInt8) (hd : a.eval d = .slice (some ⟨g, 0, none⟩) n cap)
  (hown : OwnB w base (.slice (some ⟨g, 0, none⟩) n cap) L) (A : Option Addr) (c : Nat) (l : List UInt8) (hs : a.eval s = .slice A l.length c) (hb : Bs w A l) (hln : l.length ≤ n)
  (h : ∀ w', OwnB w' base (.slice (some ⟨g, 0, none⟩) n cap) (l ++ L.drop l.length) → Below base w w' → g < w'.heap.size → wpList Tryz.prog ops Q rest (a.put o.dst (goInt l.length)) w') : wpList Tryz.prog ops Q (o :: rest) a w := by
 have hnL : n = L.length := hown.len (g := g)
 have hlt := hown.lt
 rcases hown.2 with ⟨h0, _⟩ | ⟨g', cap', cur, h', hb', hg, hnc, hcm, hcs, htake⟩
 ·cases h0
 ·injection h' with e1 e2 e3
  injection e1 with e1
  injection e1 with e1 _ _
  subst e1; subst e3
  have hcsz : cur.toList.length = cap := by rw [Array.length_toList, hcs, Nat.mul_one]
  refine wpList_copy_splice hgd d s 31 31 ho 5 Tryz.underlying31 (by have := Tryz.info_u8; simp only [Option.map_eq_some_iff, Prod.mk.injEq] at this ⊢; obtain ⟨i, hi, _, h2, _⟩ := this; exact ⟨i, hi, h2⟩) (some ⟨g, 0, none⟩) A n cap l.length c hd hs g 0 cur.toList 5 (by simpa using hg) (l.map bv) (by rw [List.length_map]; exact (Nat.min_eq_left hln).symm) ?_ ?_ ?_ base w (Below.refl _ _) hb' ?_
  ·intro hpos
   rw [List.length_map] at hpos
   obtain ⟨p, o, rfl, _, hc⟩ := hb.at_ hpos
   refine ⟨rfl, _, rfl, fun j v hj => ?_⟩
   rw [List.getElem?_map] at hj
   obtain ⟨b, hjb, rfl⟩ := Option.map_eq_some_iff.1 hj
   obtain ⟨hjl, rfl⟩ := List.getElem?_eq_some_iff.1 hjb
   have := hc j hjl
   unfold Addr.add
   split
   ·rename_i h0; subst h0; simpa using this
   ·exact this
  ·rw [List.length_map, hcsz, Nat.zero_add]; omega
  ·intro v hv
   obtain ⟨b, _, rfl⟩ := List.mem_map.1 hv
   rfl
  ·intro w' hh hbel
   rw [List.length_map]
   have hlenL : (l ++ L.drop l.length).length = L.length := by rw [List.length_append, List.length_drop]; omega
   refine h w' ⟨by rw [List.length_map, Nat.mul_one], .inr ⟨g, cap, (splice cur.toList 0 (l.map bv)).toArray, by rw [hlenL, hnL], hb', hh.out, by omega, hcm, ?_, ?_⟩⟩ hbel ?_
   ·rw [List.size_toArray, length_splice _ _ _ (by rw [List.length_map, hcsz]; omega), hcsz, Nat.mul_one]
   ·rw [hlenL]
    simp only [splice, List.take_zero, List.nil_append, Nat.zero_add, List.length_map, Nat.mul_one] at htake ⊢
    rw [List.take_append, List.length_map, List.take_of_length_le (by rw [List.length_map]; omega), List.map_append, List.map_drop, ← htake, List.take_drop, List.drop_take]
    congr 2
    rw [List.drop_take]
    congr 1
    omega
   ·have := hh.out
    rcases Nat.lt_or_ge g w'.heap.size with h1 | h1
    ·exact h1
    ·rw [Array.getElem?_eq_none h1] at this; cases this
theorem str_of {w : World} {A : Option Addr} {l : List UInt8} (h : Bs w A l) (c : Nat) : (convert 31 9 (.slice A l.length c)).run Tryz.prog w = .ok (.string ⟨l.toArray⟩) w := by
 rcases Nat.eq_zero_or_pos l.length with h0 | h0
 ·have : l = [] := List.eq_nil_of_length_eq_zero h0
  subst this
  rcases A with _ | a
  ·exact run_convert_bytes_nil w _ _ Tryz.underlying31 Tryz.underlying5 _ _ _ Tryz.underlying9
  ·exact run_convert_bytes_back w _ _ _ a c [] Tryz.underlying31 Tryz.underlying5 Tryz.underlying9 (fun j hj => by simp at hj)
 ·obtain ⟨p, o, rfl, _, hc⟩ := h.at_ h0
  refine run_convert_bytes_back w _ _ _ _ c l Tryz.underlying31 Tryz.underlying5 Tryz.underlying9 (fun j hj => ?_)
  have := hc j hj
  unfold Addr.add
  split
  ·rename_i h0; subst h0; simpa using this
  ·exact this
theorem OwnB.bs {w : World} {base n c : Nat} {A : Option Addr} {l : List UInt8} (h : OwnB w base (.slice A n c) l) : Bs w A l := by
 obtain ⟨A', c', hv, _, _, hb⟩ := h.isB
 injection hv with e1 _ _
 subst e1
 exact hb
section
variable {w W w' : World}
theorem OwnB.up [u : Up w W] {base : Nat} {v : Value} {l : List UInt8} (b : OwnB w base v l) : OwnB W base v l := own_below b u.below
end
end Go.Proofs.YtmcdollkmlcpbaaGreatDoor
set_option linter.unusedSimpArgs false
set_option linter.unusedVariables false
namespace Go.Proofs.YtmcdollkmlcpbaaGreatDoor
open Go.RowKit
section
variable {α : Type}
def Rw (w : World) (enc : α → List Value) (sz : Nat) (V : Option Addr) (l : List α) : Prop :=
 ∀ i x, l[i]? = some x → ∃ p o, V = some ⟨p, o, none⟩ ∧ ∀ j v, (enc x)[j]? = some v → w.cell? ⟨p, o + i * sz + j, none⟩ = some v
theorem Rw.below {w w' : World} {enc : α → List Value} {sz B : Nat} {V : Option Addr} {l : List α} (h : Rw w enc sz V l) (hb : Below B w w') (hB : w.heap.size ≤ B) : Rw w' enc sz V l := fun i x hi => by
 obtain ⟨p, o, hV, hc⟩ := h i x hi
 exact ⟨p, o, hV, fun j v hj => (hb.cell (Nat.lt_of_lt_of_le (cell_lt (hc j v hj)) hB)).trans (hc j v hj)⟩
theorem Rw.nil (w : World) (enc : α → List Value) (sz : Nat) (V : Option Addr) : Rw w enc sz V [] := fun i x h => by simp at h
theorem Rw.none {w : World} {enc : α → List Value} {sz : Nat} {l : List α} (h : Rw w enc sz none l) : l = [] := by
 cases l with
 | nil => rfl
 | cons x l => obtain ⟨p, o, hV, _⟩ := h 0 x rfl; cases hV
structure Elt (P : Program) (t e : TypeId) (enc : α → List Value) (sz bytes : Nat) : Prop where
 under : P.underlying t = some (.slice e)
 info : ∃ z, (P.info? e).map (fun i => (i.zero, i.size, i.bytes)) = some (some z, sz, bytes) ∧ z.cells.size = sz
 pos : 0 < sz
 len : ∀ x, (enc x).length = sz
 one : ∀ x, ∀ v ∈ enc x, v.oneCell' = true
theorem flat_get (enc : α → List Value) (sz : Nat) (hlen : ∀ x, (enc x).length = sz) : ∀ (l : List α) (i : Nat) (x : α), l[i]? = some x → ∀ j, j < sz → (l.flatMap enc)[i * sz + j]? = (enc x)[j]?
 | [], i, x, h, j, hj => by simp at h
 | y :: l, 0, x, h, j, hj => by
  simp at h
  subst h
  rw [List.flatMap_cons, Nat.zero_mul, Nat.zero_add, List.getElem?_append_left (by rw [hlen]; exact hj)]
 | y :: l, i + 1, x, h, j, hj => by
  have e : (i + 1) * sz + j = sz + (i * sz + j) := by rw [Nat.succ_mul]; omega
  rw [List.flatMap_cons, e, List.getElem?_append_right (by rw [hlen]; omega), hlen, Nat.add_sub_cancel_left]
  exact flat_get enc sz hlen l i x (by simpa using h) j hj
theorem flat_length (enc : α → List Value) (sz : Nat) (hlen : ∀ x, (enc x).length = sz) : ∀ (l : List α), (l.flatMap enc).length = l.length * sz
 | [] => by simp
 | y :: l => by rw [List.flatMap_cons, List.length_append, hlen, flat_length enc sz hlen l, List.length_cons, Nat.succ_mul]; omega
theorem flat_at (enc : α → List Value) (sz : Nat) (hsz : 0 < sz) (hlen : ∀ x, (enc x).length = sz) (l : List α) (k : Nat) (u : Value) (h : (l.flatMap enc)[k]? = some u) : ∃ x, l[k / sz]? = some x ∧ (enc x)[k % sz]? = some u := by
 have hk : k < (l.flatMap enc).length := by
  rcases Nat.lt_or_ge k (l.flatMap enc).length with h1 | h1
  ·exact h1
  ·rw [List.getElem?_eq_none h1] at h; cases h
 rw [flat_length enc sz hlen] at hk
 have hi : k / sz < l.length := (Nat.div_lt_iff_lt_mul hsz).2 hk
 refine ⟨l[k / sz], List.getElem?_eq_getElem hi, ?_⟩
 rw [← flat_get enc sz hlen l (k / sz) _ (List.getElem?_eq_getElem hi) (k % sz) (Nat.mod_lt _ hsz), Nat.mul_comm, Nat.div_add_mod]
 exact h
def OwnR (w : World) (base : Nat) (e : TypeId) (enc : α → List Value) (sz : Nat) (v : Value) (l : List α) : Prop := w.ownsRow base e sz v l.length (l.flatMap enc)
section
variable {w w' : World} {base : Nat} {e : TypeId} {enc : α → List Value} {sz : Nat} {v : Value} {l : List α}
theorem OwnR.below (h : OwnR w base e enc sz v l) (hb : Below w.heap.size w w') : OwnR w' base e enc sz v l := own_below h hb
theorem OwnR.mono {base' : Nat} (h : OwnR w base e enc sz v l) (hb : base' ≤ base) : OwnR w base' e enc sz v l := own_mono h hb
theorem OwnR.nil (w : World) (base : Nat) (e : TypeId) (enc : α → List Value) (sz : Nat) : OwnR w base e enc sz (.slice none 0 0) [] := World.ownsRow_nil _ _ _ _
theorem OwnR.alloc (h : OwnR w base e enc sz v l) (o : Obj) : OwnR (w.alloc o) base e enc sz v l := World.ownsRow.alloc h o
theorem OwnR.far (h : OwnR w base e enc sz v l) {p : Addr} (hp : v.ownBlock ≠ some p.block) (u : Value) : OwnR (w.setCell p u) base e enc sz v l :=
 World.ownsRow.kept (row := some p.block) h ⟨rfl, rfl, rfl, by simp [World.setCell], fun k _ hk => Below.heap_setCell w p u k (fun e => hk (by rw [e]))⟩ (.inr hp)
theorem OwnR.row {P : Program} {t : TypeId} {bytes : Nat} (E : Elt P t e enc sz bytes) (h : OwnR w base e enc sz v l) : ∃ A c, v = .slice A l.length c ∧ l.length ≤ c ∧ Rw w enc sz A l := by
 rcases h.2 with ⟨rfl, h0⟩ | ⟨g, cap, cur, rfl, hbg, hgg, hn, hm, hs, ht⟩
 ·have : l = [] := List.eq_nil_of_length_eq_zero h0
  subst this
  exact ⟨none, 0, rfl, Nat.le_refl _, Rw.nil _ _ _ _⟩
 ·refine ⟨some ⟨g, 0, none⟩, cap, rfl, hn, fun i x hi => ⟨g, 0, rfl, fun j v hj => ?_⟩⟩
  have hjs : j < sz := by
   rcases Nat.lt_or_ge j (enc x).length with h1 | h1
   ·rw [E.len] at h1; exact h1
   ·rw [List.getElem?_eq_none h1] at hj; cases hj
  rw [Nat.zero_add, cell_of_row w g (i * sz + j) cur _ (0, 0) hgg]
  have h2 : (cur.toList.take (l.length * sz))[i * sz + j]? = some v := by rw [ht, flat_get enc sz E.len l i x hi j hjs, hj]
  rw [List.getElem?_take] at h2
  split at h2
  ·simpa using h2
  ·cases h2
end
theorem run_app_nilR {P : Program} (w : World) (base : Nat) (t ty e : TypeId) (i : TypeInfo) (size : Nat) (ht : P.underlying t = some (.slice e)) (hi : P.info? e = some i)
  (v : Value) (n : Nat) (xs : List Value) (hown : w.ownsRow base e size v n xs) (c : Nat) : (Builtin.append_ #[t, t] ty #[v, .slice none 0 c]).run P w = .ok v w := by
 rcases hown.2 with ⟨rfl, rfl⟩ | ⟨g, cap, cur, rfl, _, _, hnc, _⟩
 ·simp [Builtin.append_, run_underlying ht, sizeOf, typeInfo, hi, Builtin.lenOf, Builtin.firstCells]
 ·simp [Builtin.append_, run_underlying ht, sizeOf, typeInfo, hi, Builtin.lenOf, Builtin.firstCells, hnc, storeCells]
theorem appR {P : Program} {t e : TypeId} {enc : α → List Value} {sz bytes : Nat} (E : Elt P t e enc sz bytes) (w : World) {ops : Array Oper} {rest : List Oper} {o : Oper} {a : Act} {Q : Exit → Act → World → Prop} (hgd : o.guard = none) (s x : Operand)
  (ho : o.op = .call { callee := .builtin .append, args := #[s, x], argTypes := #[t, t] })
  (base : Nat) (v : Value) (L : List α) (hs : a.eval s = v) (hown : OwnR w base e enc sz v L) (A : Option Addr) (c : Nat) (l : List α)
  (hx : a.eval x = .slice A l.length c) (hb : Rw w enc sz A l) (hlen : L.length + l.length ≤ maxLen) (hbytes : (L.length + l.length) * bytes ≤ 140737488355328) (hbase : base ≤ w.heap.size)
  (h : ∀ A' c' w', OwnR w' base e enc sz (.slice A' (L.length + l.length) c') (L ++ l) → Below base w w' → wpList P ops Q rest (a.put o.dst (.slice A' (L.length + l.length) c')) w') : wpList P ops Q (o :: rest) a w := by
 obtain ⟨z, hinfo, hzs⟩ := E.info
 obtain ⟨i, hi, hz, hsz, hby⟩ := info_parts hinfo
 rcases A with _ | ad
 ·have h0 := hb.none
  subst h0
  obtain ⟨A', c', rfl, _⟩ := hown.row E
  refine wpList_plain hgd fun K hK => ?_
  have hrun := run_app_nilR (P := P) w base t o.type e i sz E.under hi _ _ _ hown c
  unfold Oper.wp
  simp [execOp, ho, resolve, invoke, builtin, hs, hx, hrun, Result.andThen]
  exact hK _ _ (h A' c' w (by simpa using hown) (Below.refl _ _))
 ·refine wpList_append_own (P := P) w hgd s x t ho base e i z sz bytes E.under hi hz hsz hby hzs E.pos v L.length (L.flatMap enc) hs hown ad l.length c (l.flatMap enc) hx (flat_length enc sz E.len l) ?_ ?_ hlen hbytes hbase fun v' w' h2 h3 _ => ?_
  ·intro j u hj
   obtain ⟨y, hy, hu⟩ := flat_at enc sz E.pos E.len l j u hj
   obtain ⟨p, o, hA, hc⟩ := hb _ y hy
   injection hA with e
   subst e
   have h1 := hc _ u hu
   rw [Nat.add_assoc, Nat.mul_comm, Nat.div_add_mod] at h1
   unfold Addr.add
   split
   ·rename_i h0; subst h0; simpa using h1
   ·exact h1
  ·intro u hu
   obtain ⟨y, _, hy⟩ := List.mem_flatMap.1 hu
   exact E.one y u hy
  ·have h4 : OwnR w' base e enc sz v' (L ++ l) := by unfold OwnR; rw [List.length_append, List.flatMap_append]; exact h2
   obtain ⟨A', c', hv, _⟩ := h4.row E
   rw [List.length_append] at hv
   subst hv
   exact h A' c' w' h4 (own_grown hown h3 hbase)
end
end Go.Proofs.YtmcdollkmlcpbaaGreatDoor
namespace Go.Proofs.YtmcdollkmlcpbaaGreatDoor
open Go.RowKit
structure Kp where
 P : World → Prop
 go : ∀ w w', P w → Below w.heap.size w w' → P w'
def kB (g : Nat) (t : TypeId) (cs : Array Value) : Kp := ⟨fun w => Blk w g t cs, fun _ _ h b => h.below b h.lt⟩
def kS (A : Option Addr) (l : List UInt8) : Kp := ⟨fun w => Bs w A l, fun _ _ h b => h.below b⟩
def kW (w0 : World) (B : Nat) (_ : B ≤ w0.heap.size) : Kp := ⟨fun w => Below B w0 w ∧ B ≤ w.heap.size, fun _ _ h b => ⟨h.1.trans (b.mono h.2), Nat.le_trans h.2 b.size⟩⟩
def kO (base : Nat) (v : Value) (l : List UInt8) : Kp := ⟨fun w => OwnB w base v l, fun _ _ h b => h.below b⟩
def kP (P : World → Prop) (h : ∀ w w', P w → Below w.heap.size w w' → P w') : Kp := ⟨P, h⟩
def Ks (w : World) (ks : List Kp) : Prop := ∀ k ∈ ks, k.P w
section
variable {w w' : World} {ks : List Kp}
theorem Ks.nil (w : World) : Ks w [] := fun _ h => by cases h
theorem Ks.cons {k : Kp} (h : Ks w ks) (hk : k.P w) : Ks w (k :: ks) := fun j hj => by
 rcases List.mem_cons.1 hj with rfl | hj
 ·exact hk
 ·exact h j hj
theorem Ks.go (h : Ks w ks) (b : Below w.heap.size w w') : Ks w' ks := fun k hk => k.go w w' (h k hk) b
theorem Ks.alloc (h : Ks w ks) (o : Obj) : Ks (w.alloc o) ks := h.go (below_alloc w o)
theorem Ks.get (h : Ks w ks) (i : Nat) {k : Kp} (e : ks[i]? = some k) : k.P w := h k (List.mem_of_getElem? e)
theorem Ks.blk (h : Ks w ks) (i : Nat) {g : Nat} {t : TypeId} {cs : Array Value} (e : ks[i]? = some (kB g t cs) := by rfl) : Blk w g t cs := h.get i e
theorem Ks.bs (h : Ks w ks) (i : Nat) {A : Option Addr} {l : List UInt8} (e : ks[i]? = some (kS A l) := by rfl) : Bs w A l := h.get i e
theorem Ks.own (h : Ks w ks) (i : Nat) {base : Nat} {v : Value} {l : List UInt8} (e : ks[i]? = some (kO base v l) := by rfl) : OwnB w base v l := h.get i e
theorem Ks.top (h : Ks w ks) (i : Nat) {w0 : World} {B : Nat} {hB : B ≤ w0.heap.size} (e : ks[i]? = some (kW w0 B hB) := by rfl) : Below B w0 w := (h.get i e : Below B w0 w ∧ _).1
end
theorem Ks.one (w : World) (b1 : Array Value) (t1 : TypeId) : Ks (w.alloc (.cells b1 t1)) [kW w w.heap.size (Nat.le_refl _), kB w.heap.size t1 b1] :=
 ((Ks.nil _).cons (k := kB _ _ _) (Blk.new w _ _)).cons ⟨below_alloc w _, by simp⟩
theorem Ks.two (w : World) (b1 b2 : Array Value) (t1 t2 : TypeId) : Ks ((w.alloc (.cells b1 t1)).alloc (.cells b2 t2)) [kW w w.heap.size (Nat.le_refl _), kB w.heap.size t1 b1, kB (w.heap.size + 1) t2 b2] := by
 have s1 : (w.alloc (.cells b1 t1)).heap.size = w.heap.size + 1 := by simp
 have h := ((Ks.nil _).cons (k := kB _ _ _) (Blk.new (w.alloc (.cells b1 t1)) t2 b2)).cons (k := kB w.heap.size t1 b1) ((Blk.new w _ _).alloc _)
 rw [s1] at h
 exact h.cons ⟨(below_alloc w _).alloc (by simp) _, by simp; omega⟩
theorem Ks.three (w : World) (b1 b2 b3 : Array Value) (t1 t2 t3 : TypeId) : Ks (((w.alloc (.cells b1 t1)).alloc (.cells b2 t2)).alloc (.cells b3 t3)) [kW w w.heap.size (Nat.le_refl _), kB w.heap.size t1 b1, kB (w.heap.size + 1) t2 b2, kB (w.heap.size + 2) t3 b3] := by
 have s2 : ((w.alloc (.cells b1 t1)).alloc (.cells b2 t2)).heap.size = w.heap.size + 2 := by simp
 have h := (Ks.two w b1 b2 t1 t2).alloc (.cells b3 t3)
 have n := Blk.new ((w.alloc (.cells b1 t1)).alloc (.cells b2 t2)) t3 b3
 rw [s2] at n
 intro k hk
 simp only [List.mem_cons, List.not_mem_nil, or_false] at hk
 rcases hk with rfl | rfl | rfl | rfl
 ·exact h.get 0 rfl
 ·exact h.get 1 rfl
 ·exact h.get 2 rfl
 ·exact n
theorem Ks.four (w : World) (b1 b2 b3 b4 : Array Value) (t1 t2 t3 t4 : TypeId) : Ks ((((w.alloc (.cells b1 t1)).alloc (.cells b2 t2)).alloc (.cells b3 t3)).alloc (.cells b4 t4)) [kW w w.heap.size (Nat.le_refl _), kB w.heap.size t1 b1, kB (w.heap.size + 1) t2 b2, kB (w.heap.size + 2) t3 b3, kB (w.heap.size + 3) t4 b4] := by
 have s2 : (((w.alloc (.cells b1 t1)).alloc (.cells b2 t2)).alloc (.cells b3 t3)).heap.size = w.heap.size + 3 := by simp
 have h := (Ks.three w b1 b2 b3 t1 t2 t3).alloc (.cells b4 t4)
 have n := Blk.new (((w.alloc (.cells b1 t1)).alloc (.cells b2 t2)).alloc (.cells b3 t3)) t4 b4
 rw [s2] at n
 intro k hk
 simp only [List.mem_cons, List.not_mem_nil, or_false] at hk
 rcases hk with rfl | rfl | rfl | rfl | rfl
 ·exact h.get 0 rfl
 ·exact h.get 1 rfl
 ·exact h.get 2 rfl
 ·exact h.get 3 rfl
 ·exact n
theorem Ks.box {w : World} {ks : List Kp} (h : Ks w ks) (b : Array Value) (t : TypeId) : Ks (w.alloc (.cells b t)) (kB w.heap.size t b :: ks) := (h.alloc _).cons (k := kB _ _ _) (Blk.new w t b)
theorem Ks.bs_ {w : World} {ks : List Kp} (h : Ks w ks) {A : Option Addr} {l : List UInt8} (b : Bs w A l) : Ks w (kS A l :: ks) := h.cons (k := kS A l) b
theorem Ks.own_ {w : World} {ks : List Kp} (h : Ks w ks) {base : Nat} {v : Value} {l : List UInt8} (b : OwnB w base v l) : Ks w (kO base v l :: ks) := h.cons (k := kO base v l) b
end Go.Proofs.YtmcdollkmlcpbaaGreatDoor
namespace Go.Proofs.YtmcdollkmlcpbaaGreatDoor
open Go.RowKit
structure Kq where
 P : World → Prop
 ap : Nat → Prop
 say : World → Prop
 go : ∀ w w' r, P w → w.grownBy w' r → (∀ k, r = some k → ap k) → P w'
 tell : ∀ w, P w → say w
def cellsSay (w : World) (g : Nat) : Nat → List Value → Prop
 | _, [] => True
 | i, v :: l => w.cell? ⟨g, i, none⟩ = some v ∧ w.frozen? ⟨g, i, none⟩ = false ∧ cellsSay w g (i + 1) l
theorem cells_say {w : World} {g : Nat} {t : TypeId} {cs : Array Value} (h : Blk w g t cs) : ∀ (l : List Value) (i : Nat), cs.toList.drop i = l → cellsSay w g i l
 | [], _, _ => trivial
 | v :: l, i, e => by
  have hv : cs[i]? = some v := by
   have := congrArg List.head? e
   rw [List.head?_drop] at this
   simpa using this
  refine ⟨(h.cell i).trans hv, h.frozen i, cells_say h l (i + 1) ?_⟩
  have := congrArg List.tail e
  simpa [List.tail_drop] using this
theorem Blk.kept {w w' : World} {r : Option Nat} {g : Nat} {t : TypeId} {cs : Array Value} (h : Blk w g t cs) (hg : w.grownBy w' r) (hr : r ≠ some g) : Blk w' g t cs := (hg.block g h.lt (fun e => hr e.symm)).trans h
def qB (g : Nat) (t : TypeId) (cs : Array Value) : Kq := ⟨fun w => Blk w g t cs, fun k => g ≠ k, fun w => cellsSay w g 0 cs.toList, fun _ _ _ h hg ha => h.kept hg (fun e => ha g e rfl), fun _ h => cells_say h _ 0 rfl⟩
def qW (w0 : World) (B : Nat) (_ : B ≤ w0.heap.size) : Kq := ⟨fun w => Below B w0 w ∧ B ≤ w.heap.size, fun k => B ≤ k, fun w => B ≤ w.heap.size, fun _ _ _ h hg ha => ⟨h.1.grown hg h.2 ha, Nat.le_trans h.2 hg.size⟩, fun _ h => h.2⟩
def qO (base hi : Nat) (v : Value) (l : List UInt8) : Kq := ⟨fun w => OwnB w base v l ∧ (∀ k, v.ownBlock = some k → k < hi) ∧ hi ≤ w.heap.size, fun k => k < base ∨ hi ≤ k, fun _ => True,
 fun w w' r h hg ha => ⟨World.ownsRow.kept h.1 hg (by
  rcases hv : v.ownBlock with _ | k
  ·exact .inl rfl
  ·refine .inr fun e => ?_
   have h1 := h.2.1 k hv
   have h2 := (World.ownsRow.lt h.1 k hv).1
   have h3 := ha k e.symm
   omega), h.2.1, Nat.le_trans h.2.2 hg.size⟩, fun _ _ => trivial⟩
def qR {α : Type} (base hi : Nat) (e : TypeId) (enc : α → List Value) (sz : Nat) (v : Value) (l : List α) : Kq := ⟨fun w => OwnR w base e enc sz v l ∧ (∀ k, v.ownBlock = some k → k < hi) ∧ hi ≤ w.heap.size, fun k => k < base ∨ hi ≤ k, fun _ => True,
 fun w w' r h hg ha => ⟨World.ownsRow.kept h.1 hg (by
  rcases hv : v.ownBlock with _ | k
  ·exact .inl rfl
  ·refine .inr fun e => ?_
   have h1 := h.2.1 k hv
   have h2 := (World.ownsRow.lt h.1 k hv).1
   have h3 := ha k e.symm
   omega), h.2.1, Nat.le_trans h.2.2 hg.size⟩, fun _ _ => trivial⟩
def qZ (n : Nat) : Kq := ⟨fun w => n ≤ w.heap.size, fun _ => True, fun w => n ≤ w.heap.size, fun _ _ _ h hg _ => Nat.le_trans h hg.size, fun _ h => h⟩
def Qs (w : World) (ks : List Kq) : Prop := ∀ k ∈ ks, k.P w
def apAll (g : Nat) : List Kq → Prop
 | [] => True
 | k :: ks => k.ap g ∧ apAll g ks
def apBut (g : Nat) : Nat → List Kq → Prop
 | _, [] => True
 | 0, _ :: ks => apAll g ks
 | i + 1, k :: ks => k.ap g ∧ apBut g i ks
def sayAll (w : World) : List Kq → Prop
 | [] => True
 | k :: ks => k.say w ∧ sayAll w ks
theorem apAll.mem {g : Nat} : ∀ {ks : List Kq}, apAll g ks → ∀ k ∈ ks, k.ap g
 | [], _, _, h => by cases h
 | _ :: _, h, k, hk => by
  rcases List.mem_cons.1 hk with rfl | hk
  ·exact h.1
  ·exact apAll.mem h.2 k hk
def sets (w : World) (g : Nat) : List (Nat × Value) → World
 | [] => w
 | p :: l => sets (w.setCell ⟨g, p.1, none⟩ p.2) g l
def setsL (cs : List Value) : List (Nat × Value) → List Value
 | [] => cs
 | p :: l => setsL (cs.set p.1 p.2) l
theorem grown_set (w : World) (g o : Nat) (v : Value) : w.grownBy (w.setCell ⟨g, o, none⟩ v) (some g) := ⟨rfl, rfl, rfl, by simp [World.setCell], fun k _ hk => Below.heap_setCell w ⟨g, o, none⟩ v k (fun e => hk (by rw [e]))⟩
theorem grown_trans {a b c : World} {r : Option Nat} (h : a.grownBy b r) (k : b.grownBy c r) : a.grownBy c r := World.grownBy.andThen h k (fun _ h => .inr h)
theorem grown_sets (g : Nat) : ∀ (l : List (Nat × Value)) (w : World), w.grownBy (sets w g l) (some g)
 | [], w => World.grownBy.refl _ _
 | p :: l, w => grown_trans (grown_set w g p.1 p.2) (grown_sets g l _)
theorem Blk.sets {g : Nat} {t : TypeId} : ∀ (l : List (Nat × Value)) {w : World} {cs : Array Value}, Blk w g t cs → Blk (sets w g l) g t (setsL cs.toList l).toArray
 | [], _, _, h => h
 | p :: l, w, cs, h => by
  have := Blk.sets l (h.set p.1 p.2)
  rw [Array.toList_setIfInBounds] at this
  exact this
theorem grown_below {w w' : World} (b : Below w.heap.size w w') (r : Option Nat) : w.grownBy w' r := ⟨b.os, b.tape, b.output, b.size, fun k hk _ => b.block k hk⟩
theorem grown_drew (w : World) (r : Option Nat) : w.grownBy w.drew r := ⟨rfl, rfl, rfl, Nat.le_refl _, fun _ _ _ => rfl⟩
section
variable {w w' : World} {ks : List Kq}
theorem Qs.nil (w : World) : Qs w [] := fun _ h => by cases h
theorem Qs.cons {k : Kq} (h : Qs w ks) (hk : k.P w) : Qs w (k :: ks) := fun j hj => by
 rcases List.mem_cons.1 hj with rfl | hj
 ·exact hk
 ·exact h j hj
theorem Qs.grow (h : Qs w ks) {r : Option Nat} (hg : w.grownBy w' r) (ha : ∀ g, r = some g → apAll g ks) : Qs w' ks := fun k hk => k.go w w' r (h k hk) hg (fun g e => (ha g e).mem k hk)
theorem Qs.go (h : Qs w ks) (b : Below w.heap.size w w') : Qs w' ks := h.grow (grown_below b none) (fun _ e => by cases e)
theorem Qs.drew (h : Qs w ks) : Qs w.drew ks := h.grow (grown_drew w none) (fun _ e => by cases e)
theorem Qs.alloc (h : Qs w ks) (o : Obj) : Qs (w.alloc o) ks := h.go (below_alloc w o)
theorem Qs.get (h : Qs w ks) (i : Nat) {k : Kq} (e : ks[i]? = some k) : k.P w := h k (List.mem_of_getElem? e)
theorem Qs.blk (h : Qs w ks) (i : Nat) {g : Nat} {t : TypeId} {cs : Array Value} (e : ks[i]? = some (qB g t cs) := by rfl) : Blk w g t cs := h.get i e
theorem Qs.own (h : Qs w ks) (i : Nat) {base hi : Nat} {v : Value} {l : List UInt8} (e : ks[i]? = some (qO base hi v l) := by rfl) : OwnB w base v l := (h.get i e : OwnB w base v l ∧ _).1
theorem Qs.row (h : Qs w ks) (i : Nat) {α : Type} {base hi : Nat} {t : TypeId} {enc : α → List Value} {sz : Nat} {v : Value} {l : List α} (e : ks[i]? = some (qR base hi t enc sz v l) := by rfl) : OwnR w base t enc sz v l := (h.get i e : OwnR w base t enc sz v l ∧ _).1
theorem Qs.top (h : Qs w ks) (i : Nat) {w0 : World} {B : Nat} {hB : B ≤ w0.heap.size} (e : ks[i]? = some (qW w0 B hB) := by rfl) : Below B w0 w := (h.get i e : Below B w0 w ∧ _).1
theorem Qs.tail {k : Kq} (h : Qs w (k :: ks)) : Qs w ks := fun j hj => h j (List.mem_cons_of_mem _ hj)
theorem Qs.says : ∀ {ks : List Kq}, Qs w ks → sayAll w ks
 | [], _ => trivial
 | k :: _, h => ⟨k.tell w (h k List.mem_cons_self), Qs.says h.tail⟩
theorem Qs.zero (w : World) : Qs w [qW w w.heap.size (Nat.le_refl _)] := (Qs.nil w).cons (k := qW _ _ _) ⟨Below.refl _ _, Nat.le_refl _⟩
theorem Qs.box (h : Qs w ks) (b : Array Value) (t : TypeId) : Qs (w.alloc (.cells b t)) (qB w.heap.size t b :: ks) := (h.alloc _).cons (k := qB _ _ _) (Blk.new w t b)
theorem Qs.own_ (h : Qs w ks) {base : Nat} {v : Value} {l : List UInt8} (b : OwnB w base v l) : Qs w (qO base w.heap.size v l :: ks) := h.cons (k := qO _ _ _ _) ⟨b, fun k hk => (World.ownsRow.lt b k hk).2, Nat.le_refl _⟩
theorem Qs.row_ (h : Qs w ks) {α : Type} {base : Nat} {t : TypeId} {enc : α → List Value} {sz : Nat} {v : Value} {l : List α} (b : OwnR w base t enc sz v l) : Qs w (qR base w.heap.size t enc sz v l :: ks) := h.cons (k := qR _ _ _ _ _ _ _) ⟨b, fun k hk => (World.ownsRow.lt b k hk).2, Nat.le_refl _⟩
end
theorem but_mem {g : Nat} : ∀ {ks : List Kq} {i : Nat}, apBut g i ks → ∀ j k, j ≠ i → ks[j]? = some k → k.ap g
 | [], _, _, j, k, _, e => by simp at e
 | _ :: ks, 0, h, j, k, hj, e => by
  cases j with
  | zero => exact absurd rfl hj
  | succ j => exact apAll.mem h k (List.mem_of_getElem? (by simpa using e))
 | _ :: ks, i + 1, h, j, k, hj, e => by
  cases j with
  | zero => simp at e; subst e; exact h.1
  | succ j => exact but_mem h.2 j k (fun e => hj (by rw [e])) (by simpa using e)
theorem Qs.put {w : World} {ks : List Kq} (h : Qs w ks) (i g : Nat) (l : List (Nat × Value)) (cs' : Array Value) {t : TypeId} {cs : Array Value} (ha : apBut g i ks) (e : ks[i]? = some (qB g t cs) := by rfl) (hc : setsL cs.toList l = cs'.toList := by rfl) : Qs (sets w g l) (ks.set i (qB g t cs')) := by
 have hc' : (setsL cs.toList l).toArray = cs' := by rw [hc]
 rw [← hc']
 intro k hk
 obtain ⟨j, hj⟩ := List.getElem?_of_mem hk
 by_cases hji : j = i
 ·subst hji
  rw [List.getElem?_set_self (List.getElem?_eq_some_iff.1 e).1] at hj
  injection hj with hj
  subst hj
  exact Blk.sets l (h.blk j e)
 ·rw [List.getElem?_set_ne (fun e => hji e.symm)] at hj
  exact k.go w _ _ (h.get j hj) (grown_sets g l w) (fun x ex => by injection ex with ex; subst ex; exact but_mem ha j k hji hj)
theorem Qs.putTo {w W : World} {ks : List Kq} (h : Qs w ks) (i g : Nat) (l : List (Nat × Value)) (cs' : Array Value) {t : TypeId} {cs : Array Value} (hW : sets w g l = W) (ha : apBut g i ks) (e : ks[i]? = some (qB g t cs) := by rfl) (hc : setsL cs.toList l = cs'.toList := by rfl) : Qs W (ks.set i (qB g t cs')) := hW ▸ h.put i g l cs' ha e hc
end Go.Proofs.YtmcdollkmlcpbaaGreatDoor
namespace Go.Proofs.YtmcdollkmlcpbaaGreatDoor
open Go.RowKit
theorem run_app_nil {P : Program} (w : World) (base : Nat) (t ty e : TypeId) (i : TypeInfo) (size : Nat) (ht : P.underlying t = some (.slice e)) (hi : P.info? e = some i)
  (v : Value) (n : Nat) (xs : List Value) (hown : w.ownsRow base e size v n xs) (c : Nat) : (Builtin.append_ #[t, t] ty #[v, .slice none 0 c]).run P w = .ok v w := by
 rcases hown.2 with ⟨rfl, rfl⟩ | ⟨g, cap, cur, rfl, _, _, hnc, _⟩
 ·simp [Builtin.append_, run_underlying ht, sizeOf, typeInfo, hi, Builtin.lenOf, Builtin.firstCells]
 ·simp [Builtin.append_, run_underlying ht, sizeOf, typeInfo, hi, Builtin.lenOf, Builtin.firstCells, hnc, storeCells]
set_option maxRecDepth 100000 in
theorem appAll (w : World) {ops : Array Oper} {rest : List Oper} {o : Oper} {a : Act} {Q : Exit → Act → World → Prop} (hgd : o.guard = none) (s x : Operand)
  (ho : o.op = .call { callee := .builtin .append, args := #[s, x], argTypes := #[31, 31] })
  (base : Nat) (v : Value) (L : List UInt8) (hs : a.eval s = v) (hown : OwnB w base v L) (A : Option Addr) (c : Nat) (l : List UInt8)
  (hx : a.eval x = .slice A l.length c) (hb : Bs w A l) (hlen : L.length + l.length ≤ 140737488355328) (hbase : base ≤ w.heap.size)
  (h : ∀ A' c' w', OwnB w' base (.slice A' (L.length + l.length) c') (L ++ l) → Below base w w' → wpList Tryz.prog ops Q rest (a.put o.dst (.slice A' (L.length + l.length) c')) w') : wpList Tryz.prog ops Q (o :: rest) a w := by
 obtain ⟨i, hi, hz, hsz, hby⟩ := info_parts Tryz.info_u8
 rcases A with _ | ad
 ·have h0 : l = [] := by
   cases l with
   | nil => rfl
   | cons b l => obtain ⟨p, o, hA, _⟩ := hb 0 b rfl; cases hA
  subst h0
  obtain ⟨A', c', rfl, _⟩ := hown.isB
  refine wpList_plain hgd fun K hK => ?_
  have hrun := run_app_nil (P := Tryz.prog) w base 31 o.type 5 i 1 Tryz.underlying31 hi _ _ _ hown c
  unfold Oper.wp
  simp [execOp, ho, resolve, invoke, builtin, hs, hx, hrun, Result.andThen]
  exact hK _ _ (h A' c' w (by simpa using hown) (Below.refl _ _))
 ·refine wpList_append_own (P := Tryz.prog) w hgd s x 31 ho base 5 i (.int .u8 0) 1 1 Tryz.underlying31 hi hz hsz hby rfl (by decide) v L.length (L.map bv) hs hown ad l.length c (l.map bv) hx (by simp) ?_ ?_ (by unfold maxLen; omega) (by omega) hbase fun v' w' h2 h3 _ => ?_
  ·intro j u hj
   rw [List.getElem?_map] at hj
   obtain ⟨b, hjb, rfl⟩ := Option.map_eq_some_iff.1 hj
   obtain ⟨p, o, hA, hc⟩ := hb j b hjb
   injection hA with e
   subst e
   unfold Addr.add
   split
   ·rename_i h0; subst h0; simpa using hc
   ·exact hc
  ·intro u hu
   obtain ⟨b, _, rfl⟩ := List.mem_map.1 hu
   rfl
  ·have h4 : OwnB w' base v' (L ++ l) := by unfold OwnB; rw [List.length_append, List.map_append]; exact h2
   obtain ⟨A', c', hv, _⟩ := h4.isB
   rw [List.length_append] at hv
   subst hv
   exact h A' c' w' h4 (own_grown hown h3 hbase)
end Go.Proofs.YtmcdollkmlcpbaaGreatDoor
namespace Go.Proofs.YtmcdollkmlcpbaaGreatDoor
open Go.RowKit
theorem write_end {w wr : World} {base g n cap : Nat} {l l1 : List UInt8} {a v d t x r m q k : Nat} (hown : OwnB wr base (.slice (some ⟨g, 0, none⟩) n cap) l1) (hg : base ≤ g) (hbel : Below base w wr) (hw : Wrote l l1 a v d t)
  (hz : ∀ i, a ≤ i → i < a + d → bt l i = false) (hx : x = a + t) (hr : r = d - t) (hq : (8 : Int) - (x : Int) % 8 = q) (hn : m ≤ q) (hnr : m ≤ r) (hl : x / 8 < l1.length) {V : Int} (hV : V = (wrByte l1[x / 8] v r m q : Int)) :
  OwnB ((wr.drewN k).setCell ⟨g, x / 8, none⟩ (.int .u8 V)) base (.slice (some ⟨g, 0, none⟩) n cap) (l1.set (x / 8) (UInt8.ofNat (wrByte l1[x / 8] v r m q))) ∧
  Wrote l (l1.set (x / 8) (UInt8.ofNat (wrByte l1[x / 8] v r m q))) a v d (t + m) ∧ Below base w ((wr.drewN k).setCell ⟨g, x / 8, none⟩ (.int .u8 V)) := by
 have hlt := wrByte_lt l1[x / 8] v r m q hn (by omega)
 have e : Value.int .u8 V = bv (UInt8.ofNat (wrByte l1[x / 8] v r m q)) := by rw [hV, bv, UInt8.toNat_ofNat_of_lt' hlt]
 rw [e]
 exact ⟨(show OwnB (wr.drewN k) base (.slice (some ⟨g, 0, none⟩) n cap) l1 from hown).set _ _, hw.step hz hx hr (by omega) hn hnr hl, (below_drewN hbel _).setCell hg _⟩
set_option maxHeartbeats 1000000 in
theorem write_any (base g cap : Nat) (l : List UInt8) (a v d : Nat) (w : World) (ho : OwnB w base (.slice (some ⟨g, 0, none⟩) l.length cap) l) (hg : base ≤ g) (hgw : g < w.heap.size) (hl : l.length ≤ 2199023255552) (hd : d ≤ 64) (had : a + d ≤ 8 * l.length)
  (hv : v < 18446744073709551616) (hz : ∀ i, a ≤ i → i < a + d → bt l i = false) :
  Calls Tryz.prog 107 #[.slice (some ⟨g, 0, none⟩) l.length cap, .int .i64 a, .int .u64 v, .int .i64 d] w fun e w' => e = .returned (.tuple #[]) ∧
   ∃ l', OwnB w' base (.slice (some ⟨g, 0, none⟩) l.length cap) l' ∧ Wrote l l' a v d d ∧ Below base w w' := by
 have HZ := Lib.hid hz
 clear hz
 go_enter Tryz.func107, Tryz.ntmps107
 go_wp2
 go_loopw [1, 3] (fun x r wr => ∃ (t : Nat) (l1 : List UInt8), t ≤ d ∧ x = .int .i64 ((a + t : Nat) : Int) ∧ r = .int .i64 ((d - t : Nat) : Int) ∧ OwnB wr base (.slice (some ⟨g, 0, none⟩) l.length cap) l1 ∧ Wrote l l1 a v d t ∧ Below base w wr)
  (fun _ r _ => (intOf r).toNat)
 case atStart => exact ⟨0, l, Nat.zero_le _, rfl, rfl, ho, Wrote.zero _ _ _ _, Below.refl _ _⟩
 case round =>
  obtain ⟨t, l1, ht, rfl, rfl, hown, hw, hbel⟩ := hrel
  have HW := Lib.hid hw
  clear hw
  by_cases hlt : t < d
  ·obtain ⟨x, hx⟩ : ∃ x, x = a + t := ⟨_, rfl⟩
   obtain ⟨r, hr⟩ : ∃ r, r = d - t := ⟨_, rfl⟩
   rw [← hx, ← hr]
   have hlen := HW.out.1
   have hx8 : x / 8 < l1.length := by omega
   have hx8' : x / 8 < l.length := by omega
   have hr0 : 0 < r := by omega
   have hxb : x ≤ 17592186044416 := by omega
   have hr64 : r ≤ 64 := by omega
   have HX := Lib.hid hx
   have HR := Lib.hid hr
   clear hx hr hlen
   have hc2 := hown.cell (x / 8) hx8
   have hfr := hown.frozen (x / 8)
   have hix : (x : Int) / 8 < l.length := by omega
   obtain ⟨q, hq⟩ : ∃ q : Nat, (8 : Int) - (x : Int) % 8 = (q : Int) := ⟨8 - x % 8, by omega⟩
   have hq1 : 1 ≤ q ∧ q ≤ 8 := by omega
   have HQ := Lib.hid hq
   clear hq
   by_cases hm : q ≤ r
   ·have hmI : (8 : Int) - (x : Int) % 8 ≤ r := by rw [HQ.out]; omega
    go_wp2
    rw [HQ.out]
    clear hmI
    go_quiet (fail)
    go_wp2
    go_region
    go_wp2
    go_roundw
    case measure => simp [intOf]; omega
    case rel =>
     have hv1 := wr_val l1[x / 8] v r q q (Nat.le_refl _) hq1.2
     rw [Nat.sub_self, Int.pow_zero, Int.mul_one, ← nat_shr] at hv1
     obtain ⟨h1, h2, h3⟩ := write_end (k := nq + 1) hown hg hbel HW.out HZ.out HX.out HR.out HQ.out (Nat.le_refl _) hm hx8 hv1
     exact ⟨t + q, _, by have := HR.out; omega, by rw [HX.out]; go_num, by have := HR.out; congr 1; omega, h1, h2, h3⟩
   ·have hmI : ¬ (8 : Int) - (x : Int) % 8 ≤ r := by rw [HQ.out]; omega
    go_wp2
    rw [HQ.out]
    clear hmI
    have hqr : (0 : Int) ≤ (q : Int) - r := by omega
    go_quiet (fail)
    go_wp2
    go_region
    go_wp2
    go_roundw
    case measure => simp [intOf]; omega
    case rel =>
     have hv1 := wr_val l1[x / 8] v r r q (by omega) hq1.2
     rw [Nat.sub_self, Nat.pow_zero, Nat.div_one] at hv1
     obtain ⟨h1, h2, h3⟩ := write_end (k := nq + 1) hown hg hbel HW.out HZ.out HX.out HR.out HQ.out (by omega) (Nat.le_refl _) hx8 hv1
     exact ⟨t + r, _, by have := HR.out; omega, by rw [HX.out]; go_num, by have := HR.out; congr 1; omega, h1, h2, h3⟩
  ·obtain rfl : t = d := by omega
   go_wp2
   go_end0
   exact ⟨rfl, l1, hown, HW.out, hbel⟩
theorem write_n (base g cap n : Nat) (l : List UInt8) (hn : n = l.length) (a v d : Nat) (w : World) (ho : OwnB w base (.slice (some ⟨g, 0, none⟩) n cap) l) (hl : l.length ≤ 2199023255552) (hd : d ≤ 64) (had : a + d ≤ 8 * l.length)
  (hv : v < 18446744073709551616) (hz : ∀ i, a ≤ i → i < a + d → bt l i = false) :
  Calls Tryz.prog 107 #[.slice (some ⟨g, 0, none⟩) n cap, .int .i64 a, .int .u64 v, .int .i64 d] w fun e w' => e = .returned (.tuple #[]) ∧
   ∃ l', OwnB w' base (.slice (some ⟨g, 0, none⟩) n cap) l' ∧ Wrote l l' a v d d ∧ Below base w w' := by
 subst hn
 exact write_any base g cap l a v d w ho ho.lt.1 ho.lt.2 hl hd had hv hz
end Go.Proofs.YtmcdollkmlcpbaaGreatDoor
namespace Go.Proofs.YtmcdollkmlcpbaaGreatDoor
open Go.RowKit
set_option maxHeartbeats 1000000 in
theorem put_ok (A : Option Addr) (c : Nat) (l : List UInt8) (m : Nat) (v : Nat) (d : Nat) (w : World) (hb : Bs w A l) (hl : l.length ≤ 1099511627776) (hv : v < 18446744073709551616) (hw : d ≤ 64) (hs : soundB l m = true) :
  Calls Tryz.prog 91 #[.agg #[.slice A l.length c, .int .i64 m], .int .u64 v, .int .i64 d] w fun e w' =>
   ∃ A' c', e = .returned (.tuple #[.agg #[.slice A' (pack (bitl l m ++ valB v d)).length c', .int .i64 ((m + d : Nat) : Int)], .int .u16 0]) ∧ OwnB w' w.heap.size (.slice A' (pack (bitl l m ++ valB v d)).length c') (pack (bitl l m ++ valB v d)) ∧ Below w.heap.size w w' := by
 have hb0 := hb.below (below_alloc2 w (.cells #[.slice A l.length c, .int .i64 m] 33) (.cells #[.slice none 0 0, .int .i64 0] 33))
 have hlm : l.length ≤ maxLen := by unfold maxLen; omega
 obtain ⟨m', hm, hm8, hnb⟩ := sound_nat hs
 obtain rfl : m = m' := by omega
 have hln : l.length ≤ nb (m + d) := by rw [hnb]; unfold nb; omega
 have hnl : nb (m + d) ≤ l.length + 9 := by rw [hnb]; unfold nb; omega
 have h8 : m + d ≤ 8 * nb (m + d) := by unfold nb; omega
 have hplen : (pack (bitl l m ++ valB v d)).length = nb (m + d) := by rw [pack_length, List.length_append, bitl_length, valB_length]
 obtain ⟨N, hN⟩ : ∃ N, N = nb (m + d) := ⟨_, rfl⟩
 rw [← hN] at hln hnl h8
 have HN := Lib.hid hN
 have HP := Lib.hid hplen
 have HS := Lib.hid hs
 clear hs hm hnb hN hplen
 have hd0 : decide ((d : Int) < 0) = false := by simp
 have h64 : ¬ (64 : Int) < d := by omega
 go_enter Tryz.func91, Tryz.ntmps91
 go_wp2_with (first
  | (go_at_call 57; refine (sound_any A c l m _ hb0 (by omega) hlm).mono ?_; rw [HS.out]; rintro e w1 ⟨rfl, hb1⟩; obtain ⟨c0, c1, r0, r1, f0, f1, hsz⟩ := kept2 hb1 (by simp))
  | (go_at_call 58; refine (bytesOf_sum m d _ (by omega)).mono ?_; rw [← HN.out]; rintro e w2 ⟨rfl, rfl⟩)
  | (at_make; go_must (refine mkB _ rfl (.tmp 26) (.tmp 26) rfl (w.heap.size + 2) N rfl rfl (by omega) hsz ?_); intro w3 hown3 hb3; clear c0 c1 r0 r1 f0 f1; have hb13 := hb1.trans (hb3.mono (by simpa using hsz)); obtain ⟨c0, c1, r0, r1, f0, f1, hsz3⟩ := kept2 hb13 (by simp))
  | (refine copyB _ rfl (.tmp 28) (.tmp 30) rfl (w.heap.size + 2) w1.heap.size N N _ rfl hown3 A c l rfl (hb0.below hb13) hln ?_; intro w4 hown4 hb4 hg4; clear c0 c1 r0 r1 f0 f1 hsz3; have hb14 := hb13.trans (hb4.mono (by simp)); obtain ⟨c0, c1, r0, r1, f0, f1, hsz4⟩ := kept2 hb14 (by simp)))
 have hLlen : (l ++ List.drop l.length (List.replicate N (0 : UInt8))).length = N := by rw [List.length_append, List.length_drop, List.length_replicate]; omega
 refine (write_n (w.heap.size + 2) w1.heap.size N N _ hLlen.symm m v d w4 hown4 (by omega) hw (by omega) hv (by rw [HN.out]; exact put_zero HS.out)).mono ?_
 clear hLlen
 rintro e w5 ⟨rfl, l5, hown5, hwr, hb5⟩
 clear c0 c1 r0 r1 f0 f1 hsz4
 have hb15 := hb14.trans (hb5.mono (by simp))
 obtain ⟨c0, c1, r0, r1, f0, f1, hsz5⟩ := kept2 hb15 (by simp)
 have hl5 : l5 = pack (bitl l m ++ valB v d) := put_done HS.out (by rw [HN.out] at hwr; exact hwr)
 have hlt5 := hown5.lt.2
 have HL5 := Lib.hid hl5
 clear hl5 hwr
 go_wp2
 refine bodyPost_ret (v := .tuple #[.agg #[.slice (some ⟨w1.heap.size, 0, none⟩) N N, .int .i64 ((m : Int) + d)], .int .u16 0]) (by simp [results, Tryz.results91, go_sem, r0, r1]) rfl ?_
 rw [HP.out, ← HN.out, ← HL5.out, Int.natCast_add]
 have hne := hown5.ne (show w.heap.size + 1 < w.heap.size + 2 by omega)
 exact ⟨_, _, rfl, ((hown5.mono (by omega)).far hne _).far hne _, (((below_alloc2 _ _ _).trans (hb15.mono (by simp; omega))).setCell (by simp) _).setCell (by simp) _⟩
end Go.Proofs.YtmcdollkmlcpbaaGreatDoor
namespace Go.Proofs.YtmcdollkmlcpbaaGreatDoor
open Go.RowKit
theorem only_set {w0 w : World} {g : Nat} (h : w0.grownBy w (some g)) (j : Nat) (u : Value) : w0.grownBy (w.setCell ⟨g, j, none⟩ u) (some g) :=
 ⟨h.os, h.tape, h.output, by have := h.size; simpa [World.setCell] using this, fun k hk hne => (Below.heap_setCell w ⟨g, j, none⟩ u k (fun e => hne (by rw [e]))).trans (h.block k hk hne)⟩
theorem only_drew {w0 w : World} {g : Nat} (h : w0.grownBy w (some g)) : w0.grownBy w.drew (some g) := ⟨h.os, h.tape, h.output, h.size, h.block⟩
theorem only_cell {w0 w : World} {g : Nat} (h : w0.grownBy w (some g)) {p i : Nat} {v : Value} (hc : w0.cell? ⟨p, i, none⟩ = some v) (hp : p ≠ g) : w.cell? ⟨p, i, none⟩ = some v :=
 h.cell hc (fun e => hp (by injection e))
theorem or_lay (b c : UInt8) (s : Nat) : Value.int .u8 (bits .or .u8 (b.toNat : Int) ((c.toNat : Int) / 2 ^ s)) = bv (UInt8.ofNat (b.toNat ||| c.toNat / 2 ^ s)) := by
 have h : c.toNat / 2 ^ s < 256 := Nat.lt_of_le_of_lt (Nat.div_le_self _ _) c.toNat_lt
 rw [nat_shr, or_u8 _ _ b.toNat_lt h, bv, UInt8.toNat_ofNat_of_lt' (Nat.or_lt_two_pow (n := 8) b.toNat_lt h)]
theorem low_val (c : UInt8) (s : Nat) : ((c.toNat : Int) * 2 ^ (8 - s) % 256) = (lowOf c s : Int) := by
 unfold lowOf; rw [Int.natCast_emod, Int.natCast_mul, Int.natCast_pow]; rfl
theorem or_low (b c : UInt8) (s : Nat) : Value.int .u8 (bits .or .u8 (b.toNat : Int) ((c.toNat : Int) * 2 ^ (8 - s) % 256)) = bv (UInt8.ofNat (b.toNat ||| lowOf c s)) := by
 rw [low_val, or_u8 _ _ b.toNat_lt (lowOf_lt c s), bv, UInt8.toNat_ofNat_of_lt' (Nat.or_lt_two_pow (n := 8) b.toNat_lt (lowOf_lt c s))]
set_option maxHeartbeats 2000000 in
theorem lay_any (base g cap N : Nat) (L x : List UInt8) (a n : Nat) (B : Option Addr) (cx : Nat) (w : World) (ho : OwnB w base (.slice (some ⟨g, 0, none⟩) N cap) L) (hx : Bs w B x) (hsep : 0 < x.length → ∀ p o, B = some ⟨p, o, none⟩ → p ≠ g)
  (hz : ∀ i, n ≤ i → bt x i = false) (hnx : x.length = nb n) (hroom : a + n ≤ 8 * N) (hN : N ≤ 2199023255552) :
  Calls Tryz.prog 88 #[.slice (some ⟨g, 0, none⟩) N cap, .int .i64 a, .slice B x.length cx] w fun e w' => e = .returned (.tuple #[]) ∧
   ∃ L', OwnB w' base (.slice (some ⟨g, 0, none⟩) N cap) L' ∧ Hid (LayAt L x a x.length L') ∧ w.grownBy w' (some g) := by
 have hLN : L.length = N := by have := ho.len (g := g); omega
 have hidx : ∀ k, k < x.length → a / 8 + k < N := fun k hk => by rw [hnx] at hk; unfold nb at hk; omega
 have hxl : x.length ≤ N + 1 := by rw [hnx]; unfold nb; omega
 have HZ := Lib.hid hz
 have HI := Lib.hid hidx
 have HL := Lib.hid hLN
 clear hz hidx hnx hLN
 go_enter Tryz.func88, Tryz.ntmps88
 go_wp2
 go_loopw [17] (fun q wr => ∃ (k : Nat) (bb : List UInt8), k ≤ x.length ∧ q = .int .i64 k ∧ OwnB wr base (.slice (some ⟨g, 0, none⟩) N cap) bb ∧ Hid (LayAt L x a k bb) ∧ w.grownBy wr (some g))
  (fun q _ => x.length - (intOf q).toNat)
 case atStart => exact ⟨0, L, Nat.zero_le _, rfl, ho, LayAt.zero L x a, World.grownBy.refl _ _⟩
 case round =>
  obtain ⟨k, bb, hk, rfl, hown, HC, hg⟩ := hrel
  have hbl : N ≤ bb.length := by have h1 := HC.out.1; have h2 := HL.out; omega
  by_cases hlt : k < x.length
  ·have hki := HI.out k hlt
   obtain ⟨p, o, rfl, hpl, hc⟩ := hx.at_ (show 0 < x.length by omega)
   have hpg := hsep (by omega) p o rfl
   have hcx := only_cell hg (hc k hlt) hpg
   have hx1 := hown.cell (a / 8 + k) (by omega)
   have hf1 := hown.frozen (a / 8 + k)
   have hkI : (a : Int) / 8 + k < N := by omega
   have hlo := low_val x[k] (a % 8)
   clear hc
   by_cases h0 : lowOf x[k] (a % 8) = 0
   ·have hz0 : ((x[k].toNat : Int) * 2 ^ (8 - a % 8) % 256 != 0) = false := by rw [hlo, h0]; rfl
    have H0 := Lib.hid h0
    clear h0 hlo
    go_wp2
    go_region
    go_wp2
    go_roundw
    case measure => simp [intOf]; omega
    case rel =>
     rw [or_lay]
     exact ⟨k + 1, _, by omega, by go_num, (hown.set _ _).drew, HC.out.step1 (List.getElem?_eq_getElem hlt) (by omega) H0.out, only_drew (only_set hg _ _)⟩
   ·have hz0 : ((x[k].toNat : Int) * 2 ^ (8 - a % 8) % 256 != 0) = true := by rw [hlo, bne_iff_ne]; omega
    have hn2 := lay_room (List.getElem?_eq_getElem hlt) HZ.out hroom h0
    have hnI : (a : Int) / 8 + k + 1 < N := by omega
    have hx2 := hown.cell (a / 8 + k + 1) (by omega)
    have hf2 := hown.frozen (a / 8 + k + 1)
    have fx2 := fun (W : World) (u : Value) => World.cell?_setCell_other W ⟨g, a / 8 + k, none⟩ ⟨g, a / 8 + k + 1, none⟩ u (by intro e; injection e with _ e; omega)
    clear h0 hlo
    go_wp2
    go_region
    go_wp2
    go_roundw
    case measure => simp [intOf]; omega
    case rel =>
     rw [or_lay, or_low]
     exact ⟨k + 1, _, by omega, by go_num, ((hown.set _ _).drew.set _ _), HC.out.step2 (List.getElem?_eq_getElem hlt) (by omega) (by omega), only_set (only_drew (only_set hg _ _)) _ _⟩
  ·obtain rfl : k = x.length := by omega
   go_wp2
   go_end0
   exact ⟨rfl, bb, hown, HC, hg⟩
end Go.Proofs.YtmcdollkmlcpbaaGreatDoor
namespace Go.Proofs.YtmcdollkmlcpbaaGreatDoor
open Go.RowKit
def rowsV : Value := .agg #[.int .u64 0, .int .i64 1, .int .i64 0, .int .u64 2, .int .i64 2, .int .i64 7, .int .u64 6, .int .i64 3, .int .i64 9, .int .u64 14, .int .i64 4, .int .i64 12, .int .u64 30, .int .i64 5, .int .i64 32, .int .u64 31, .int .i64 5, .int .i64 64]
theorem rows_any (w : World) : Calls Tryz.prog 119 #[] w fun e w' => e = .returned rowsV ∧ Below w.heap.size w w' := by
 go_enter Tryz.func119, Tryz.ntmps119
 go_wp2
 exact bodyPost_ret (results_cell_row Tryz.results119 _ _ w.heap.size _ _ (0, 0) _ rfl (heap_alloc_new _ _) Tryz.underlying205 rfl (by kernel_rfl)) rfl ⟨rfl, below_alloc _ _⟩
theorem rows_at (k : Nat) (hk : k < 6) (w : World) : (Instr.index 205 rowsV (.int .i64 k)).run Tryz.prog w = .ok (.agg #[.int .u64 (zp k : Nat), .int .i64 (zl k : Nat), .int .i64 (zw k : Nat)]) w := by
 have h0 : ∀ w, (Instr.index 205 rowsV (.int .i64 (0 : Nat))).run Tryz.prog w = .ok (.agg #[.int .u64 (zp 0 : Nat), .int .i64 (zl 0 : Nat), .int .i64 (zw 0 : Nat)]) w := fun _ => by kernel_rfl
 have h1 : ∀ w, (Instr.index 205 rowsV (.int .i64 (1 : Nat))).run Tryz.prog w = .ok (.agg #[.int .u64 (zp 1 : Nat), .int .i64 (zl 1 : Nat), .int .i64 (zw 1 : Nat)]) w := fun _ => by kernel_rfl
 have h2 : ∀ w, (Instr.index 205 rowsV (.int .i64 (2 : Nat))).run Tryz.prog w = .ok (.agg #[.int .u64 (zp 2 : Nat), .int .i64 (zl 2 : Nat), .int .i64 (zw 2 : Nat)]) w := fun _ => by kernel_rfl
 have h3 : ∀ w, (Instr.index 205 rowsV (.int .i64 (3 : Nat))).run Tryz.prog w = .ok (.agg #[.int .u64 (zp 3 : Nat), .int .i64 (zl 3 : Nat), .int .i64 (zw 3 : Nat)]) w := fun _ => by kernel_rfl
 have h4 : ∀ w, (Instr.index 205 rowsV (.int .i64 (4 : Nat))).run Tryz.prog w = .ok (.agg #[.int .u64 (zp 4 : Nat), .int .i64 (zl 4 : Nat), .int .i64 (zw 4 : Nat)]) w := fun _ => by kernel_rfl
 have h5 : ∀ w, (Instr.index 205 rowsV (.int .i64 (5 : Nat))).run Tryz.prog w = .ok (.agg #[.int .u64 (zp 5 : Nat), .int .i64 (zl 5 : Nat), .int .i64 (zw 5 : Nat)]) w := fun _ => by kernel_rfl
 obtain rfl | rfl | rfl | rfl | rfl | rfl : k = 0 ∨ k = 1 ∨ k = 2 ∨ k = 3 ∨ k = 4 ∨ k = 5 := by omega
 ·exact h0 w
 ·exact h1 w
 ·exact h2 w
 ·exact h3 w
 ·exact h4 w
 ·exact h5 w
end Go.Proofs.YtmcdollkmlcpbaaGreatDoor
namespace Go.Proofs.YtmcdollkmlcpbaaGreatDoor
open Go.RowKit
theorem made_flat {α : Type} (enc : α → List Value) (sz : Nat) (z : Array Value) (z0 : α) (hz : z.toList = enc z0) (hs : z.size = sz) (hsz : 0 < sz) (n : Nat) : (madeCells z (n * sz)).toList = (List.replicate n z0).flatMap enc := by
 have hl : ∀ x : α, x = z0 → (enc x).length = sz := fun x e => by rw [e, ← hz, Array.length_toList, hs]
 have hgen : ∀ n : Nat, ((List.replicate n z0).flatMap enc).length = n * sz := by
  intro n
  induction n with
  | zero => simp
  | succ n ih => rw [List.replicate_succ, List.flatMap_cons, List.length_append, ih, hl z0 rfl, Nat.succ_mul]; omega
 apply List.ext_getElem?
 intro i
 by_cases hi : i < n * sz
 ·have h1 : (madeCells z (n * sz)).toList[i]? = some (z[i % z.size]!) := by
   rw [Array.getElem?_toList]
   simp [madeCells, hi]
  rw [h1]
  have hget : ∀ (m : Nat) (k : Nat), k < m * sz → ((List.replicate m z0).flatMap enc)[k]? = (enc z0)[k % sz]? := by
   intro m
   induction m with
   | zero => intro k hk; omega
   | succ m ih =>
    intro k hk
    rw [List.replicate_succ, List.flatMap_cons]
    by_cases hks : k < sz
    ·rw [List.getElem?_append_left (by rw [hl z0 rfl]; exact hks), Nat.mod_eq_of_lt hks]
    ·rw [List.getElem?_append_right (by rw [hl z0 rfl]; omega), hl z0 rfl, ih (k - sz) (by rw [Nat.succ_mul] at hk; omega)]
     congr 1
     rw [← Nat.mod_eq_sub_mod (by omega)]
  rw [hget n i hi, ← hz, hs, Array.getElem?_toList]
  have hm : i % sz < z.size := by rw [hs]; exact Nat.mod_lt _ hsz
  rw [Array.getElem?_eq_getElem hm, getElem!_pos z (i % sz) hm]
 ·rw [List.getElem?_eq_none (by rw [Array.length_toList, size_madeCells]; omega), List.getElem?_eq_none (by rw [hgen]; omega)]
theorem mkR {P : Program} {α : Type} {t e : TypeId} {enc : α → List Value} {sz bytes : Nat} (E : Elt P t e enc sz bytes) (z : Value) (z0 : α) (hinfo : (P.info? e).map (fun i => (i.zero, i.size, i.bytes)) = some (some z, sz, bytes)) (hz : z.cells.toList = enc z0)
  (w : World) {ops : Array Oper} {rest : List Oper} {o : Oper} {a : Act} {Q : Exit → Act → World → Prop} (hgd : o.guard = none) (lo co : Operand)
  (ho : o.op = Op.makeSlice t lo co) (base n : Nat) (hl : a.eval lo = .int .i64 n) (hc : a.eval co = .int .i64 n) (hn : n ≤ maxLen) (hby2 : n * bytes ≤ 140737488355328) (hbase : base ≤ w.heap.size)
  (h : ∀ w', OwnR w' base e enc sz (.slice (some ⟨w.heap.size, 0, none⟩) n n) (List.replicate n z0) → Below w.heap.size w w' → wpList P ops Q rest (a.put o.dst (.slice (some ⟨w.heap.size, 0, none⟩) n n)) w') : wpList P ops Q (o :: rest) a w := by
 obtain ⟨i, hi, hzz, hsz, hby⟩ := info_parts hinfo
 have hcs : z.cells.size = sz := by have := E.len z0; rw [← hz, Array.length_toList] at this; exact this
 refine wpList_make_full w hgd lo co t ho base e i z sz E.under hi hzz hsz .i64 .i64 n n n hl hc rfl rfl (by rw [hby, Nat.mul_comm]; omega) hn hbase fun w' h1 h2 => h w' ?_ ?_
 ·unfold OwnR
  rw [List.length_replicate, ← made_flat enc sz z.cells z0 hz hcs E.pos n]
  exact h1
 ·exact (Below.refl _ _).grown h2 (Nat.le_refl _) (fun k hk => by cases hk)
end Go.Proofs.YtmcdollkmlcpbaaGreatDoor
namespace Go.Proofs.YtmcdollkmlcpbaaGreatDoor
open Go.RowKit
set_option maxHeartbeats 400000 in
theorem refSame_any (A A' : Option Addr) (c c' : Nat) (l l' : List UInt8) (n n' : Int) (w : World) (hb : Bs w A l) (hb' : Bs w A' l') :
  Calls Tryz.prog 28 #[.agg #[.slice A l.length c, .int .i64 n], .agg #[.slice A' l'.length c', .int .i64 n']] w fun e w' => e = .returned (.bool (decide (n = n') && decide (l = l'))) ∧ Below w.heap.size w w' := by
 by_cases h : n = n'
 ·subst h
  have h1 := str_of (hb.below (below_alloc2 w (.cells #[.slice A l.length c, .int .i64 n] 33) (.cells #[.slice A' l'.length c', .int .i64 n] 33))) c
  have h2 := str_of (hb'.below (below_alloc2 w (.cells #[.slice A l.length c, .int .i64 n] 33) (.cells #[.slice A' l'.length c', .int .i64 n] 33))) c'
  have hs := str_eq l l'
  have HS := Lib.hid hs
  clear hs
  go_enter Tryz.func28, Tryz.ntmps28
  go_wp2
  go_ret
  exact ⟨ret_bool (by rw [← HS.out]; simp), below_alloc2 _ _ _⟩
 ·have hd : (n == n') = false := by simpa using h
  go_enter Tryz.func28, Tryz.ntmps28
  go_wp2
  go_ret
  exact ⟨ret_bool (by simp [h]), below_alloc2 _ _ _⟩
end Go.Proofs.YtmcdollkmlcpbaaGreatDoor
namespace Go.Proofs.YtmcdollkmlcpbaaGreatDoor
open Go.RowKit
theorem cut_v1 (x : UInt8) (s : Nat) : ((x.toNat : Int) * 2 ^ s % 256) = ((x.toNat * 2 ^ s % 256 : Nat) : Int) := by
 rw [Int.natCast_emod, Int.natCast_mul, Int.natCast_pow]; rfl
theorem cut_last {l : List UInt8} {a k : Nat} (h : a / 8 + k < l.length) (hn : ¬ a / 8 + k + 1 < l.length) : cutByte l (a / 8) (a % 8) k = (l[a / 8 + k]).toNat * 2 ^ (a % 8) % 256 := by
 unfold cutByte
 rw [List.getD_eq_getElem?_getD, List.getElem?_eq_getElem h, List.getD_eq_getElem?_getD, List.getElem?_eq_none (by omega)]
 simp
theorem cut_both {l : List UInt8} {a k : Nat} (h : a / 8 + k < l.length) (hn : a / 8 + k + 1 < l.length) :
  bits .or .u8 ((l[a / 8 + k].toNat : Int) * 2 ^ (a % 8) % 256) ((l[a / 8 + k + 1].toNat : Int) / 2 ^ (8 - a % 8)) = (cutByte l (a / 8) (a % 8) k : Int) := by
 rw [cut_v1, nat_shr, or_u8 _ _ (Nat.mod_lt _ (by decide)) (Nat.lt_of_le_of_lt (Nat.div_le_self _ _) (UInt8.toNat_lt _))]
 unfold cutByte
 rw [List.getD_eq_getElem?_getD, List.getElem?_eq_getElem h, List.getD_eq_getElem?_getD, List.getElem?_eq_getElem hn]
 rfl
theorem cut_b1 (x : UInt8) (s : Nat) : Value.int .u8 ((x.toNat : Int) * 2 ^ s % 256) = bv (UInt8.ofNat (x.toNat * 2 ^ s % 256)) := by
 rw [cut_v1, bv, UInt8.toNat_ofNat_of_lt' (Nat.mod_lt _ (by decide))]
theorem cut_b2 {l : List UInt8} {a k : Nat} (h : a / 8 + k < l.length) (hn : a / 8 + k + 1 < l.length) :
  Value.int .u8 (bits .or .u8 ((l[a / 8 + k].toNat : Int) * 2 ^ (a % 8) % 256) ((l[a / 8 + k + 1].toNat : Int) / 2 ^ (8 - a % 8))) = bv (UInt8.ofNat (cutByte l (a / 8) (a % 8) k)) := by
 rw [cut_both h hn, bv, UInt8.toNat_ofNat_of_lt' (cutByte_lt _ _ _ _)]
theorem OwnB.set2 {w : World} {base g n cap : Nat} {l : List UInt8} (h : OwnB w base (.slice (some ⟨g, 0, none⟩) n cap) l) (i : Nat) (x y : UInt8) :
  OwnB ((w.setCell ⟨g, i, none⟩ (bv x)).setCell ⟨g, i, none⟩ (bv y)) base (.slice (some ⟨g, 0, none⟩) n cap) (l.set i y) := by
 have := (h.set i x).set i y
 rwa [List.set_set] at this
theorem mask_valC (x : UInt8) (u : Nat) : Value.int .u8 (bits .and .u8 (x.toNat : Int) (255 * 2 ^ (8 - u) % 256)) = bv (UInt8.ofNat (maskByte x u)) := by
 have e : ((255 : Int) * 2 ^ (8 - u) % 256) = ((255 * 2 ^ (8 - u) % 256 : Nat) : Int) := by rw [Int.natCast_emod, Int.natCast_mul, Int.natCast_pow]; rfl
 rw [e, (bits_nat .u8 8 (by decide) (fun n h0 h1 => wraps_u8 n h0 h1) x.toNat _ x.toNat_lt (Nat.mod_lt _ (by decide))).1, bv, UInt8.toNat_ofNat_of_lt' (maskByte_lt _ _)]
 rfl
theorem bytesOf_of (d : Int) (n : Nat) (hd : d = n) (w : World) (hn : n ≤ 9223372036854775807) :
  Calls Tryz.prog 58 #[.int .i64 d] w fun e w' => e = .returned (.int .i64 (nb n)) ∧ w = w' := by
 subst hd; exact bytesOf_any n w (by omega)
set_option maxHeartbeats 2000000 in
theorem cut_ok (A : Option Addr) (c : Nat) (l : List UInt8) (m a b : Nat) (w : World) (hb : Bs w A l) (hl : l.length ≤ 1099511627776) (hs : soundB l m = true) (hab : a ≤ b) (hbm : b ≤ m) :
  Calls Tryz.prog 42 #[.agg #[.slice A l.length c, .int .i64 m], .int .i64 a, .int .i64 b] w fun e w' =>
   ∃ A' c', e = .returned (.tuple #[.agg #[.slice A' (pack (cutl l a (b - a))).length c', .int .i64 ((b - a : Nat) : Int)], .int .u16 0]) ∧ OwnB w' w.heap.size (.slice A' (pack (cutl l a (b - a))).length c') (pack (cutl l a (b - a))) ∧ Below w.heap.size w w' := by
 have hb0 := hb.below (below_alloc2 w (.cells #[.slice A l.length c, .int .i64 m] 33) (.cells #[.slice none 0 0, .int .i64 0] 33))
 obtain ⟨m', hm, hm8, -⟩ := sound_nat hs
 obtain rfl : m = m' := by omega
 have hlm : l.length ≤ maxLen := by unfold maxLen; omega
 obtain ⟨n, hn⟩ : ∃ n : Nat, n = b - a := ⟨_, rfl⟩
 have hnI : (b : Int) - a = (n : Int) := by omega
 obtain ⟨N, hN⟩ : ∃ N, N = nb n := ⟨_, rfl⟩
 have hN8 : n ≤ 8 * N ∧ 8 * N ≤ n + 7 := by rw [hN]; unfold nb; omega
 have hplen : (pack (cutl l a n)).length = N := by rw [pack_length, cutl_length, hN]
 have hNl : N ≤ l.length := by omega
 rw [← hn]
 have HP := Lib.hid hplen
 have HN := Lib.hid hN
 have Hn := Lib.hid hnI
 have HS := Lib.hid hs
 have hidx : ∀ k, k < N → a / 8 + k < l.length := fun k hk => by omega
 have HI := Lib.hid hidx
 clear hs hm hnI hN hplen hidx hn
 have h1 : decide ((a : Int) < 0) = false := by simp
 have h2 : decide (b < a) = false := by simp; omega
 have h3 : decide (m < b) = false := by simp; omega
 go_enter Tryz.func42, Tryz.ntmps42
 go_wp2_with (go_at_call 57; refine (sound_any A c l m _ hb0 (by omega) hlm).mono ?_; rw [HS.out]; rintro e w1 ⟨rfl, hb1⟩; obtain ⟨c0, c1, r0, r1, f0, f1, hsz⟩ := kept2 hb1 (by simp))
 rw [Hn.out]
 refine (bytesOf_of _ n rfl _ (by omega)).mono ?_
 rw [← HN.out]
 rintro e w2 ⟨rfl, rfl⟩
 go_wp2_with (at_make; go_must (refine mkB _ rfl (.tmp 36) (.tmp 36) rfl (w.heap.size + 2) N rfl rfl (by omega) hsz ?_); intro w3 hown3 hb3; clear c0 c1 r0 r1 f0 f1; have hb13 := hb1.trans (hb3.mono (by simpa using hsz)); obtain ⟨c0, c1, r0, r1, f0, f1, hsz3⟩ := kept2 hb13 (by simp))
 have hgw : w.heap.size + 2 ≤ w1.heap.size := hsz
 go_wp2
 go_loopw [44] (fun q wr => ∃ (k : Nat) (bb : List UInt8), k ≤ N ∧ q = .int .i64 k ∧ OwnB wr (w.heap.size + 2) (.slice (some ⟨w1.heap.size, 0, none⟩) N N) bb ∧ Hid (CutAt l a N k bb) ∧
   Below (w.heap.size + 2) ((w.alloc (.cells #[.slice A l.length c, .int .i64 m] 33)).alloc (.cells #[.slice none 0 0, .int .i64 0] 33)) wr)
  (fun q _ => N - (intOf q).toNat)
 case atStart => exact ⟨0, _, Nat.zero_le _, rfl, hown3, CutAt.zero l a N, by simpa using hb13⟩
 case round =>
  obtain ⟨k, bb, hk, rfl, hown, HC, hbel⟩ := hrel
  clear c0 c1 r0 r1 f0 f1 hsz3 hown3 hb3 hb13
  obtain ⟨c0, c1, r0, r1, f0, f1, hszr⟩ := kept2 hbel (by omega)
  have hbl := HC.out.1
  have hblN : N ≤ bb.length := by omega
  clear hbl
  by_cases hlt : k < N
  ·have hki := HI.out k hlt
   obtain ⟨p, o, rfl, hpl, hc⟩ := hb.at_ (show 0 < l.length by omega)
   have hcw : ∀ j (hj : j < l.length), wr.cell? ⟨p, o + j, none⟩ = some (bv l[j]) := fun j hj => by
    rw [hbel.cell (show p < w.heap.size + 2 by omega), World.cell?_alloc_lt _ _ _ (by simp; omega), World.cell?_alloc_lt _ _ _ hpl]
    exact hc j hj
   have hc1 := hcw _ hki
   have hx := hown.cell k (by omega)
   have hfr := hown.frozen k
   have fx0 := fun (W : World) (u : Value) => World.cell?_setCell_other W ⟨w1.heap.size, k, none⟩ ⟨w.heap.size, 0, none⟩ u (by intro e; injection e with e; omega)
   have fx1 := fun (W : World) (u : Value) => World.cell?_setCell_other W ⟨w1.heap.size, k, none⟩ ⟨w.heap.size, 1, none⟩ u (by intro e; injection e with e; omega)
   have fp := fun (W : World) (u : Value) (j : Nat) => World.cell?_setCell_other W ⟨w1.heap.size, k, none⟩ ⟨p, j, none⟩ u (by intro e; injection e with e; omega)
   have hkI : (a : Int) / 8 + k < l.length := by omega
   by_cases hn : a / 8 + k + 1 < l.length
   ·have hnI : (a : Int) / 8 + k + 1 < l.length := by omega
    have hc2 := hcw _ hn
    clear hcw hc
    go_wp2
    go_region
    go_wp2
    go_roundw
    case measure => simp [intOf]; omega
    case rel =>
     rw [cut_b1, cut_b2 hki hn]
     exact ⟨k + 1, _, by omega, by go_num, (hown.set2 _ _ _).drew, HC.out.step hlt, ((hbel.setCell (show w.heap.size + 2 ≤ w1.heap.size from hgw) _).setCell (show w.heap.size + 2 ≤ w1.heap.size from hgw) _).drew⟩
   ·have hnI : ¬ (a : Int) / 8 + k + 1 < l.length := by omega
    clear hcw hc
    go_wp2
    go_roundw
    case measure => simp [intOf]; omega
    case rel =>
     rw [cut_b1, ← cut_last hki hn]
     exact ⟨k + 1, _, by omega, by go_num, hown.set _ _, HC.out.step hlt, hbel.setCell (show w.heap.size + 2 ≤ w1.heap.size from hgw) _⟩
  ·have hkN : N ≤ k := by omega
   by_cases h8 : n % 8 = 0
   ·have hg8 : (((n : Int) % 8) != 0) = false := by simp; omega
    go_wp2
    obtain rfl : k = N := by omega
    have e : bb = pack (cutl l a n) := by have h := HC.out; rw [HN.out] at h; exact cut_even h h8
    refine bodyPost_ret (v := .tuple #[.agg #[.slice (some ⟨w1.heap.size, 0, none⟩) k k, .int .i64 n], .int .u16 0]) (by simp [results, Tryz.results42, go_sem, r0, r1]) rfl ?_
    rw [HP.out, ← e]
    have hne := hown.ne (show w.heap.size + 1 < w.heap.size + 2 by omega)
    exact ⟨_, _, rfl, ((hown.mono (by omega)).far hne _).far hne _, (((below_alloc2 _ _ _).trans (hbel.mono (by simp))).setCell (by simp) _).setCell (by simp) _⟩
   ·have hg8 : (((n : Int) % 8) != 0) = true := by simp; omega
    have hN0 : 0 < N := by omega
    have hx := hown.cell (N - 1) (by omega)
    have hfr := hown.frozen (N - 1)
    obtain rfl : k = N := by omega
    have e : bb.set (k - 1) (UInt8.ofNat (maskByte bb[k - 1] (n % 8))) = pack (cutl l a n) := by
     have h := HC.out
     rw [HN.out] at h
     have h2 := cut_odd h h8 (bb[k - 1]'(by omega)) (by rw [← HN.out]; exact List.getElem?_eq_getElem (by omega))
     rwa [← HN.out] at h2
    have HE := Lib.hid e
    clear e
    go_wp2
    go_region
    go_wp2
    rw [mask_valC]
    have hne := hown.ne (show w.heap.size + 1 < w.heap.size + 2 by omega)
    have fx0 := fun (W : World) (u : Value) => World.cell?_setCell_other W ⟨w1.heap.size, k - 1, none⟩ ⟨w.heap.size + 1, 0, none⟩ u (by intro e; injection e with e; omega)
    refine bodyPost_ret (v := .tuple #[.agg #[.slice (some ⟨w1.heap.size, 0, none⟩) k k, .int .i64 n], .int .u16 0]) (by simp [results, Tryz.results42, go_sem, r0, r1]) rfl ?_
    rw [HP.out, ← HE.out]
    have ho := (hown.set (k - 1) (UInt8.ofNat (maskByte bb[k - 1] (n % 8)))).drew
    have hne2 := ho.ne (show w.heap.size + 1 < w.heap.size + 2 by omega)
    exact ⟨_, _, rfl, ((ho.mono (by omega)).far hne2 _).far hne2 _, (((below_alloc2 _ _ _).trans ((hbel.setCell (show w.heap.size + 2 ≤ w1.heap.size from hgw) _).drew.mono (by simp))).setCell (by simp) _).setCell (by simp) _⟩
end Go.Proofs.YtmcdollkmlcpbaaGreatDoor
set_option linter.unusedSimpArgs false
set_option linter.unusedVariables false
namespace Go.Proofs.YtmcdollkmlcpbaaGreatDoor
open Go.RowKit
set_option maxRecDepth 100000
structure NoD where
 kd : Nat
 ep : Nat
 se : Nat
 st : Int
 sv : Nat
 pc : Nat
 pb : Nat
 pn : Nat
 cn : Nat
 cl : Bool
 l : List UInt8
 n : Int
def NoD.ok (d : NoD) : Prop := d.kd < 256 ∧ d.ep < 4294967296 ∧ d.se < 4294967296 ∧ (-9223372036854775808 ≤ d.st ∧ d.st ≤ 9223372036854775807) ∧ d.sv < 18446744073709551616 ∧ d.pc < 4294967296 ∧ d.pb < 4294967296 ∧ d.pn < 4294967296 ∧ d.cn < 4294967296 ∧ -9223372036854775808 ≤ d.n ∧ d.n ≤ 9223372036854775807
def zeroN : NoD := ⟨0, 0, 0, 0, 0, 0, 0, 0, 0, false, [], 0⟩
def emptyN (d : NoD) : Bool := decide (d.cn = 0) && !d.cl && decide (d.n = 0) && decide (d.l.length = 0)
def bringN (d : NoD) : Bool := soundB d.l d.n && decide (0 < d.n) && decide (d.l.length ≤ 500) && decide (d.pn < d.cn)
def mayN (d : NoD) : Bool :=
 if d.kd = 1 then decide (d.se = 0) && decide (d.st = 0 ∧ d.sv = 0) && decide (d.pc = 0 ∧ d.pb = 0 ∧ d.pn = 0) && emptyN d
 else if d.kd = 2 then decide (d.ep = 0) && decide (d.pc = 0 ∧ d.pb = 0 ∧ d.pn = 0) && emptyN d
 else if d.kd = 3 then decide (d.ep = 0) && decide (d.st = 0 ∧ d.sv = 0) && emptyN d
 else if d.kd = 4 then decide (d.ep = 0) && decide (d.st = 0 ∧ d.sv = 0) && bringN d
 else false
def noC (d : NoD) (A : Option Addr) (c : Nat) : Array Value := #[.int .u8 (d.kd : Nat), .int .u32 (d.ep : Nat), .int .u32 (d.se : Nat), .int .i64 d.st, .int .u64 (d.sv : Nat), .int .u32 (d.pc : Nat), .int .u32 (d.pb : Nat), .int .u32 (d.pn : Nat), .int .u32 (d.cn : Nat), .bool d.cl, .slice A d.l.length c, .int .i64 d.n]
theorem eqInSm_run (a b : Int × Nat) (w : World) : (Op.equalIn 10000 42 (.agg #[.int .i64 a.1, .int .u64 (a.2 : Nat)]) (.agg #[.int .i64 b.1, .int .u64 (b.2 : Nat)])).run Tryz.prog w = .ok (decide (a = b)) w := by
 have u1 := Tryz.underlying2
 have u2 := Tryz.underlying37
 have hS : Tryz.prog.underlying 42 = some (.struct (Tryz.prog.fieldsOf 42)) := by kernel_rfl
 have hp : Tryz.prog.stoodInHeld 42 = false := by kernel_rfl
 obtain ⟨a1, a2⟩ := a
 obtain ⟨b1, b2⟩ := b
 rw [show (10000 : Nat) = 9999 + 1 from rfl, run_equalIn_agg w 9999 42 _ _ hS hp]
 simp only [Program.fieldsOf, Tryz.underlying42]
 go_simp
 by_cases h : a1 = b1
 rotate_left
 ·simp [h] <;> (intros; omega)
 subst h
 by_cases h : a2 = b2 <;> simp [h] <;> (intros; omega)
theorem eqSm_run (a1 : Int) (a2 : Nat) (b1 : Int) (b2 : Nat) (w : World) : (binOp .eql 42 (.agg #[.int .i64 a1, .int .u64 (a2 : Nat)]) (.agg #[.int .i64 b1, .int .u64 (b2 : Nat)])).run Tryz.prog w = .ok (.bool (decide ((a1, a2) = (b1, b2)))) w := by
 rw [run_eql_struct, eqInSm_run (a1, a2) (b1, b2)]; rfl
theorem eqSm0_run (a1 : Int) (a2 : Nat) (w : World) : (binOp .eql 42 (.agg #[.int .i64 a1, .int .u64 (a2 : Nat)]) (.agg #[.int .i64 0, .int .u64 0])).run Tryz.prog w = .ok (.bool (decide (a1 = 0 ∧ a2 = 0))) w := by
 have := eqSm_run a1 a2 0 0 w
 rw [show decide ((a1, a2) = ((0 : Int), (0 : Nat))) = decide (a1 = 0 ∧ a2 = 0) by simp] at this
 exact this
theorem nbrings_any (d : NoD) (A : Option Addr) (c : Nat) (w : World) (hA : Bs w A d.l) (ho : d.ok) (hL : d.l.length ≤ 100000) : Calls Tryz.prog 73 #[.agg (noC d A c)] w fun e w' => e = .returned (.bool (bringN d)) ∧ Below w.heap.size w w' := by
 obtain ⟨kd, ep, se, st, sv, pc, pb, pn, cn, cl, l, n⟩ := d
 simp only at hA hL
 have hno := And.intro ho.2.2.2.2.2.2.2.2.2.1 ho.2.2.2.2.2.2.2.2.2.2
 simp only at hno
 obtain ⟨r, hr⟩ : ∃ r, r = bringN ⟨kd, ep, se, st, sv, pc, pb, pn, cn, cl, l, n⟩ := ⟨_, rfl⟩
 rw [← hr]
 unfold bringN at hr
 simp only [noC] at hr ⊢
 have HK := Lib.hid ((Qs.zero w).box #[.int .u8 (kd : Nat), .int .u32 (ep : Nat), .int .u32 (se : Nat), .int .i64 st, .int .u64 (sv : Nat), .int .u32 (pc : Nat), .int .u32 (pb : Nat), .int .u32 (pn : Nat), .int .u32 (cn : Nat), .bool cl, .slice A l.length c, .int .i64 n] 44)
 have HS := Lib.hid (sound_any A c l n (w.alloc (.cells #[.int .u8 (kd : Nat), .int .u32 (ep : Nat), .int .u32 (se : Nat), .int .i64 st, .int .u64 (sv : Nat), .int .u32 (pc : Nat), .int .u32 (pb : Nat), .int .u32 (pn : Nat), .int .u32 (cn : Nat), .bool cl, .slice A l.length c, .int .i64 n] 44)) (hA.below (below_alloc w _)) hno (by unfold maxLen; omega))
 have C := HK.out.says
 simp only [sayAll, cellsSay, qB, qW, Nat.reduceAdd, and_true, true_and] at C
 clear hA ho hno
 by_cases c0 : soundB l n = true
 rotate_left
 ·have hs : soundB l n = false := by simpa using c0
  rw [hs] at HS
  have Hr := Lib.hid (show r = false by rw [hr]; simp [c0])
  clear hr hs c0
  go_enter Tryz.func73, Tryz.ntmps73
  go_wp2_with fail
  refine HS.out.mono ?_
  rintro e w1 ⟨rfl, b1⟩
  have HK1 := Lib.hid (HK.out.go b1)
  clear C b1
  have C := HK1.out.says
  simp only [sayAll, cellsSay, qB, qW, Nat.reduceAdd, and_true, true_and] at C
  go_wp2_with fail
  go_ret
  exact ⟨by rw [Hr.out]; rfl, HK1.out.top 1⟩
 have hs : soundB l n = true := by exact c0
 rw [hs] at HS
 by_cases c1 : 0 < n
 rotate_left
 ·have h_n : decide (0 < n) = false := decide_eq_false (by omega)
  have Hr := Lib.hid (show r = false by rw [hr]; simp [c0, c1])
  clear hr hs c0 c1
  go_enter Tryz.func73, Tryz.ntmps73
  go_wp2_with fail
  refine HS.out.mono ?_
  rintro e w1 ⟨rfl, b1⟩
  have HK1 := Lib.hid (HK.out.go b1)
  clear C b1
  have C := HK1.out.says
  simp only [sayAll, cellsSay, qB, qW, Nat.reduceAdd, and_true, true_and] at C
  go_wp2_with fail
  go_ret
  exact ⟨by rw [Hr.out]; rfl, HK1.out.top 1⟩
 have h_n : decide (0 < n) = true := decide_eq_true (by omega)
 by_cases c2 : l.length ≤ 500
 rotate_left
 ·have h_l : decide ((l.length : Int) ≤ 500) = false := decide_eq_false (by omega)
  have h_l2 : decide (l.length ≤ 500) = false := decide_eq_false (by omega)
  have Hr := Lib.hid (show r = false by rw [hr]; simp [c0, c1, c2])
  clear hr hs c0 c1 c2
  go_enter Tryz.func73, Tryz.ntmps73
  go_wp2_with fail
  refine HS.out.mono ?_
  rintro e w1 ⟨rfl, b1⟩
  have HK1 := Lib.hid (HK.out.go b1)
  clear C b1
  have C := HK1.out.says
  simp only [sayAll, cellsSay, qB, qW, Nat.reduceAdd, and_true, true_and] at C
  go_wp2_with fail
  go_ret
  exact ⟨by rw [Hr.out]; rfl, HK1.out.top 1⟩
 have h_l : decide ((l.length : Int) ≤ 500) = true := decide_eq_true (by omega)
 have h_l2 : decide (l.length ≤ 500) = true := decide_eq_true (by omega)
 by_cases c3 : pn < cn
 rotate_left
 ·have h_f : decide (pn < cn) = false := decide_eq_false (by omega)
  have h_f2 : decide ((pn : Int) < (cn : Int)) = false := decide_eq_false (by omega)
  have Hr := Lib.hid (show r = false by rw [hr]; simp [c0, c1, c2, c3])
  clear hr hs c0 c1 c2 c3
  go_enter Tryz.func73, Tryz.ntmps73
  go_wp2_with fail
  refine HS.out.mono ?_
  rintro e w1 ⟨rfl, b1⟩
  have HK1 := Lib.hid (HK.out.go b1)
  clear C b1
  have C := HK1.out.says
  simp only [sayAll, cellsSay, qB, qW, Nat.reduceAdd, and_true, true_and] at C
  go_wp2_with fail
  go_ret
  exact ⟨by rw [Hr.out]; rfl, HK1.out.top 1⟩
 have h_f : decide (pn < cn) = true := decide_eq_true (by omega)
 have h_f2 : decide ((pn : Int) < (cn : Int)) = true := decide_eq_true (by omega)
 have Hr := Lib.hid (show r = true by rw [hr]; simp [c0, c1, c2, c3])
 clear hr hs c0 c1 c2 c3
 go_enter Tryz.func73, Tryz.ntmps73
 go_wp2_with fail
 refine HS.out.mono ?_
 rintro e w1 ⟨rfl, b1⟩
 have HK1 := Lib.hid (HK.out.go b1)
 clear C b1
 have C := HK1.out.says
 simp only [sayAll, cellsSay, qB, qW, Nat.reduceAdd, and_true, true_and] at C
 go_wp2_with fail
 go_ret
 exact ⟨by rw [Hr.out]; rfl, HK1.out.top 1⟩
set_option maxHeartbeats 4000000 in
theorem nmayP_any (se pc pb pn cn : Nat) (cl : Bool) (l : List UInt8) (n : Int) (A : Option Addr) (c : Nat) (w : World) (hA : Bs w A l) (ho : (⟨4, 0, se, 0, 0, pc, pb, pn, cn, cl, l, n⟩ : NoD).ok) (hL : l.length ≤ 100000) : Calls Tryz.prog 59 #[.agg (noC ⟨4, 0, se, 0, 0, pc, pb, pn, cn, cl, l, n⟩ A c)] w fun e w' => e = .returned (.bool (mayN ⟨4, 0, se, 0, 0, pc, pb, pn, cn, cl, l, n⟩)) ∧ Below w.heap.size w w' := by
 have hB := nbrings_any ⟨4, 0, se, 0, 0, pc, pb, pn, cn, cl, l, n⟩ A c (w.alloc (.cells (noC ⟨4, 0, se, 0, 0, pc, pb, pn, cn, cl, l, n⟩ A c) 44)) (hA.below (below_alloc w _)) ho hL
 have hr : mayN ⟨4, 0, se, 0, 0, pc, pb, pn, cn, cl, l, n⟩ = bringN ⟨4, 0, se, 0, 0, pc, pb, pn, cn, cl, l, n⟩ := by unfold mayN; simp
 obtain ⟨bb, hbb⟩ : ∃ bb, bb = bringN ⟨4, 0, se, 0, 0, pc, pb, pn, cn, cl, l, n⟩ := ⟨_, rfl⟩
 rw [hr, ← hbb]
 rw [← hbb] at hB
 simp only [noC] at hB ⊢
 have HB := Lib.hid hB
 have HK := Lib.hid ((Qs.zero w).box #[.int .u8 ((4 : Nat) : Int), .int .u32 ((0 : Nat) : Int), .int .u32 (se : Nat), .int .i64 0, .int .u64 ((0 : Nat) : Int), .int .u32 (pc : Nat), .int .u32 (pb : Nat), .int .u32 (pn : Nat), .int .u32 (cn : Nat), .bool cl, .slice A l.length c, .int .i64 n] 44)
 have C := HK.out.says
 simp only [sayAll, cellsSay, qB, qW, Nat.reduceAdd, and_true, true_and] at C
 have hQ := fun w => eqSm0_run 0 0 w
 rw [decide_eq_true ⟨rfl, rfl⟩] at hQ
 clear hB hA ho hL hr hbb
 go_enter Tryz.func59, Tryz.ntmps59
 go_wp2_with fail
 refine HB.out.mono ?_
 rintro e w1 ⟨rfl, b1⟩
 have HK1 := Lib.hid (HK.out.go b1)
 go_wp2_with fail
 go_ret
 exact ⟨rfl, HK1.out.top 1⟩
end Go.Proofs.YtmcdollkmlcpbaaGreatDoor
