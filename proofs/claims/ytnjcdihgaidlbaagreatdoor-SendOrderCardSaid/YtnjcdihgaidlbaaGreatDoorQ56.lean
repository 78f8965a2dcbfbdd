/- Joined behind the others: Gen, Frame, Row, FrameS, FrameF, Smp, MathBk, Bk24, Bk25, FrameOB, FrameOS, MathBk3, Bk26, Bk27, Bk28, Win1, Sn3, Sn6, Sn20, Sn21, Sn24, Sn25. -/
import Derived.Test.YtnjcdihgaidlbaaGreatDoorQ1
import Derived.Test.YtnjcdihgaidlbaaGreatDoorQ2
import Derived.Test.YtnjcdihgaidlbaaGreatDoorQ3
import Derived.Test.YtnjcdihgaidlbaaGreatDoorQ4
import Derived.Test.YtnjcdihgaidlbaaGreatDoorQ5
import Derived.Test.YtnjcdihgaidlbaaGreatDoorQ6
import Derived.Test.YtnjcdihgaidlbaaGreatDoorQ7
import Derived.Test.YtnjcdihgaidlbaaGreatDoorQ8
import Derived.Test.YtnjcdihgaidlbaaGreatDoorQ9
import Derived.Test.YtnjcdihgaidlbaaGreatDoorQ10
import Derived.Test.YtnjcdihgaidlbaaGreatDoorQ11
import Derived.Test.YtnjcdihgaidlbaaGreatDoorQ12
import Derived.Test.YtnjcdihgaidlbaaGreatDoorQ13
import Derived.Test.YtnjcdihgaidlbaaGreatDoorQ14
import Derived.Test.YtnjcdihgaidlbaaGreatDoorQ15
import Derived.Test.YtnjcdihgaidlbaaGreatDoorQ16
import Derived.Test.YtnjcdihgaidlbaaGreatDoorQ17
import Derived.Test.YtnjcdihgaidlbaaGreatDoorQ18
import Derived.Test.YtnjcdihgaidlbaaGreatDoorQ19
import Derived.Test.YtnjcdihgaidlbaaGreatDoorQ20
import Derived.Test.YtnjcdihgaidlbaaGreatDoorQ21
import Derived.Test.YtnjcdihgaidlbaaGreatDoorQ22
import Derived.Test.YtnjcdihgaidlbaaGreatDoorQ23
import Derived.Test.YtnjcdihgaidlbaaGreatDoorQ24
import Derived.Test.YtnjcdihgaidlbaaGreatDoorQ25
import Derived.Test.YtnjcdihgaidlbaaGreatDoorQ26
import Derived.Test.YtnjcdihgaidlbaaGreatDoorQ27
import Derived.Test.YtnjcdihgaidlbaaGreatDoorQ28
import Derived.Test.YtnjcdihgaidlbaaGreatDoorQ29
import Derived.Test.YtnjcdihgaidlbaaGreatDoorQ30
import Derived.Test.YtnjcdihgaidlbaaGreatDoorQ31
import Derived.Test.YtnjcdihgaidlbaaGreatDoorQ32
import Derived.Test.YtnjcdihgaidlbaaGreatDoorQ33
import Derived.Test.YtnjcdihgaidlbaaGreatDoorQ34
import Derived.Test.YtnjcdihgaidlbaaGreatDoorQ35
import Derived.Test.YtnjcdihgaidlbaaGreatDoorQ36
import Derived.Test.YtnjcdihgaidlbaaGreatDoorQ37
import Derived.Test.YtnjcdihgaidlbaaGreatDoorQ38
import Derived.Test.YtnjcdihgaidlbaaGreatDoorQ39
import Derived.Test.YtnjcdihgaidlbaaGreatDoorQ40
import Derived.Test.YtnjcdihgaidlbaaGreatDoorQ41
import Derived.Test.YtnjcdihgaidlbaaGreatDoorQ42
import Derived.Test.YtnjcdihgaidlbaaGreatDoorQ43
import Derived.Test.YtnjcdihgaidlbaaGreatDoorQ44
import Derived.Test.YtnjcdihgaidlbaaGreatDoorQ45
import Derived.Test.YtnjcdihgaidlbaaGreatDoorQ46
import Derived.Test.YtnjcdihgaidlbaaGreatDoorQ47
import Derived.Test.YtnjcdihgaidlbaaGreatDoorQ48
import Derived.Test.YtnjcdihgaidlbaaGreatDoorQ49
import Derived.Test.YtnjcdihgaidlbaaGreatDoorQ50
import Derived.Test.YtnjcdihgaidlbaaGreatDoorQ51
import Derived.Test.YtnjcdihgaidlbaaGreatDoorQ52
import Derived.Laws.CopyOwn
import Derived.Laws.IdiomStrings
import Derived.Laws.BytesArg
import Derived.Laws.StructEq
import Derived.MapKept
import Derived.ProofKit
import Derived.OpenShut
import Derived.Lib.SmallJoins
import Derived.Carry
import Derived.Deep.Fields
import Derived.Deep.Slices
import Derived.Deep.SlicePairs
import Derived.Deep.CutBlock
import Derived.Deep.DeepCutAuto
set_option linter.unusedSimpArgs false
set_option linter.unusedVariables false
/-
  Memory of the call's own, whatever it holds: what is made, appended to, stored into; kept while the world grows.
-/
set_option linter.unusedSimpArgs false
set_option linter.unusedVariables false
namespace Go.Proofs.YtnjcdihgaidlbaaGreatDoor
open Go.RowKit

section
variable {w w' : World} {g : Nat} {t : TypeId} {cs : Array Value}
end

theorem own_grown {w w' : World} {base : Nat} {e : TypeId} {size n : Nat} {v : Value} {xs : List Value} (h : w.ownsRow base e size v n xs) (hg : w.grownBy w' v.ownBlock) (hb : base ≤ w.heap.size) : Below base w w' :=
  (Below.refl _ _).grown hg hb fun k hk => (h.lt k hk).1

end Go.Proofs.YtnjcdihgaidlbaaGreatDoor

/- The parameters of the statements, opened: what a reading gives to the walks. -/
namespace Go.Proofs.YtnjcdihgaidlbaaGreatDoor
open Go.ChangeShapes Go.WideShapes Go.ChangeAt Go.RowKit Go.Joins
set_option maxRecDepth 100000


theorem wf_u8s {zs : List Int} (h : ∀ n ∈ zs, (Lit.int .u8 n).wf = true) : ∃ l : List UInt8, zs = l.map fun b => (b.toNat : Int) := by
  refine ⟨zs.map fun n => UInt8.ofNat n.toNat, ?_⟩
  rw [List.map_map]
  apply List.ext_getElem (by simp)
  intro i h1 h2
  simp only [List.getElem_map, Function.comp]
  have := bounds_u8 (h zs[i] (List.getElem_mem h1))
  rw [UInt8.toNat_ofNat_of_lt' (show zs[i].toNat < 256 by omega)]
  omega

section
variable {H : Type} {enc : TypeId × Value → H} {W : World}

/-- a slice of bytes, as one cell reads -/
theorem open_bytes {fuel : Nat} {v : Value} {x : DataW H × List MemPlace} {sp : Nat → Bool} {held : Bool} {b0 : Nat} (h : DataW.trod enc Tryz.prog W b0 sp held fuel 42 [v] = some x) :
    ∃ (A : Option Addr) (c : Nat) (l : List UInt8), v = .slice A l.length c ∧ l.length ≤ maxLen ∧ Bs W A l := by
  rcases open_ints Tryz.underlying42 Tryz.underlying5 (by kernel_rfl) h with ⟨hcs, _⟩ | ⟨a, len, cap, zs, hcs, _, hl, hm, hz, _, hcell, hwz⟩
  · simp at hcs
    exact ⟨none, 0, [], hcs, Nat.zero_le _, Bs.nil _ _⟩
  · simp at hcs
    obtain ⟨l, rfl⟩ := wf_u8s hwz
    have hlen : len ≤ l.length := by
      rw [List.length_map] at hz
      rw [hz]; split <;> omega
    refine ⟨some a, cap, l.take len, ?_, ?_, fun i b hi => ?_⟩
    · rw [List.length_take, Nat.min_eq_left hlen]; exact hcs
    · rw [List.length_take]; omega
    · rw [List.getElem?_take] at hi
      split at hi
      · rename_i hil
        have hil' : i < l.length := by omega
        have hc := hcell i (by rw [List.length_map]; exact hil')
        have e : (l.map fun b => (b.toNat : Int)).getD i 0 = (b.toNat : Int) := by
          rw [List.getD_eq_getElem?_getD, List.getElem?_map, hi]; rfl
        rw [e] at hc
        obtain ⟨p, o, spot⟩ := a
        have hc0 := hcell 0 (by rw [List.length_map]; omega)
        have hs : spot = none := by simpa [Addr.add] using World.cell?_spot hc0
        subst hs
        refine ⟨p, o, rfl, ?_⟩
        rw [← hc]
        congr 1
        unfold Addr.add
        split
        · rename_i h0; subst h0; rfl
        · rfl
      · cases hi

end

end Go.Proofs.YtnjcdihgaidlbaaGreatDoor

/-
  Rows of elements of several cells each: as a slice reads them, and as the call's own; append of one and of many.
-/
set_option linter.unusedSimpArgs false
set_option linter.unusedVariables false
namespace Go.Proofs.YtnjcdihgaidlbaaGreatDoor
open Go.RowKit

section
variable {α : Type}

theorem Rw.none {w : World} {enc : α → List Value} {sz : Nat} {l : List α} (h : Rw w enc sz none l) : l = [] := by
  cases l with
  | nil => rfl
  | cons x l => obtain ⟨p, o, hV, _⟩ := h 0 x rfl; cases hV

theorem flat_at (enc : α → List Value) (sz : Nat) (hsz : 0 < sz) (hlen : ∀ x, (enc x).length = sz) (l : List α) (k : Nat) (u : Value) (h : (l.flatMap enc)[k]? = some u) : ∃ x, l[k / sz]? = some x ∧ (enc x)[k % sz]? = some u := by
  have hk : k < (l.flatMap enc).length := by
    rcases Nat.lt_or_ge k (l.flatMap enc).length with h1 | h1
    · exact h1
    · rw [List.getElem?_eq_none h1] at h; cases h
  rw [flat_length enc sz hlen] at hk
  have hi : k / sz < l.length := (Nat.div_lt_iff_lt_mul hsz).2 hk
  refine ⟨l[k / sz], List.getElem?_eq_getElem hi, ?_⟩
  rw [← flat_get enc sz hlen l (k / sz) _ (List.getElem?_eq_getElem hi) (k % sz) (Nat.mod_lt _ hsz), Nat.mul_comm, Nat.div_add_mod]
  exact h

section
variable {w w' : World} {base : Nat} {e : TypeId} {enc : α → List Value} {sz : Nat} {v : Value} {l : List α}
end

theorem run_app_nilR {P : Program} (w : World) (base : Nat) (t ty e : TypeId) (i : TypeInfo) (size : Nat) (ht : P.underlying t = some (.slice e)) (hi : P.info? e = some i)
    (v : Value) (n : Nat) (xs : List Value) (hown : w.ownsRow base e size v n xs) (c : Nat) : (Builtin.append_ #[t, t] ty #[v, .slice none 0 c]).run P w = .ok v w := by
  rcases hown.2 with ⟨rfl, rfl⟩ | ⟨g, cap, cur, rfl, _, _, hnc, _⟩
  · simp [Builtin.append_, run_underlying ht, sizeOf, typeInfo, hi, Builtin.lenOf, Builtin.firstCells]
  · simp [Builtin.append_, run_underlying ht, sizeOf, typeInfo, hi, Builtin.lenOf, Builtin.firstCells, hnc, storeCells]

/-- 'append(out, x...)' -/
theorem appR {P : Program} {t e : TypeId} {enc : α → List Value} {sz bytes : Nat} (E : Elt P t e enc sz bytes) (w : World) {ops : Array Oper} {rest : List Oper} {o : Oper} {a : Act} {Q : Exit → Act → World → Prop} (hgd : o.guard = none) (s x : Operand)
    (ho : o.op = .call { callee := .builtin .append, args := #[s, x], argTypes := #[t, t] })
    (base : Nat) (v : Value) (L : List α) (hs : a.eval s = v) (hown : OwnR w base e enc sz v L) (A : Option Addr) (c : Nat) (l : List α)
    (hx : a.eval x = .slice A l.length c) (hb : Rw w enc sz A l) (hlen : L.length + l.length ≤ maxLen) (hbytes : (L.length + l.length) * bytes ≤ 140737488355328) (hbase : base ≤ w.heap.size)
    (h : ∀ A' c' w', OwnR w' base e enc sz (.slice A' (L.length + l.length) c') (L ++ l) → Below base w w' → wpList P ops Q rest (a.put o.dst (.slice A' (L.length + l.length) c')) w') : wpList P ops Q (o :: rest) a w := by
  obtain ⟨z, hinfo, hzs⟩ := E.info
  obtain ⟨i, hi, hz, hsz, hby⟩ := info_parts hinfo
  rcases A with _ | ad
  · have h0 := hb.none
    subst h0
    obtain ⟨A', c', rfl, _⟩ := hown.row E
    refine wpList_plain hgd fun K hK => ?_
    have hrun := run_app_nilR (P := P) w base t o.type e i sz E.under hi _ _ _ hown c
    unfold Oper.wp
    simp [execOp, ho, resolve, invoke, builtin, hs, hx, hrun, Result.andThen]
    exact hK _ _ (h A' c' w (by simpa using hown) (Below.refl _ _))
  · refine wpList_append_own (P := P) w hgd s x t ho base e i z sz bytes E.under hi hz hsz hby hzs E.pos v L.length (L.flatMap enc) hs hown ad l.length c (l.flatMap enc) hx (flat_length enc sz E.len l) ?_ ?_ hlen hbytes hbase fun v' w' h2 h3 _ => ?_
    · intro j u hj
      obtain ⟨y, hy, hu⟩ := flat_at enc sz E.pos E.len l j u hj
      obtain ⟨p, o, hA, hc⟩ := hb _ y hy
      injection hA with e
      subst e
      have h1 := hc _ u hu
      rw [Nat.add_assoc, Nat.mul_comm, Nat.div_add_mod] at h1
      unfold Addr.add
      split
      · rename_i h0; subst h0; simpa using h1
      · exact h1
    · intro u hu
      obtain ⟨y, _, hy⟩ := List.mem_flatMap.1 hu
      exact E.one y u hy
    · have h4 : OwnR w' base e enc sz v' (L ++ l) := by unfold OwnR; rw [List.length_append, List.flatMap_append]; exact h2
      obtain ⟨A', c', hv, _⟩ := h4.row E
      rw [List.length_append] at hv
      subst hv
      exact h A' c' w' h4 (own_grown hown h3 hbase)

end

end Go.Proofs.YtnjcdihgaidlbaaGreatDoor

/- An argument that is a slice of structs: opened as rows; plain cells by kind. -/
set_option linter.unusedSimpArgs false
set_option linter.unusedVariables false
namespace Go.Proofs.YtnjcdihgaidlbaaGreatDoor
open Go.Joins Go.ChangeShapes Go.WideShapes Go.RowKit Go.Deep
set_option maxRecDepth 100000

theorem list_ofR {α : Type} (P : Nat → α → Prop) (n : Nat) (h : ∀ i, i < n → ∃ x, P i x) : ∃ l : List α, l.length = n ∧ ∀ i x, l[i]? = some x → P i x := by
  induction n with
  | zero => exact ⟨[], rfl, fun i x h => by simp at h⟩
  | succ n ih =>
    obtain ⟨l, hl, hp⟩ := ih fun i hi => h i (by omega)
    obtain ⟨x, hx⟩ := h n (by omega)
    refine ⟨l ++ [x], by simp [hl], fun i y hy => ?_⟩
    rcases Nat.lt_or_ge i n with h1 | h1
    · rw [List.getElem?_append_left (by omega)] at hy; exact hp i y hy
    · rw [List.getElem?_append_right (by omega), hl] at hy
      have : i - n = 0 := by
        rcases Nat.eq_zero_or_pos (i - n) with h2 | h2
        · exact h2
        · rw [List.getElem?_eq_none (by simp; omega)] at hy; cases hy
      rw [this] at hy
      simp at hy
      subst hy
      obtain rfl : i = n := by omega
      exact hx
theorem spotR {w : World} {a : Addr} {v : Value} (h : w.cell? a = some v) : ∃ p o, a = ⟨p, o, none⟩ := by
  obtain ⟨p, o, s⟩ := a
  have : s = none := World.cell?_spot h
  exact ⟨p, o, by rw [this]⟩
theorem addR (p o i : Nat) : (⟨p, o, none⟩ : Addr).add i = ⟨p, o + i, none⟩ := by
  unfold Addr.add
  split
  · rename_i h0; subst h0; rfl
  · rfl

section
variable {H : Type} {ench : TypeId × Value → H} {W : World} {P : Program}
/-- a slice of elements of sz cells each, each of which can be read so -/
theorem open_rows {α : Type} {enc : α → List Value} {sz : Nat} {ok : α → Prop} {t e : TypeId} {b0 : Nat} {v : Value} {d : DataW H} {p : List MemPlace} (ht : P.underlying t = some (.slice e)) (hsz : P.cellsOf e = sz) (hpos : 0 < sz) (henc : ∀ x, (enc x).length = sz)
    (hd : ∀ (fuel : Nat) (cs : List Value) (x : DataW H × List MemPlace), cs.length = sz → DataW.trod ench P W 0 (fun _ => true) true fuel e cs = some x → ∃ y, cs = enc y ∧ ok y)
    (hv : Value.okWide P W .any b0 t v) (h : DataW.Trod ench P W 0 (fun _ => true) true t v d p) :
    ∃ (V : Option Addr) (c : Nat) (l : List α), v = .slice V l.length c ∧ Rw W enc sz V l ∧ l.length ≤ c ∧ l.length ≤ maxLen ∧ ∀ x ∈ l, ok x := by
  obtain ⟨a0, len0, cap0, rfl⟩ := okWide_slice ht hv
  obtain ⟨n, h⟩ := h
  rcases open_slice ht h with ⟨hcs, _⟩ | ⟨a, len, cap, m, n, D, Pl, hcs, _, hl, hm, hmm, _, hi⟩
  · simp [Value.cells] at hcs
    obtain ⟨rfl, rfl, rfl⟩ := hcs
    exact ⟨none, 0, [], rfl, Rw.nil _ _ _ _, Nat.le_refl _, Nat.zero_le _, fun e h => by simp at h⟩
  · simp [Value.cells] at hcs
    obtain ⟨rfl, rfl, rfl⟩ := hcs
    have hlm : len0 ≤ m := by rw [hmm]; split <;> omega
    obtain ⟨E, hE, hp⟩ := list_ofR (fun i (y : α) => (∃ p o, some a = some ⟨p, o, none⟩ ∧ ∀ j v, (enc y)[j]? = some v → W.cell? ⟨p, o + i * sz + j, none⟩ = some v) ∧ ok y) len0 (fun i hil => by
      obtain ⟨cs', h1, h2⟩ := hi i (by omega)
      obtain ⟨cs0, h01, _⟩ := hi 0 (by omega)
      rw [hsz] at h1 h01
      obtain ⟨_, hlen, hcell⟩ := World.cells?_some h1
      obtain ⟨_, hlen0, hcell0⟩ := World.cells?_some h01
      obtain ⟨y, rfl, hy⟩ := hd _ cs' _ hlen h2
      have hc0 := hcell0 0 hpos
      rw [add_add, Nat.zero_mul] at hc0
      obtain ⟨p, o, rfl⟩ := spotR (show W.cell? a = some _ by rw [List.getElem?_eq_getElem (by omega)] at hc0; simpa [Addr.add] using hc0)
      refine ⟨y, ⟨p, o, rfl, fun j v hj => ?_⟩, hy⟩
      have hjl : j < sz := by
        rcases Nat.lt_or_ge j sz with h3 | h3
        · exact h3
        · rw [List.getElem?_eq_none (by rw [henc]; exact h3)] at hj; cases hj
      have := hcell j hjl
      rw [add_add, addR, hj, ← Nat.add_assoc] at this
      exact this)
    refine ⟨some a, cap0, E, by rw [hE], fun i y hy => ?_, by omega, by omega, fun y hy => ?_⟩
    · exact (hp i y hy).1
    · obtain ⟨j, hj, rfl⟩ := List.getElem_of_mem hy
      exact (hp j _ (List.getElem?_eq_getElem hj)).2

end

end Go.Proofs.YtnjcdihgaidlbaaGreatDoor

/- A frame by value as a drawn argument. -/
set_option linter.unusedSimpArgs false
set_option linter.unusedVariables false
namespace Go.Proofs.YtnjcdihgaidlbaaGreatDoor
open Go.Joins Go.ChangeShapes Go.WideShapes Go.RowKit Go.Deep
set_option maxRecDepth 100000

section
variable {H : Type} {ench : TypeId × Value → H} {W : World}
theorem Tryz.fCellsU8 : Tryz.prog.cellsOf 5 = 1 := by kernel_rfl
theorem Tryz.fCellsU32 : Tryz.prog.cellsOf 30 = 1 := by kernel_rfl
theorem Tryz.fCellsU64 : Tryz.prog.cellsOf 41 = 1 := by kernel_rfl
theorem Tryz.fCellsB : Tryz.prog.cellsOf 4 = 1 := by kernel_rfl
theorem Tryz.fCellsL : Tryz.prog.cellsOf 42 = 1 := by kernel_rfl
theorem Tryz.fCellsP : Tryz.prog.cellsOf 40 = 3 := by kernel_rfl
theorem Tryz.fCellsBs : Tryz.prog.cellsOf 44 = 2 := by kernel_rfl
theorem Tryz.fCellsF : Tryz.prog.cellsOf 46 = 11 := by kernel_rfl
theorem ftrod_u8 {base n : Nat} {spare : Nat → Bool} {held : Bool} {c : Value} {y : DataW H × List MemPlace} (h : DataW.trod ench Tryz.prog W base spare held n 5 [c] = some y) : ∃ x : Nat, c = .int .u8 x ∧ x < 256 := by
  obtain ⟨x, e, _, wx⟩ := DataW.trod_int Tryz.underlying5 h
  have hb := bounds_u8 wx
  simp at e
  exact ⟨x.toNat, by rw [e, Int.toNat_of_nonneg hb.1], by omega⟩
theorem ftrod_u32 {base n : Nat} {spare : Nat → Bool} {held : Bool} {c : Value} {y : DataW H × List MemPlace} (h : DataW.trod ench Tryz.prog W base spare held n 30 [c] = some y) : ∃ x : Nat, c = .int .u32 x ∧ x < 4294967296 := by
  obtain ⟨x, e, _, wx⟩ := DataW.trod_int Tryz.underlying30 h
  have hb := bounds_u32 wx
  simp at e
  exact ⟨x.toNat, by rw [e, Int.toNat_of_nonneg hb.1], by omega⟩
theorem ftrod_u64 {base n : Nat} {spare : Nat → Bool} {held : Bool} {c : Value} {y : DataW H × List MemPlace} (h : DataW.trod ench Tryz.prog W base spare held n 41 [c] = some y) : ∃ x : Nat, c = .int .u64 x ∧ x < 18446744073709551616 := by
  obtain ⟨x, e, _, wx⟩ := DataW.trod_int Tryz.underlying41 h
  have hb := bounds_u64 wx
  simp at e
  exact ⟨x.toNat, by rw [e, Int.toNat_of_nonneg hb.1], by omega⟩
theorem ftrod_bool {base n : Nat} {spare : Nat → Bool} {held : Bool} {c : Value} {y : DataW H × List MemPlace} (h : DataW.trod ench Tryz.prog W base spare held n 4 [c] = some y) : ∃ x : Bool, c = .bool x := by
  obtain ⟨b, e, _⟩ := DataW.trod_bool Tryz.underlying4 h
  simp at e
  exact ⟨b, e⟩
theorem ftrod_place {base n : Nat} {spare : Nat → Bool} {held : Bool} {c d e : Value} {y : DataW H × List MemPlace} (h : DataW.trod ench Tryz.prog W base spare held n 40 [c, d, e] = some y) :
    ∃ a0 a1 a2 : Nat, c = .int .u32 a0 ∧ d = .int .u32 a1 ∧ e = .int .u32 a2 ∧ a0 < 4294967296 ∧ a1 < 4294967296 ∧ a2 < 4294967296 := by
  obtain ⟨xs, m, _, _, _, hlen, hg⟩ := DataW.trod_struct Tryz.underlying40 h
  obtain ⟨y0, h0⟩ := trodR hlen hg 0 rfl Tryz.fCellsU32
  obtain ⟨y1, h1⟩ := trodR hlen hg 1 rfl Tryz.fCellsU32
  obtain ⟨y2, h2⟩ := trodR hlen hg 2 rfl Tryz.fCellsU32
  obtain ⟨a0, rfl, b0⟩ := ftrod_u32 h0
  obtain ⟨a1, rfl, b1⟩ := ftrod_u32 h1
  obtain ⟨a2, rfl, b2⟩ := ftrod_u32 h2
  exact ⟨a0, a1, a2, rfl, rfl, rfl, b0, b1, b2⟩
theorem ftrod_bits {base n : Nat} {spare : Nat → Bool} {held : Bool} {c d : Value} {y : DataW H × List MemPlace} (h : DataW.trod ench Tryz.prog W base spare held n 44 [c, d] = some y) :
    ∃ (A : Option Addr) (k : Nat) (l : List UInt8) (m : Int), c = .slice A l.length k ∧ d = .int .i64 m ∧ l.length ≤ maxLen ∧ Bs W A l ∧ (-9223372036854775808 ≤ m ∧ m ≤ 9223372036854775807) := by
  obtain ⟨xs, m, _, _, _, hlen, hg⟩ := DataW.trod_struct Tryz.underlying44 h
  obtain ⟨y0, h0⟩ := trodR hlen hg 0 rfl Tryz.fCellsL
  obtain ⟨y1, h1⟩ := trodR hlen hg 1 rfl Tryz.fCellsI
  obtain ⟨A, k, l, rfl, hl, hb⟩ := open_bytes (b0 := base) h0
  obtain ⟨m, rfl, hm⟩ := ftrod_int h1
  exact ⟨A, k, l, m, rfl, rfl, hl, hb, hm⟩
end

end Go.Proofs.YtnjcdihgaidlbaaGreatDoor

/- Slices of samples: as they read, as the call's own; opened as a parameter. -/
namespace Go.Proofs.YtnjcdihgaidlbaaGreatDoor
open Go.RowKit Go.ChangeShapes Go.WideShapes Go.ChangeAt Go.Joins Go.Deep
set_option maxRecDepth 100000

def smp (s : Int × Nat) : List Value := [.int .i64 s.1, .int .u64 s.2]
theorem Tryz.eltS : Elt Tryz.prog 58 70 smp 2 16 := ⟨Tryz.underlying58, ⟨.agg #[.int .i64 0, .int .u64 0], by kernel_rfl, rfl⟩, by decide, fun _ => rfl, fun x v h => by
  simp [smp] at h; rcases h with rfl | rfl <;> rfl⟩
section
variable {H : Type} {enc : TypeId × Value → H} {W : World}
end

end Go.Proofs.YtnjcdihgaidlbaaGreatDoor

/- Layer 12: a book as data: series of chunks of samples. -/
set_option linter.unusedSimpArgs false
set_option linter.unusedVariables false
namespace Go.Proofs.YtnjcdihgaidlbaaGreatDoor

theorem putCs_flat (ch : Nat) {C : CsT} (h : C ≠ []) (x : Sm) : (putCs ch C x).flatten = C.flatten ++ [x] := by
  unfold putCs
  rw [setLast_flat, cs_flat h, List.append_assoc]
end Go.Proofs.YtnjcdihgaidlbaaGreatDoor

/- Layer 12: a new book as a thing; the statements' example. -/
set_option linter.unusedSimpArgs false
set_option linter.unusedVariables false
namespace Go.Proofs.YtnjcdihgaidlbaaGreatDoor
open Go.RowKit
set_option maxRecDepth 100000

/-- a book by its data alone, beside other things -/
def Bk (B : Nat) (w0 w : World) (q : Nat) (D : BD) (ts : List Kt) : Prop := ∃ X : Bl, X.q = q ∧ X.D = D ∧ OkB X ∧ Sep B w0 w (thBk X :: ts)
abbrev ptB (q : Nat) : Value := .pointer (some ⟨q, 0, none⟩)
section
variable {B : Nat} {w0 w w' : World} {q : Nat} {D : BD} {ts us : List Kt}
theorem Bk.go (h : Bk B w0 w q D ts) (b : Below w.heap.size w w') : Bk B w0 w' q D ts := by
  obtain ⟨X, h1, h2, ok, hS⟩ := h
  exact ⟨X, h1, h2, ok, hS.go b⟩
theorem Bk.sep (h : Bk B w0 w q D ts) : Sep B w0 w ts := by
  obtain ⟨X, h1, h2, ok, hS⟩ := h
  exact hS.tail
theorem Bk.b (h : Bk B w0 w q D ts) : Below B w0 w := h.sep.b
theorem bk_new (h : Sep B w0 w ts) (m c : Nat) (h1 : 1 ≤ m) (h2 : m ≤ 64) (h3 : 1 ≤ c) (h4 : c ≤ 24) : Calls Tryz.prog 27 #[.int .i64 (m : Nat), .int .i64 (c : Nat)] w fun e w' => ∃ q, e = .returned (ptB q) ∧ Bk B w0 w' q ⟨m, c, []⟩ ts := by
  refine (bNew_sep h m c h1 h2 h3 h4).mono ?_
  rintro e w' ⟨X, rfl, hD, ok, hS⟩
  exact ⟨X.q, rfl, X, rfl, hD, ok, hS⟩
theorem bk_put (h : Bk B w0 w q D ts) (hT : Tab w) (x : Nat) (hx : x < 4294967296) (t : Int) (v : Nat) (hz : in64 t ∧ v < 18446744073709551616) (hn : (D.at_ x).flatten.length < 1000) :
    Calls Tryz.prog 28 #[ptB q, .int .u32 (x : Nat), .agg #[.int .i64 t, .int .u64 (v : Nat)]] w fun e w' => e = .returned (.int .u16 (mayD D x t : Nat)) ∧ Bk B w0 w' q (putD D x (t, v)) ts := by
  obtain ⟨X, rfl, rfl, ok, hS⟩ := h
  refine (bPut_any hS ok hT x hx (t, v) hz hn).mono ?_
  rintro e w' ⟨rfl, X', h1, h2, h3, h4⟩
  exact ⟨rfl, X', h1, h2, h3, h4⟩
end
end Go.Proofs.YtnjcdihgaidlbaaGreatDoor

/- Layer 12: the statements' calls; heavy. -/
set_option linter.unusedSimpArgs false
set_option linter.unusedVariables false
namespace Go.Proofs.YtnjcdihgaidlbaaGreatDoor
open Go.RowKit
set_option maxRecDepth 100000

/-- a call on a book -/
structure OB where
  kd : Nat
  se : Nat
  t : Int
  v : Nat
  f : FrD
  A : Option Addr
  c : Nat
  at_ : Nat
  n : Int
def encOB (o : OB) : List Value := [.int .u8 ((o.kd : Nat) : Int), .int .u32 ((o.se : Nat) : Int), .int .i64 o.t, .int .u64 ((o.v : Nat) : Int), .int .u8 ((o.f.kd : Nat) : Int), .int .u32 ((o.f.ep : Nat) : Int), .int .u32 ((o.f.se : Nat) : Int), .int .u32 ((o.f.fc : Nat) : Int), .int .u32 ((o.f.fb : Nat) : Int), .int .u32 ((o.f.fn : Nat) : Int), .int .u32 ((o.f.cn : Nat) : Int), .bool o.f.cl, .int .u64 ((o.f.sm : Nat) : Int), .slice o.A o.f.l.length o.c, .int .i64 o.f.n, .int .u8 ((o.at_ : Nat) : Int), .int .i64 o.n]
structure OkOB (o : OB) : Prop where
  kd : o.kd < 256
  se : o.se < 4294967296
  t : in64 o.t
  v : o.v < 18446744073709551616
  f : o.f.ok
  at_ : o.at_ < 256
  n : in64 o.n
end Go.Proofs.YtnjcdihgaidlbaaGreatDoor

/- Arguments of layer 12's statements: calls. -/
set_option linter.unusedSimpArgs false
set_option linter.unusedVariables false
namespace Go.Proofs.YtnjcdihgaidlbaaGreatDoor
open Go.Joins Go.ChangeShapes Go.WideShapes Go.RowKit Go.Deep
set_option maxRecDepth 100000

section
variable {H : Type} {ench : TypeId × Value → H} {W : World}
theorem Tryz.bCellsS : Tryz.prog.cellsOf 70 = 2 := by kernel_rfl
theorem Tryz.bCells64 : Tryz.prog.cellsOf 2 = 1 := by kernel_rfl
theorem Tryz.bCellsO : Tryz.prog.cellsOf 87 = 17 := by kernel_rfl
theorem ftrod_i64 {base n : Nat} {spare : Nat → Bool} {held : Bool} {c : Value} {y : DataW H × List MemPlace} (h : DataW.trod ench Tryz.prog W base spare held n 2 [c] = some y) : ∃ x : Int, c = .int .i64 x ∧ in64 x := by
  obtain ⟨x, e, _, wx⟩ := DataW.trod_int Tryz.underlying2 h
  have hb := bounds_i64 wx
  simp at e
  exact ⟨x, e, by unfold in64; omega⟩
theorem ftrod_smp {base n : Nat} {spare : Nat → Bool} {held : Bool} {c d : Value} {y : DataW H × List MemPlace} (h : DataW.trod ench Tryz.prog W base spare held n 70 [c, d] = some y) :
    ∃ (t : Int) (v : Nat), c = .int .i64 t ∧ d = .int .u64 (v : Nat) ∧ in64 t ∧ v < 18446744073709551616 := by
  obtain ⟨xs, m, _, _, _, hlen, hg⟩ := DataW.trod_struct Tryz.underlying70 h
  obtain ⟨y0, h0⟩ := trodR hlen hg 0 rfl Tryz.bCells64
  obtain ⟨y1, h1⟩ := trodR hlen hg 1 rfl Tryz.fCellsU64
  obtain ⟨t, rfl, b0⟩ := ftrod_i64 h0
  obtain ⟨v, rfl, b1⟩ := ftrod_u64 h1
  exact ⟨t, v, rfl, rfl, b0, b1⟩
theorem ftrod_frame {n : Nat} {spare : Nat → Bool} {held : Bool} {c0 c1 c2 c3 c4 c5 c6 c7 c8 c9 c10 : Value} {y : DataW H × List MemPlace} (h : DataW.trod ench Tryz.prog W 0 spare held n 46 [c0, c1, c2, c3, c4, c5, c6, c7, c8, c9, c10] = some y) :
    ∃ (A : Option Addr) (c : Nat) (f : FrD), [c0, c1, c2, c3, c4, c5, c6, c7, c8, c9, c10] = (frC f A c).toList ∧ Bs W A f.l ∧ f.l.length ≤ maxLen ∧ f.ok := by
  obtain ⟨xs, m, _, _, _, hlen, hg⟩ := DataW.trod_struct Tryz.underlying46 h
  obtain ⟨y0, h0⟩ := trodR hlen hg 0 rfl Tryz.fCellsU8
  obtain ⟨y1, h1⟩ := trodR hlen hg 1 rfl Tryz.fCellsU32
  obtain ⟨y2, h2⟩ := trodR hlen hg 2 rfl Tryz.fCellsU32
  obtain ⟨y3, h3⟩ := trodR hlen hg 3 rfl Tryz.fCellsP
  obtain ⟨y4, h4⟩ := trodR hlen hg 4 rfl Tryz.fCellsU32
  obtain ⟨y5, h5⟩ := trodR hlen hg 5 rfl Tryz.fCellsB
  obtain ⟨y6, h6⟩ := trodR hlen hg 6 rfl Tryz.fCellsU64
  obtain ⟨y7, h7⟩ := trodR hlen hg 7 rfl Tryz.fCellsBs
  obtain ⟨kd, rfl, o0⟩ := ftrod_u8 h0
  obtain ⟨ep, rfl, o1⟩ := ftrod_u32 h1
  obtain ⟨se, rfl, o2⟩ := ftrod_u32 h2
  obtain ⟨fc, fb, fn, rfl, rfl, rfl, o3, o4, o5⟩ := ftrod_place h3
  obtain ⟨cn, rfl, o6⟩ := ftrod_u32 h4
  obtain ⟨cl, rfl⟩ := ftrod_bool h5
  obtain ⟨sm, rfl, o7⟩ := ftrod_u64 h6
  obtain ⟨A, c, l, n, rfl, rfl, hl, hb, o8⟩ := ftrod_bits h7
  exact ⟨A, c, ⟨kd, ep, se, fc, fb, fn, cn, cl, sm, l, n⟩, rfl, hb, hl, o0, o1, o2, o3, o4, o5, o6, o7, o8.1, o8.2⟩
theorem open_ops12 {b0 : Nat} {v : Value} {d : DataW H} {p : List MemPlace} (hv : Value.okWide Tryz.prog W .any b0 23 v) (h : DataW.Trod ench Tryz.prog W 0 (fun _ => true) true 23 v d p) :
    ∃ (V : Option Addr) (c : Nat) (l : List OB), v = .slice V l.length c ∧ Rw W encOB 17 V l ∧ l.length ≤ maxLen ∧ (∀ o ∈ l, OkOB o) ∧ ∀ o ∈ l, Bs W o.A o.f.l := by
  obtain ⟨V, c, l, h1, h2, -, h4, h5⟩ := open_rows (enc := encOB) (sz := 17) (ok := fun o => OkOB o ∧ Bs W o.A o.f.l) Tryz.underlying23 Tryz.bCellsO (by decide) (fun _ => rfl) (fun fuel cs x hl ht => by
    match cs, hl with
    | [c0, c1, c2, c3, c4, c5, c6, c7, c8, c9, c10, c11, c12, c13, c14, c15, c16], _ =>
      obtain ⟨xs, m, _, _, _, hlen, hg⟩ := DataW.trod_struct Tryz.underlying87 ht
      obtain ⟨y0, h0⟩ := trodR hlen hg 0 rfl Tryz.fCellsU8
      obtain ⟨y1, h1⟩ := trodR hlen hg 1 rfl Tryz.fCellsU32
      obtain ⟨y2, h2⟩ := trodR hlen hg 2 rfl Tryz.bCellsS
      obtain ⟨y3, h3⟩ := trodR hlen hg 3 rfl Tryz.fCellsF
      obtain ⟨y4, h4⟩ := trodR hlen hg 4 rfl Tryz.fCellsU8
      obtain ⟨y5, h5⟩ := trodR hlen hg 5 rfl Tryz.fCellsI
      obtain ⟨kd, rfl, o0⟩ := ftrod_u8 h0
      obtain ⟨se, rfl, o1⟩ := ftrod_u32 h1
      obtain ⟨t, v, rfl, rfl, o2, o3⟩ := ftrod_smp h2
      obtain ⟨A, cc, f, hf, hb, hl2, o4⟩ := ftrod_frame h3
      obtain ⟨at_, rfl, o5⟩ := ftrod_u8 h4
      obtain ⟨nn, rfl, o6⟩ := ftrod_int h5
      refine ⟨⟨kd, se, t, v, f, A, cc, at_, nn⟩, ?_, ⟨o0, o1, o2, o3, o4, o5, by unfold in64; omega⟩, hb⟩
      unfold frC at hf
      simp only [List.cons.injEq, and_true] at hf
      obtain ⟨rfl, rfl, rfl, rfl, rfl, rfl, rfl, rfl, rfl, rfl, rfl⟩ := hf
      rfl) hv h
  exact ⟨V, c, l, h1, h2, h4, fun o ho => (h5 o ho).1, fun o ho => (h5 o ho).2⟩
end
end Go.Proofs.YtnjcdihgaidlbaaGreatDoor

/- Arguments of layer 15's statements: calls. -/
set_option linter.unusedSimpArgs false
set_option linter.unusedVariables false
namespace Go.Proofs.YtnjcdihgaidlbaaGreatDoor
open Go.Joins Go.ChangeShapes Go.WideShapes Go.RowKit Go.Deep
set_option maxRecDepth 100000

structure OS where
  kd : Nat
  se : Nat
  t : Int
  v : Nat
  f : FrD
  A : Option Addr
  c : Nat
  own : Bool
  at_ : Nat
  n : Nat
def encOS (o : OS) : List Value := [.int .u8 ((o.kd : Nat) : Int), .int .u32 ((o.se : Nat) : Int), .int .i64 o.t, .int .u64 ((o.v : Nat) : Int), .int .u8 ((o.f.kd : Nat) : Int), .int .u32 ((o.f.ep : Nat) : Int), .int .u32 ((o.f.se : Nat) : Int), .int .u32 ((o.f.fc : Nat) : Int), .int .u32 ((o.f.fb : Nat) : Int), .int .u32 ((o.f.fn : Nat) : Int), .int .u32 ((o.f.cn : Nat) : Int), .bool o.f.cl, .int .u64 ((o.f.sm : Nat) : Int), .slice o.A o.f.l.length o.c, .int .i64 o.f.n, .bool o.own, .int .u8 ((o.at_ : Nat) : Int), .int .u32 ((o.n : Nat) : Int)]
structure OkOS (o : OS) : Prop where
  kd : o.kd < 256
  se : o.se < 4294967296
  f : o.f.ok
  at_ : o.at_ < 256
theorem Tryz.sCellsO : Tryz.prog.cellsOf 72 = 18 := by kernel_rfl
section
variable {H : Type} {ench : TypeId × Value → H} {W : World}
theorem open_ops15 {b0 : Nat} {v : Value} {d : DataW H} {p : List MemPlace} (hv : Value.okWide Tryz.prog W .any b0 68 v) (h : DataW.Trod ench Tryz.prog W 0 (fun _ => true) true 68 v d p) :
    ∃ (V : Option Addr) (c : Nat) (l : List OS), v = .slice V l.length c ∧ Rw W encOS 18 V l ∧ l.length ≤ maxLen ∧ ∀ o ∈ l, OkOS o := by
  obtain ⟨V, c, l, h1, h2, -, h4, h5⟩ := open_rows (enc := encOS) (sz := 18) (ok := fun o => OkOS o) Tryz.underlying68 Tryz.sCellsO (by decide) (fun _ => rfl) (fun fuel cs x hl ht => by
    match cs, hl with
    | [c0, c1, c2, c3, c4, c5, c6, c7, c8, c9, c10, c11, c12, c13, c14, c15, c16, c17], _ =>
      obtain ⟨xs, m, _, _, _, hlen, hg⟩ := DataW.trod_struct Tryz.underlying72 ht
      obtain ⟨y0, h0⟩ := trodR hlen hg 0 rfl Tryz.fCellsU8
      obtain ⟨y1, h1⟩ := trodR hlen hg 1 rfl Tryz.fCellsU32
      obtain ⟨y2, h2⟩ := trodR hlen hg 2 rfl Tryz.bCellsS
      obtain ⟨y3, h3⟩ := trodR hlen hg 3 rfl Tryz.fCellsF
      obtain ⟨y4, h4⟩ := trodR hlen hg 4 rfl Tryz.fCellsB
      obtain ⟨y5, h5⟩ := trodR hlen hg 5 rfl Tryz.fCellsU8
      obtain ⟨y6, h6⟩ := trodR hlen hg 6 rfl Tryz.fCellsU32
      obtain ⟨kd, rfl, o0⟩ := ftrod_u8 h0
      obtain ⟨se, rfl, o1⟩ := ftrod_u32 h1
      obtain ⟨t, v, rfl, rfl, o2, o3⟩ := ftrod_smp h2
      obtain ⟨A, cc, f, hf, hb, hl2, o4⟩ := ftrod_frame h3
      obtain ⟨own, rfl⟩ := ftrod_bool h4
      obtain ⟨at_, rfl, o5⟩ := ftrod_u8 h5
      obtain ⟨nn, rfl, o6⟩ := ftrod_u32 h6
      refine ⟨⟨kd, se, t, v, f, A, cc, own, at_, nn⟩, ?_, ⟨o0, o1, o4, o5⟩⟩
      unfold frC at hf
      simp only [List.cons.injEq, and_true] at hf
      obtain ⟨rfl, rfl, rfl, rfl, rfl, rfl, rfl, rfl, rfl, rfl, rfl⟩ := hf
      rfl) hv h
  exact ⟨V, c, l, h1, h2, h4, h5⟩
end
end Go.Proofs.YtnjcdihgaidlbaaGreatDoor

/- Layer 12: what is laid, sample by sample. -/
set_option linter.unusedSimpArgs false
set_option linter.unusedVariables false
namespace Go.Proofs.YtnjcdihgaidlbaaGreatDoor

theorem at_put (D : BD) (x y : Nat) (s : Sm) : (putD D x s).at_ y = if y = x ∧ mayD D x s.1 = 0 then putCs D.ch (D.at_ x) s else D.at_ y := by
  unfold putD
  by_cases h : mayD D x s.1 = 0
  · rw [if_pos h]
    unfold BD.at_
    rw [look_put]
    by_cases e : y = x
    · rw [if_pos e, if_pos ⟨e, h⟩]; rfl
    · rw [if_neg e, if_neg (fun k => e k.1)]
  · rw [if_neg h, if_neg (fun k => h k.2)]
/-- all that is there, series by series -/
def allD (D : BD) : List (Nat × List Sm) := D.M.map fun p => (p.1, p.2.flatten)
theorem allD_len (D : BD) : (allD D).length = D.M.length := by unfold allD; simp
theorem allD_get (D : BD) (j : Nat) : (allD D)[j]? = (D.M[j]?).map fun p => (p.1, p.2.flatten) := by unfold allD; rw [List.getElem?_map]
theorem at_of_mem {D : BD} (h : OkD D) {p : Nat × CsT} (hp : p ∈ D.M) : D.at_ p.1 = p.2 := by
  unfold BD.at_
  rw [lookM_of_mem h.nd hp]; rfl
theorem all_new {D : BD} {x : Nat} {z : Sm} (hm : mayD D x z.1 = 0) (hl : lookM D.M x = none) : allD (putD D x z) = allD D ++ [(x, [z])] := by
  unfold putD
  rw [if_pos hm]
  unfold allD putM
  rw [if_neg (by rw [hl]; decide), List.map_append]
  have e : D.at_ x = [[]] := by unfold BD.at_; rw [hl]; rfl
  rw [e]
  congr 1
  simp only [List.map_cons, List.map_nil, putCs_flat D.ch (show ([[]] : CsT) ≠ [] by simp)]
  rfl
theorem all_at {D : BD} (h : OkD D) {x j : Nat} {z : Sm} {p : Nat × CsT} (hm : mayD D x z.1 = 0) (hj : D.M[j]? = some p) (hx : p.1 = x) : allD (putD D x z) = (allD D).set j (x, p.2.flatten ++ [z]) := by
  unfold putD
  rw [if_pos hm]
  unfold allD
  simp only
  have hp := List.mem_of_getElem? hj
  have h1 := put_at h.nd hj (putCs D.ch (D.at_ x) z)
  rw [hx] at h1
  rw [h1, List.map_set]
  have e : D.at_ x = p.2 := by rw [← hx]; exact at_of_mem h hp
  rw [e, putCs_flat D.ch (h.ok p hp).ne]
/-- laid -/
structure LaI (sz k : Nat) (D : BD) : Prop where
  ok : OkD D
  ch : D.ch = sz
  mo : D.mo = 64
  len : ∀ y, (D.at_ y).flatten.length ≤ k
  key : ∀ p ∈ D.M, p.1 < 64
  full : ∀ y, ∀ L ∈ (D.at_ y).dropLast, L.length = sz
  last : ∀ y, (lastL (D.at_ y)).length < sz
theorem LaI.new {sz : Nat} (h1 : 1 ≤ sz) (h2 : sz ≤ 24) : LaI sz 0 ⟨64, sz, []⟩ :=
  ⟨⟨show 1 ≤ 64 by decide, show 64 ≤ 64 by decide, h1, h2, Nat.zero_le _, .nil, fun p h => (by cases h), fun p h => (by cases h), fun p h => (by cases h)⟩, rfl, rfl, fun y => Nat.le_refl _, fun p h => (by cases h), fun y L h => (by cases h), fun y => by show 0 < sz; omega⟩
theorem putCs_sizes {sz : Nat} {C : CsT} (hC : C ≠ []) (h1 : ∀ L ∈ C.dropLast, L.length = sz) (h2 : (lastL C).length < sz) (z : Sm) : (∀ L ∈ (putCs sz C z).dropLast, L.length = sz) ∧ (lastL (putCs sz C z)).length < sz := by
  unfold putCs
  by_cases e : (lastL C).length + 1 = sz
  · rw [decide_eq_true e, setLast_true]
    rw [List.dropLast_concat]
    refine ⟨fun L hL => ?_, ?_⟩
    · unfold setLast at hL
      rcases List.mem_append.1 hL with hL | hL
      · exact h1 L hL
      · simp at hL; subst hL; rw [List.length_append]; exact e
    · unfold lastL
      rw [List.getLast?_concat]
      show 0 < sz
      omega
  · rw [decide_eq_false e]
    refine ⟨fun L hL => ?_, ?_⟩
    · unfold setLast at hL
      rw [if_neg (by decide), List.dropLast_concat] at hL
      exact h1 L hL
    · rw [setLast_last, List.length_append, List.length_singleton]
      omega
theorem LaI.put {sz k : Nat} {D : BD} (h : LaI sz k D) {x : Nat} (hx : x < 64) {z : Sm} (hz : in64 z.1 ∧ z.2 < 18446744073709551616) (hk : k < 1000) : LaI sz (k + 1) (putD D x z) := by
  by_cases hm : mayD D x z.1 = 0
  · have hM : (putD D x z).M = putM D.M x (putCs D.ch (D.at_ x) z) := by unfold putD; rw [if_pos hm]
    have hlen := h.len x
    refine ⟨h.ok.put (by omega) hz hm (by omega), ?_, ?_, fun y => ?_, fun p hp => ?_, fun y L hL => ?_, fun y => ?_⟩
    · unfold putD; rw [if_pos hm]; exact h.ch
    · unfold putD; rw [if_pos hm]; exact h.mo
    · rw [at_put]
      split
      · rw [putCs_flat _ (h.ok.at_ x).ne, List.length_append, List.length_singleton]
        omega
      · have := h.len y; omega
    · rw [hM] at hp
      rcases mem_put hp with rfl | hp
      · exact hx
      · exact h.key p hp
    · rw [at_put] at hL
      split at hL
      · rw [h.ch] at hL
        exact (putCs_sizes (h.ok.at_ x).ne (h.full x) (h.last x) z).1 L hL
      · exact h.full y L hL
    · rw [at_put]
      split
      · rw [h.ch]
        exact (putCs_sizes (h.ok.at_ x).ne (h.full x) (h.last x) z).2
      · exact h.last y
  · have e : putD D x z = D := by unfold putD; rw [if_neg hm]
    rw [e]
    exact ⟨h.ok, h.ch, h.mo, fun y => by have := h.len y; omega, h.key, h.full, h.last⟩
end Go.Proofs.YtnjcdihgaidlbaaGreatDoor

/- Layer 12: lists of series as things. -/
set_option linter.unusedSimpArgs false
set_option linter.unusedVariables false
namespace Go.Proofs.YtnjcdihgaidlbaaGreatDoor
open Go.RowKit
set_option maxRecDepth 100000

/-- a series' samples and where they lie -/
structure Se where
  id : Nat
  A : Option Addr
  n : Nat
  c : Nat
  L : List Sm
def encSe (s : Se) : List Value := [.int .u32 ((s.id : Nat) : Int), .slice s.A s.n s.c]
theorem Tryz.eltSe : Elt Tryz.prog 32 60 encSe 2 32 := ⟨Tryz.underlying32, ⟨.agg #[.int .u32 0, .slice none 0 0], by kernel_rfl, rfl⟩, by decide, fun _ => rfl, fun x v h => by
  unfold encSe at h
  simp only [List.mem_cons, List.not_mem_nil, or_false] at h
  rcases h with rfl | rfl <;> rfl⟩
def seT (s : Se) : Kt := thR 70 smp 2 (.slice s.A s.n s.c) s.L
/-- the list, and each one's samples -/
def laT (v : Value) (T : List Se) : List Kt := thR 60 encSe 2 v T :: T.map seT
def seD (s : Se) : Nat × List Sm := (s.id, s.L)
theorem Sep.replace {B : Nat} {w0 w : World} {m : Kt} {us ts : List Kt} (h : Sep B w0 w (m :: (us ++ ts))) (i : Nat) : Sep B w0 w (us.set i m ++ ts) := by
  by_cases hi : i < us.length
  · have e1 : us = us.take i ++ us[i] :: us.drop (i + 1) := by simp
    have e2 : us.set i m = us.take i ++ m :: us.drop (i + 1) := List.set_eq_take_append_cons_drop .. |>.trans (by rw [if_pos hi])
    rw [e2]
    have h2 : Sep B w0 w (m :: (us.take i ++ us.drop (i + 1) ++ ts)) := by
      refine h.sub (List.Sublist.cons_cons m ?_)
      refine List.Sublist.append ?_ (List.Sublist.refl ts)
      conv => rhs; rw [e1]
      exact List.Sublist.append (List.Sublist.refl _) (List.sublist_cons_self _ _)
    refine h2.permB ?_
    rw [List.append_assoc, List.append_assoc]
    exact List.perm_middle.symm
  · rw [List.set_eq_of_length_le (by omega)]
    exact h.tail
theorem row_cellE {α : Type} {P : Program} {w : World} {t e : TypeId} {enc : α → List Value} {sz bytes : Nat} (E : Elt P t e enc sz bytes) {g n c : Nat} {l : List α} (h : OwnR w 0 e enc sz (.slice (some ⟨g, 0, none⟩) n c) l) {k : Nat} {x : α} (hk : l[k]? = some x) (j : Nat) (v : Value) (hj : (enc x)[j]? = some v) : w.cell? ⟨g, k * sz + j, none⟩ = some v := by
  obtain ⟨g', e1, -, hr⟩ := row_at E h hk
  injection e1 with e1
  injection e1 with e1
  subst e1
  exact hr j v hj
end Go.Proofs.YtnjcdihgaidlbaaGreatDoor

/- Layer 12: Lay. -/
set_option linter.unusedSimpArgs false
set_option linter.unusedVariables false
namespace Go.Proofs.YtnjcdihgaidlbaaGreatDoor
open Go.RowKit
set_option maxRecDepth 100000

def pickB {α : Type} (o : Option Value) (x y : α) : α := match o with
  | none => x
  | some _ => y
def laS (D : BD) (o : OB) : BD := putD D (o.se % 64) (o.t, o.v)
def laD (sz : Nat) (l : List OB) : BD := l.foldl laS ⟨64, sz, []⟩
def laSz (size : Int) : Nat := 1 + (max size 0).toNat % 24
theorem laD_succ (sz : Nat) (l : List OB) {k : Nat} {o : OB} (h : l[k]? = some o) : laD sz (l.take (k + 1)) = laS (laD sz (l.take k)) o := by
  obtain ⟨h1, h2⟩ := List.getElem?_eq_some_iff.1 h
  unfold laD
  rw [List.take_succ_eq_append_getElem h1, List.foldl_append, h2]
  rfl
theorem laD_ok {sz : Nat} (h1 : 1 ≤ sz) (h2 : sz ≤ 24) (l : List OB) (hok : ∀ o ∈ l, OkOB o) : ∀ k, k ≤ l.length → k ≤ 900 → LaI sz k (laD sz (l.take k))
  | 0, _, _ => LaI.new h1 h2
  | k + 1, hk, hk2 => by
    have hg := List.getElem?_eq_getElem (l := l) (i := k) (by omega)
    rw [laD_succ sz l hg]
    have ho := hok _ (List.mem_of_getElem? hg)
    exact (laD_ok h1 h2 l hok k (by omega) (by omega)).put (Nat.mod_lt _ (by decide)) ⟨ho.t, ho.v⟩ (by omega)
set_option maxHeartbeats 16000000 in
theorem bLay_any {B : Nat} {w0 w : World} {ts : List Kt} (h : Sep B w0 w ts) (hT : Tab w0) (hB0 : w0.heap.size ≤ B) (size : Int) (hsz : in64 size) (V : Option Addr) (c : Nat) (l : List OB) (hV : Rw w0 encOB 17 V l) (hok : ∀ o ∈ l, OkOB o) (hl : l.length ≤ 60) :
    Calls Tryz.prog 11 #[.int .i64 size, .slice V l.length c] w fun e w' => ∃ (q : Nat) (T : List Se) (A : Option Addr) (cc : Nat), e = .returned (.tuple #[ptB q, .slice A T.length cc]) ∧ T.map seD = allD (laD (laSz size) l) ∧ Bk B w0 w' q (laD (laSz size) l) (laT (.slice A T.length cc) T ++ ts) := by
  have hmx : Tryz.prog.follows .mixedOrders = true := by kernel_rfl
  obtain ⟨sz, hs⟩ : ∃ s, s = laSz size := ⟨_, rfl⟩
  have hs1 : 1 ≤ sz := by rw [hs]; unfold laSz; omega
  have hs2 : sz ≤ 24 := by rw [hs]; unfold laSz; omega
  obtain ⟨n, hn⟩ : ∃ n, n = l.length := ⟨_, rfl⟩
  have hn60 : n ≤ 60 := by omega
  have HN := Lib.hid (bk_new h 64 sz (by decide) (by decide) hs1 hs2)
  have HSz := Lib.hid (show 1 + max size 0 % 24 = ((sz : Nat) : Int) by rw [hs]; unfold laSz; omega)
  have HV := Lib.hid (And.intro hV (And.intro hok (And.intro hn (And.intro hT (And.intro hB0 (And.intro hs1 hs2))))))
  rw [← hs, ← hn]
  clear hV hok hn hT hB0 h hl hs
  go_enter Tryz.func11, Tryz.ntmps11
  go_upto_region 1 with fail
  go_wp2_with (go_at_call 27; rw [HSz.out]; refine HN.out.mono ?_; rintro e w1 ⟨q, rfl, hS0⟩)
  have HS0 := Lib.hid hS0
  clear hS0 HN HSz
  go_loopw [7, 8, 9, 10] (fun s7 s8 s9 s10 wr => ∃ (k tn cc : Nat) (A : Option Addr) (T : List Se), s8 = .int .i64 (k : Nat) ∧ k ≤ n ∧ s7 = .slice A tn cc ∧ tn ≤ k ∧ Hid (tn = T.length ∧ T.map seD = allD (laD sz (l.take k)) ∧ Bk B w0 wr q (laD sz (l.take k)) (laT (.slice A tn cc) T ++ ts)))
    (fun _ s8 _ _ _ => n - (intOf s8).toNat)
  case atStart => exact ⟨0, 0, 0, none, [], rfl, Nat.zero_le _, rfl, Nat.le_refl _, Lib.hid ⟨rfl, rfl, by
    obtain ⟨X, h1, h2, h3, h4⟩ := HS0.out
    exact ⟨X, h1, h2, h3, (h4.addNilR 60 encSe 2).permB (List.Perm.swap _ _ _)⟩⟩⟩
  case round =>
    obtain ⟨k, tn, cc, A, T, rfl, hk, rfl, htn, HI⟩ := hrel
    by_cases hlt : k < n
    · obtain ⟨o, ho⟩ : ∃ o, l[k]? = some o := ⟨_, List.getElem?_eq_getElem (by rw [← HV.out.2.2.1]; exact hlt)⟩
      obtain ⟨D, hD⟩ : ∃ D, D = laD sz (l.take k) := ⟨_, rfl⟩
      have hLa : LaI sz k D := by rw [hD]; exact laD_ok HV.out.2.2.2.2.2.1 HV.out.2.2.2.2.2.2 l HV.out.2.1 k (by rw [← HV.out.2.2.1]; omega) (by omega)
      have hD1 : laD sz (l.take (k + 1)) = laS D o := by rw [laD_succ sz l ho, ← hD]
      rw [← hD] at HI
      have hoo := HV.out.2.1 o (List.mem_of_getElem? ho)
      obtain ⟨p, f, rfl, hc⟩ := HV.out.1 k o ho
      have hkln : (k : Int) < (n : Int) := by omega
      obtain ⟨x, hx⟩ : ∃ x, x = o.se % 64 := ⟨_, rfl⟩
      have f0 : ((o.se : Nat) : Int) % 64 = (x : Int) := by omega
      have hx64 : x < 64 := by omega
      obtain ⟨ot, hot⟩ : ∃ t, t = o.t := ⟨_, rfl⟩
      obtain ⟨ov, hov⟩ : ∃ t, t = o.v := ⟨_, rfl⟩
      obtain ⟨me, hme⟩ : ∃ m, m = mayD D x ot := ⟨_, rfl⟩
      obtain ⟨D', hD'⟩ : ∃ E, E = putD D x (ot, ov) := ⟨_, rfl⟩
      have hP := fun (W : World) (us : List Kt) (hb : Bk B w0 W q D us) => bk_put hb (tabGo HV.out.2.2.2.1 (hb.b.mono HV.out.2.2.2.2.1)) x (by omega) ot ov ⟨by rw [hot]; exact hoo.t, by rw [hov]; exact hoo.v⟩ (by have := hLa.len x; omega)
      rw [← hme, ← hD'] at hP
      have HP := Lib.hid hP
      have hcell : ∀ (W : World), Below B w0 W → W.cell? ⟨p, f + k * 17 + 1, none⟩ = some (.int .u32 ((o.se : Nat) : Int)) ∧ W.cell? ⟨p, f + k * 17 + 2, none⟩ = some (.int .i64 ot) ∧ W.cell? ⟨p, f + k * 17 + 3, none⟩ = some (.int .u64 (ov : Nat)) := fun W hb => by
        rw [hot, hov]
        have h1 := hc 1 _ rfl
        have h2 := hc 2 _ rfl
        have h3 := hc 3 _ rfl
        have hlt := fun {a : Addr} {v : Value} (h : w0.cell? a = some v) => (hb.cell (Nat.lt_of_lt_of_le (cell_lt h) HV.out.2.2.2.2.1)).trans h
        exact ⟨hlt h1, hlt h2, hlt h3⟩
      have HCell := Lib.hid hcell
      have HE := Lib.hid (And.intro hLa (And.intro hD1 (And.intro ho (And.intro hx (And.intro hot (And.intro hov (And.intro hme hD')))))))
      clear hP hcell hoo hc ho hD hLa hD1 hx hot hov hme hD'
      go_wp2_with fail
      obtain ⟨I, hI⟩ : ∃ I : Rec → World → Prop, ∀ E W, I E W ↔ Bk B w0 W q (pickB (E 12) D D') (laT (.slice A tn cc) T ++ ts) := ⟨_, fun _ _ => Iff.rfl⟩
      have hI0 : I (fun _ => none) wr.drew := (hI _ _).2 (HI.out.2.2.go (Below.refl wr.heap.size wr).drew)
      haveI : Nonempty (InvW I) := ⟨⟨_, _, hI0⟩⟩
      have e1 := fun (y : InvW I) => (HCell.out y.W ((hI _ _).1 y.h).b).1
      have e2 := fun (y : InvW I) => (HCell.out y.W ((hI _ _).1 y.h).b).2.1
      have e3 := fun (y : InvW I) => (HCell.out y.W ((hI _ _).1 y.h).b).2.2
      have HI2 := Lib.hid hI
      clear hI
      refine wp_region_inv I [] [3, 9, 12] (fun k2 v => if k2 = 12 then v = .int .u16 (me : Nat) else v = .pointer (some ⟨p, f + k * 17, none⟩)) hmx (by kernel_rfl) hI0 ?_
      iterate 3 (refine walkJ_one rfl (by kernel_rfl) ?_; go_big_quiet_step (fail); refine wpQuiet_nil ?_)
      refine walkJ_turn rfl rfl ⟨_, rfl⟩ (fun s W1 hs h7 _ => ?_) ?_
      · refine inv_val (W' := W1) (v := .pointer (some ⟨p, f + k * 17, none⟩)) (by simp [execOp, go_sem, hkln]) ⟨rfl, (HI2.out _ _).2 ?_⟩
        have h := (HI2.out _ _).1 hs
        exact h
      rintro v rfl
      conv => arg 11; simp [Act.put]
      iterate 5 (refine walkJ_one rfl (by kernel_rfl) ?_; go_big_quiet_step (fail); refine wpQuiet_nil ?_)
      refine walkJ_turn rfl rfl ⟨_, rfl⟩ (fun s W1 hs h7 _ => ?_) ?_
      · refine inv_val (W' := W1) (v := .pointer (some ⟨p, f + k * 17, none⟩)) (by simp [execOp, go_sem, hkln]) ⟨rfl, (HI2.out _ _).2 ?_⟩
        have h := (HI2.out _ _).1 hs
        exact h
      rintro v rfl
      conv => arg 11; simp [Act.put]
      iterate 2 (refine walkJ_one rfl (by kernel_rfl) ?_; go_big_quiet_step (fail); refine wpQuiet_nil ?_)
      refine walkJ_turn rfl rfl ⟨_, rfl⟩ (fun s W1 hs h7 _ => ?_) ?_
      · have h := (HI2.out _ _).1 hs
        rw [show s 12 = none from h7] at h
        refine inv_call (by simp [execOp, go_sem, f0]) ((HP.out _ _ h).mono ?_)
        rintro e w3 ⟨rfl, hB⟩
        exact ⟨_, rfl, rfl, (HI2.out _ _).2 hB⟩
      rintro v rfl
      conv => arg 11; simp [Act.put]
      iterate 1 (refine walkJ_one rfl (by kernel_rfl) ?_; go_big_quiet_step (fail); refine wpQuiet_nil ?_)
      refine walkJ_end ?_
      intro wp hW'
      have HB := Lib.hid (show Bk B w0 wp q D' (laT (.slice A tn cc) T ++ ts) from (HI2.out _ _).1 hW')
      have HF0 := Lib.hid (And.intro f0 hx64)
      clear e1 e2 e3 hW' HI2 HP f0
      by_cases hm0 : me = 0
      · subst hm0
        go_upto_block 2 with fail
        go_cut [9] (fun s9 wx => ∃ j : Nat, s9 = .int .i64 (j : Nat) ∧ j ≤ tn ∧ Hid (∀ i y, i < j → T[i]? = some y → y.id ≠ x) ∧ Hid (∀ y, T[j]? = some y → y.id = x) ∧ Hid (Below wp.heap.size wp wx))
        case first =>
          go_wp2_with fail
          go_loopw [9] (fun s9 wi => ∃ j : Nat, s9 = .int .i64 (j : Nat) ∧ j ≤ tn ∧ Hid (∀ i y, i < j → T[i]? = some y → y.id ≠ x) ∧ Hid (Below wp.heap.size wp wi))
            (fun s9 _ => tn - (intOf s9).toNat)
          case atStart => exact ⟨0, by go_num, Nat.zero_le _, Lib.hid (fun i y h => absurd h (Nat.not_lt_zero _)), Lib.hid (Below.refl _ _)⟩
          case round =>
            obtain ⟨j, rfl, hj, HJ, HW⟩ := hrel
            obtain ⟨wi, hwi⟩ : ∃ wi, wi = wr := ⟨_, rfl⟩
            rw [← hwi] at HW ⊢
            clear hwi
            have C1 : ∀ y : More, (plus wi y).cell? ⟨p, f + k * 17 + 1, none⟩ = some (.int .u32 ((o.se : Nat) : Int)) := fun y => (HCell.out _ ((HB.out.go HW.out).go (plus_below wi y)).b).1
            by_cases hjt : j < tn
            · obtain ⟨y0, hy0⟩ : ∃ y, T[j]? = some y := ⟨_, List.getElem?_eq_getElem (by rw [← HI.out.1]; exact hjt)⟩
              obtain ⟨gr, hgr, -, -⟩ := row_at Tryz.eltSe ((HB.out.go HW.out).sep.at_ (t := thR 60 encSe 2 (.slice A tn cc) T) 0 rfl) hy0
              subst hgr
              have C2 : ∀ y : More, (plus wi y).cell? ⟨gr, j * 2, none⟩ = some (.int .u32 ((y0.id : Nat) : Int)) := fun y => row_cellE Tryz.eltSe (((HB.out.go HW.out).go (plus_below wi y)).sep.at_ (t := thR 60 encSe 2 (.slice (some ⟨gr, 0, none⟩) tn cc) T) 0 rfl) hy0 0 _ rfl
              have hjt2 : (j : Int) < (tn : Int) := by omega
              have HY := Lib.hid hy0
              clear hy0
              by_cases hyx : y0.id = x
              · have hd : (((y0.id : Nat) : Int) == ((o.se : Nat) : Int) % 64) = true := beq_iff_eq.2 (by rw [HF0.out.1]; omega)
                have HYX := Lib.hid hyx
                clear hyx
                go_wp2_with fail
                refine wp_region_ext (by kernel_rfl) (by kernel_rfl) ?_
                repeat (go_big_quiet_step (fail))
                refine wpQuiet_nil ?_
                rintro w7 ⟨y, rfl⟩
                clear C1 C2
                go_wp2_with fail
                go_meet
                exact ⟨j, rfl, hj, HJ, Lib.hid (fun y hy => by rw [HY.out] at hy; injection hy with hy; rw [← hy]; exact HYX.out), Lib.hid (HW.out.trans ((plus_below wi y).mono HW.out.size))⟩
              · have hd : (((y0.id : Nat) : Int) == ((o.se : Nat) : Int) % 64) = false := beq_eq_false_iff_ne.2 (by rw [HF0.out.1]; omega)
                have HYX := Lib.hid hyx
                clear hyx
                go_wp2_with fail
                refine wp_region_ext (by kernel_rfl) (by kernel_rfl) ?_
                repeat (go_big_quiet_step (fail))
                refine wpQuiet_nil ?_
                rintro w7 ⟨y, rfl⟩
                clear C1 C2
                go_wp2_with fail
                go_roundw
                case measure => simp [intOf]; omega
                case rel => exact ⟨j + 1, by go_num, by omega, Lib.hid (fun i y hi hy => by
                  by_cases e : i = j
                  · subst e
                    rw [HY.out] at hy; injection hy with hy; rw [← hy]; exact HYX.out
                  · exact HJ.out i y (by omega) hy), Lib.hid (HW.out.trans ((plus_below wi y).mono HW.out.size))⟩
            · have hjt2 : ¬ (j : Int) < (tn : Int) := by omega
              go_wp2_with fail
              refine wp_region_ext (by kernel_rfl) (by kernel_rfl) ?_
              repeat (go_big_quiet_step (fail))
              refine wpQuiet_nil ?_
              rintro w7 ⟨y, rfl⟩
              clear C1
              go_wp2_with fail
              go_meet
              exact ⟨j, rfl, hj, HJ, Lib.hid (fun y hy => by have := (List.getElem?_eq_some_iff.1 hy).1; rw [← HI.out.1] at this; omega), Lib.hid (HW.out.trans ((plus_below wi y).mono HW.out.size))⟩
        case rest =>
          obtain ⟨j, rfl, hj, HJ, HJ2, HWc⟩ := hcut
          obtain ⟨X, hq, hXD, hXok, hS⟩ := HB.out.go HWc.out
          have HX := Lib.hid (And.intro hq (And.intro hXD hXok))
          have HS := Lib.hid hS
          clear hq hXD hXok hS HB
          go_upto_if 61 with fail
          go_cut [7] from 61 to 71 (fun s7 wx => ∃ (A1 : Option Addr) (c1 t1n : Nat) (T1 : List Se) (y : Se), s7 = .slice A1 t1n c1 ∧ t1n ≤ tn + 1 ∧ j < t1n ∧ Hid (t1n = T1.length ∧ T1[j]? = some y ∧ y.id = x ∧ (T1.map seD).set j (x, y.L ++ [(ot, ov)]) = allD D' ∧ Sep B w0 wx (thBk X :: (laT (.slice A1 t1n c1) T1 ++ ts))))
          case first =>
            obtain ⟨W3, hW3⟩ : ∃ W, W = wc := ⟨_, rfl⟩
            rw [← hW3] at HS HWc ⊢
            clear hW3
            have hok := HE.out.1.ok
            have hm0 : mayD D x ot = 0 := HE.out.2.2.2.2.2.2.1.symm
            by_cases hjt : j = tn
            · have hd : ((j : Int) == (tn : Int)) = true := beq_iff_eq.2 (by omega)
              have hlk : lookM D.M x = none := lookM_none.2 (fun p hp e => by
                obtain ⟨i, hi⟩ := List.getElem?_of_mem hp
                have h1 := allD_get D i
                rw [hi, ← HI.out.2.1, List.getElem?_map] at h1
                obtain ⟨y, hy, hy2⟩ := Option.map_eq_some_iff.1 h1
                have hil : i < T.length := (List.getElem?_eq_some_iff.1 hy).1
                refine HJ.out i y (by rw [hjt, HI.out.1]; exact hil) hy ?_
                have := congrArg Prod.fst hy2
                exact this.trans e)
              have hall := all_new (z := (ot, ov)) hm0 hlk
              rw [← HE.out.2.2.2.2.2.2.2, ← HI.out.2.1] at hall
              have hSx := HS.out.box #[.int .u32 (((o.se : Nat) : Int) % 64), .slice none 0 0] 60
              have HSx := Lib.hid hSx
              have HAll := Lib.hid hall
              have htl : T.length ≤ 60 := by rw [← HI.out.1]; omega
              have C1 := (HCell.out W3 HS.out.b).1
              clear hok hm0 hlk hall hSx hjt
              go_wp2_with (at_builtin; go_must (refine sep_app1 Tryz.eltSe rfl (.tmp 62) (.tmp 70) rfl 2 (.slice A tn cc) T rfl HSx.out rfl W3.heap.size 1 ⟨x, none, 0, 0, []⟩ 60 #[.int .u32 (((o.se : Nat) : Int) % 64), .slice none 0 0] rfl (HSx.out.blk 0) (by unfold encSe; rw [HF0.out.1]) (by unfold maxLen; omega) (by omega) ?_); intro g7 c7 w7 hS7)
              go_meet
              refine ⟨some ⟨g7, 0, none⟩, c7, T.length + 1, T ++ [⟨x, none, 0, 0, []⟩], ⟨x, none, 0, 0, []⟩, rfl, by rw [← HI.out.1]; exact Nat.le_refl _, by rw [← HI.out.1]; omega, Lib.hid ⟨by simp, ?_, rfl, ?_, ?_⟩⟩
              · rw [show j = T.length by have := (beq_iff_eq.1 hd); rw [← HI.out.1]; omega]
                simp
              · rw [HAll.out, List.map_append, show j = (T.map seD).length by have := (beq_iff_eq.1 hd); rw [List.length_map, ← HI.out.1]; omega]
                rw [List.set_append, if_neg (by omega), Nat.sub_self]
                rfl
              · have h1 := (hS7.tail).addNilR 70 smp 2
                refine h1.permB ?_
                simp only [laT, List.map_append, List.map_cons, List.map_nil, List.append_assoc, List.cons_append, List.nil_append, List.set_cons_succ, List.set_cons_zero, List.tail_cons]
                exact (List.perm_middle (a := seT ⟨x, none, 0, 0, []⟩) (l₁ := thBk X :: _ :: T.map seT) (l₂ := ts)).symm
            · have hd : ((j : Int) == (tn : Int)) = false := beq_eq_false_iff_ne.2 (by omega)
              obtain ⟨y, hy⟩ : ∃ y, T[j]? = some y := ⟨_, List.getElem?_eq_getElem (by rw [← HI.out.1]; omega)⟩
              have hyx := HJ2.out y hy
              have hall : (T.map seD).set j (x, y.L ++ [(ot, ov)]) = allD D' := by
                have h1 := allD_get D j
                rw [← HI.out.2.1, List.getElem?_map, hy] at h1
                obtain ⟨p, hp, hp2⟩ := Option.map_eq_some_iff.1 h1.symm
                have e1 : p.1 = x := by have := congrArg Prod.fst hp2; exact this.trans hyx
                have e2 : p.2.flatten = y.L := congrArg Prod.snd hp2
                rw [HE.out.2.2.2.2.2.2.2, all_at hok (z := (ot, ov)) hm0 hp e1, HI.out.2.1, e2]
              have HAll := Lib.hid (And.intro hy (And.intro hyx hall))
              clear hok hm0 hy hyx hall
              go_wp2_with fail
              go_meet
              exact ⟨A, cc, tn, T, y, rfl, by omega, by omega, Lib.hid ⟨HI.out.1, HAll.out.1, HAll.out.2.1, HAll.out.2.2, HS.out⟩⟩
          case rest =>
            obtain ⟨A1, c1, t1n, T1, y, rfl, ht1, hj1, HR⟩ := hcut
            clear HS HWc HJ HJ2
            obtain ⟨W4, hW4⟩ : ∃ W, W = wc := ⟨_, rfl⟩
            rw [← hW4] at HR ⊢
            clear hW4
            obtain ⟨r1, r2, r3, r4, hS⟩ := HR.out
            have hyr : OwnR W4 0 70 smp 2 (.slice y.A y.n y.c) y.L := hS.get (t := seT y) (List.mem_cons_of_mem _ (List.mem_append.2 (.inl (List.mem_cons_of_mem _ (List.mem_map.2 ⟨y, List.mem_of_getElem? r2, rfl⟩)))))
            obtain ⟨A2, c2, hyv, -, hyR⟩ := OwnR.row Tryz.eltS hyr
            injection hyv with ya yn yc
            rw [← ya] at hyR
            have hyl : y.L.length ≤ 999 := by
              have h1 : ((T1.map seD).set j (x, y.L ++ [(ot, ov)]))[j]? = some (x, y.L ++ [(ot, ov)]) := List.getElem?_set_self (by rw [List.length_map, ← r1]; exact hj1)
              rw [r4, allD_get] at h1
              obtain ⟨p2, hp2, hp3⟩ := Option.map_eq_some_iff.1 h1
              have hD9 : OkD D' := by rw [← HX.out.2.1]; exact HX.out.2.2.D
              have h2 := (hD9.ok p2 (List.mem_of_getElem? hp2)).len
              rw [show p2.2.flatten = y.L ++ [(ot, ov)] from congrArg Prod.snd hp3, List.length_append, List.length_singleton] at h2
              omega
            obtain ⟨gr, hgr, -, -⟩ := row_at Tryz.eltSe (hS.at_ (t := thR 60 encSe 2 (.slice A1 t1n c1) T1) 1 rfl) r2
            subst hgr
            have C1 : W4.cell? ⟨gr, j * 2 + 1, none⟩ = some (.slice y.A y.L.length y.c) := by
              rw [← yn]
              exact row_cellE Tryz.eltSe (hS.at_ (t := thR 60 encSe 2 (.slice (some ⟨gr, 0, none⟩) t1n c1) T1) 1 rfl) r2 1 _ rfl
            have hj2 : (j : Int) < (t1n : Int) := by omega
            have HYR := Lib.hid hyR
            have HS4 := Lib.hid hS
            clear r1 r2 r3 r4 hS hyr hyR ya yn yc
            go_upto_region 16 with (at_builtin; go_must (refine appR Tryz.eltS _ rfl (.tmp 72) (.tmp 77) rfl W4.heap.size (.slice none 0 0) [] rfl (OwnR.nil _ _ _ _ _) y.A y.c y.L rfl HYR.out (by unfold maxLen; simp <;> omega) (by simp <;> omega) (Nat.le_refl _) ?_); intro A3 c3 w5 hown5 hb5)
            have hown5' : OwnR w5 W4.heap.size 70 smp 2 (.slice A3 y.L.length c3) y.L := by simpa using hown5
            have hS5 := HS4.out.cons (t := thR 70 smp 2 (.slice A3 y.L.length c3) y.L) hb5 (OwnR.mono hown5' (Nat.zero_le _)) (fun k hk => (World.ownsRow.lt hown5' k hk).1)
            obtain ⟨d1, d2, d3⟩ := HCell.out w5 hS5.b
            have HSB := Lib.hid (hS5.box #[.int .i64 ot, .int .u64 (ov : Nat)] 70)
            clear hown5 hown5' hb5 hS5 C1 d1 HS4 HYR
            go_upto_region 17 with (at_builtin; go_must (refine sep_app1 Tryz.eltS rfl (.tmp 79) (.tmp 85) rfl 1 (.slice A3 y.L.length c3) y.L (by simp [Act.eval, Act.put]) HSB.out rfl w5.heap.size 1 (ot, ov) 70 #[.int .i64 ot, .int .u64 (ov : Nat)] rfl (HSB.out.blk 0) rfl (by unfold maxLen; omega) (by omega) ?_); intro g6 c6 w6 hS6)
            have hS6' := hS6.tail
            simp only [List.set_cons_succ, List.set_cons_zero, List.tail_cons] at hS6'
            have hrow : OwnR w6 0 60 encSe 2 (.slice (some ⟨gr, 0, none⟩) t1n c1) T1 := hS6'.at_ (t := thR 60 encSe 2 (.slice (some ⟨gr, 0, none⟩) t1n c1) T1) 2 rfl
            have C6 := row_cellE Tryz.eltSe hrow HR.out.2.1 1 _ rfl
            have F6 := row_froz hrow (j * 2 + 1)
            have HS6 := Lib.hid hS6'
            clear d2 d3 HSB hS6 hS6' hrow
            go_wp2_with fail
            go_roundw
            case measure => simp [intOf]; omega
            case rel =>
              obtain ⟨r1, r2, r3, r4, -⟩ := HR.out
              have hS7 := HS6.out.turnR Tryz.eltSe 2 rfl r1 j 1 y ⟨y.id, some ⟨g6, 0, none⟩, y.L.length + 1, c6, y.L ++ [(ot, ov)]⟩ (.slice (some ⟨g6, 0, none⟩) (y.L.length + 1) c6) r2 (by decide) rfl
              simp only [List.set_cons_succ, List.set_cons_zero] at hS7
              have hS8 := Sep.replace (us := thBk X :: thR 60 encSe 2 (.slice (some ⟨gr, 0, none⟩) t1n c1) (T1.set j ⟨y.id, some ⟨g6, 0, none⟩, y.L.length + 1, c6, y.L ++ [(ot, ov)]⟩) :: T1.map seT) hS7 (j + 2)
              simp only [List.set_cons_succ] at hS8
              have hDk : laD sz (l.take (k + 1)) = D' := by
                rw [HE.out.2.1, HE.out.2.2.2.2.2.2.2]
                unfold laS
                rw [← HE.out.2.2.2.1, ← HE.out.2.2.2.2.1, ← HE.out.2.2.2.2.2.1]
              refine ⟨k + 1, t1n, c1, some ⟨gr, 0, none⟩, T1.set j ⟨y.id, some ⟨g6, 0, none⟩, y.L.length + 1, c6, y.L ++ [(ot, ov)]⟩, by go_num, by omega, rfl, by omega, Lib.hid ⟨by rw [List.length_set]; exact r1, ?_, ?_⟩⟩
              · rw [hDk, ← r4, List.map_set]
                congr 1
                show (y.id, y.L ++ [(ot, ov)]) = _
                rw [r3]
              · rw [hDk]
                refine ⟨X, HX.out.1, HX.out.2.1, HX.out.2.2, ?_⟩
                unfold laT
                rw [List.map_set]
                exact hS8
      · have hm1 : ((me : Int) == 0) = false := beq_eq_false_iff_ne.2 (by omega)
        have hm2 : ¬ (me : Int) = 0 := by omega
        have hDD : laS D o = D := by
          unfold laS putD
          rw [← HE.out.2.2.2.1, ← HE.out.2.2.2.2.1, if_neg (by show ¬ mayD D x ot = 0; rw [← HE.out.2.2.2.2.2.2.1]; exact hm0)]
        have hD2 : D' = D := by
          rw [HE.out.2.2.2.2.2.2.2]
          unfold putD
          rw [if_neg (by show ¬ mayD D x ot = 0; rw [← HE.out.2.2.2.2.2.2.1]; exact hm0)]
        have HF := Lib.hid (show T.map seD = allD (laD sz (l.take (k + 1))) ∧ Bk B w0 wp q (laD sz (l.take (k + 1))) (laT (.slice A tn cc) T ++ ts) by
          rw [HE.out.2.1, hDD]
          refine ⟨HI.out.2.1, ?_⟩
          have := HB.out
          rw [hD2] at this
          exact this)
        clear hDD hD2 HB
        go_wp2_with fail
        go_roundw
        case measure => simp [intOf]; omega
        case rel => exact ⟨k + 1, tn, cc, A, T, by go_num, by omega, rfl, by omega, Lib.hid ⟨HI.out.1, HF.out.1, HF.out.2⟩⟩
    · obtain rfl : k = n := by omega
      have hkln : ¬ (k : Int) < (k : Int) := by omega
      go_wp2_with fail
      go_ret2
      have h1 := HI.out
      rw [HV.out.2.2.1, List.take_length] at h1
      have h2 := h1.1
      subst h2
      exact ⟨q, T, A, cc, rfl, h1.2.1, h1.2.2⟩
end Go.Proofs.YtnjcdihgaidlbaaGreatDoor

/- Layer 12: what a cut does, as data; things of a book's statements. -/
set_option linter.unusedSimpArgs false
set_option linter.unusedVariables false
namespace Go.Proofs.YtnjcdihgaidlbaaGreatDoor
open Go.RowKit
set_option maxRecDepth 100000

theorem cut_endI {x : Nat} {C : CsT} {pc pb pn : Nat} {most : Int} (hh : hasC C pc pb pn = true) (h1 : pc < 4294967296) (h2 : pb < 4294967296) (h3 : pn < 4294967296) (he : (pc, pb, pn) = endC C) : cutF x C pc pb pn most = (zeroF, (pc, pb, pn), 0) ∧ CutI x C pc pb pn most (cutF x C pc pb pn most) := by
  have e : cutF x C pc pb pn most = (zeroF, (pc, pb, pn), 0) := by unfold cutF; rw [if_neg (by rw [hh]; decide), if_pos he]
  refine ⟨e, ?_⟩
  rw [e]
  exact ⟨rfl, hh, (Int.add_zero _).symm, h1, h2, h3, Int.le_refl _, (by decide : (0 : Int) ≤ 146000), Nat.zero_le _⟩
theorem nePlB_run (a1 a2 a3 b1 b2 b3 : Nat) (w : World) : (binOp .neq 40 (.agg #[.int .u32 (a1 : Nat), .int .u32 (a2 : Nat), .int .u32 (a3 : Nat)]) (.agg #[.int .u32 (b1 : Nat), .int .u32 (b2 : Nat), .int .u32 (b3 : Nat)])).run Tryz.prog w = .ok (.bool (!decide ((a1, a2, a3) = (b1, b2, b3)))) w := by
  rw [run_neq_struct, eqInPlB_run (a1, a2, a3) (b1, b2, b3)]; rfl
section
variable {B : Nat} {w0 w w' : World} {q : Nat} {D : BD} {ts us : List Kt}
end
end Go.Proofs.YtnjcdihgaidlbaaGreatDoor

/- Layer 13: Before, of the program and of the document. -/
set_option linter.unusedSimpArgs false
set_option linter.unusedVariables false
namespace Go.Proofs.YtnjcdihgaidlbaaGreatDoor
open Go.RowKit

theorem rbefore_any (a0 a1 a2 b0 b1 b2 : Nat) (w : World) :
    Calls Tryz.prog 26 #[.agg #[.int .u32 a0, .int .u32 a1, .int .u32 a2], .agg #[.int .u32 b0, .int .u32 b1, .int .u32 b2]] w fun e w' => e = .returned (.bool (bef a0 a2 b0 b2)) ∧ Below w.heap.size w w' := by
  have K := ((Qs.zero w).box #[.int .u32 a0, .int .u32 a1, .int .u32 a2] 40).box #[.int .u32 b0, .int .u32 b1, .int .u32 b2] 40
  have HK := Lib.hid K
  clear K
  by_cases h1 : a0 < b0
  · have k1 : (a0 : Int) < b0 := by omega
    have Hr : Hid (bef a0 a2 b0 b2 = true) := Lib.hid (by simp [bef, h1])
    clear h1
    go_enter Tryz.func26, Tryz.ntmps26
    go_wp2_with fail
    go_ret
    exact ⟨by rw [Hr.out]; rfl, HK.out.top 2⟩
  · have k1 : ¬ (a0 : Int) < b0 := by omega
    by_cases h2 : a0 = b0
    · subst h2
      by_cases h3 : a2 < b2
      · have k3 : (a2 : Int) < b2 := by omega
        have Hr : Hid (bef a0 a2 a0 b2 = true) := Lib.hid (by simp [bef, h3])
        clear h1 h3
        go_enter Tryz.func26, Tryz.ntmps26
        go_wp2_with fail
        go_ret
        exact ⟨by rw [Hr.out]; rfl, HK.out.top 2⟩
      · have k3 : ¬ (a2 : Int) < b2 := by omega
        have Hr : Hid (bef a0 a2 a0 b2 = false) := Lib.hid (by simp [bef]; omega)
        clear h1 h3
        go_enter Tryz.func26, Tryz.ntmps26
        go_wp2_with fail
        go_ret
        exact ⟨by rw [Hr.out]; rfl, HK.out.top 2⟩
    · have k2 : ((a0 : Int) == (b0 : Int)) = false := beq_eq_false_iff_ne.2 (by omega)
      have Hr : Hid (bef a0 a2 b0 b2 = false) := Lib.hid (by simp [bef, h2]; omega)
      clear h1 h2
      go_enter Tryz.func26, Tryz.ntmps26
      go_wp2_with fail
      go_ret
      exact ⟨by rw [Hr.out]; rfl, HK.out.top 2⟩

end Go.Proofs.YtnjcdihgaidlbaaGreatDoor

/- Layer 15: what is sent, as data. -/
set_option linter.unusedSimpArgs false
set_option linter.unusedVariables false
namespace Go.Proofs.YtnjcdihgaidlbaaGreatDoor

def asE (k ep : Nat) (f : FrD) : FrD := { f with kd := k, ep := ep }
theorem asE_eq (k : Nat) (S : SD) (f : FrD) : asF k S f = asE k S.ep f := rfl
/-- where a series has come tp behind frames -/
def atF (x : Nat) (C : CsT) : List FrD → Pl → Pl
  | [], p => p
  | f :: l, p => atF x C l (if f.se = x then nextP x C p else p)
/-- a series' frames follow on one another -/
def okF (x : Nat) (C : CsT) (ep : Nat) : List FrD → Pl → Prop
  | [], p => True
  | f :: l, p => (f.se = x → noneB (cutS x C p 1024) = false ∧ f = asE 2 ep (cutS x C p 1024).1) ∧ okF x C ep l (if f.se = x then nextP x C p else p)
theorem atF_app (x : Nat) (C : CsT) : ∀ (l m : List FrD) (p : Pl), atF x C (l ++ m) p = atF x C m (atF x C l p)
  | [], m, p => rfl
  | f :: l, m, p => atF_app x C l m _
theorem okF_app (x : Nat) (C : CsT) (ep : Nat) : ∀ (l m : List FrD) (p : Pl), okF x C ep l p → okF x C ep m (atF x C l p) → okF x C ep (l ++ m) p
  | [], m, p, _, h => h
  | f :: l, m, p, h, k => ⟨h.1, okF_app x C ep l m _ h.2 k⟩
theorem atF_ne (x : Nat) (C : CsT) : ∀ (l : List FrD) (p : Pl), (∀ f ∈ l, f.se ≠ x) → atF x C l p = p
  | [], p, _ => rfl
  | f :: l, p, h => by
    unfold atF
    rw [if_neg (h f List.mem_cons_self)]
    exact atF_ne x C l p (fun g hg => h g (List.mem_cons_of_mem _ hg))
theorem okF_ne (x : Nat) (C : CsT) (ep : Nat) : ∀ (l : List FrD) (p : Pl), (∀ f ∈ l, f.se ≠ x) → okF x C ep l p
  | [], p, _ => trivial
  | f :: l, p, h => by
    unfold okF
    rw [if_neg (h f List.mem_cons_self)]
    exact ⟨fun e => absurd e (h f List.mem_cons_self), okF_ne x C ep l p (fun g hg => h g (List.mem_cons_of_mem _ hg))⟩
/-- what pumping leaves as it is -/
structure Stay (S T : SD) : Prop where
  bw : T.bw = S.bw
  tk : T.tk = S.tk
  ep : T.ep = S.ep
  now : T.now = S.now
  cm : T.CM = S.CM
theorem Stay.refl (S : SD) : Stay S S := ⟨rfl, rfl, rfl, rfl, rfl⟩
theorem Stay.trans {S T U : SD} (h : Stay S T) (k : Stay T U) : Stay S U := ⟨k.bw.trans h.bw, k.tk.trans h.tk, k.ep.trans h.ep, k.now.trans h.now, k.cm.trans h.cm⟩
theorem Stay.come {S T : SD} (h : Stay S T) (x : Nat) : T.come x = S.come x := by unfold SD.come; rw [h.cm]
theorem step_stay (x : Nat) (C : CsT) (S : SD) : Stay S (stepS x C S) := ⟨rfl, rfl, rfl, rfl, rfl⟩
structure RunI (x : Nat) (C : CsT) (S : SD) (t : SD × List FrD) : Prop where
  stay : Stay S t.1
  ok : okF x C S.ep t.2 (S.sent x)
  at_ : t.1.sent x = atF x C t.2 (S.sent x)
  others : ∀ y, y ≠ x → t.1.sent y = S.sent y
  se : ∀ f ∈ t.2, f.se = x
theorem RunI.none (x : Nat) (C : CsT) (S : SD) : RunI x C S (S, []) := ⟨.refl S, trivial, rfl, fun _ _ => rfl, fun f h => by cases h⟩
theorem pumX_run {D : BD} (hD : OkD D) (x : Nat) : ∀ (n : Nat) (S : SD), RunI x (D.at_ x) S (pumX x (D.at_ x) n S)
  | 0, S => .none x _ S
  | n + 1, S => by
    by_cases h : sumP S.PL < (S.bw : Int)
    · cases h2 : noneB (cutS x (D.at_ x) (S.sent x) 1024) with
      | true => rw [pumX_none x _ _ S h2]; exact .none x _ S
      | false =>
        rw [pumX_some x _ n S h h2]
        have hc := cut_of hD h2
        have ih := pumX_run hD x n (stepS x (D.at_ x) S)
        have hs := step_sent x (D.at_ x) S hc.se
        have hx := hs x
        rw [if_pos rfl] at hx
        have hse : (asF 2 S (cutS x (D.at_ x) (S.sent x) 1024).1).se = x := hc.se
        refine ⟨(step_stay x _ S).trans ih.stay, ?_, ?_, fun y hy => ?_, fun f hf => ?_⟩
        · refine ⟨fun _ => ⟨h2, asE_eq _ _ _⟩, ?_⟩
          rw [if_pos hse, ← hx]
          exact ih.ok
        · show _ = atF x (D.at_ x) _ (if _ then _ else _)
          rw [if_pos hse, ← hx]
          exact ih.at_
        · have := ih.others y hy
          rw [hs y, if_neg hy] at this
          exact this
        · rcases List.mem_cons.1 hf with rfl | hf
          · exact hse
          · exact ih.se f hf
    · rw [pumX_full x _ _ S h]; exact .none x _ S
structure RunL (D : BD) (xs : List Nat) (S : SD) (t : SD × List FrD) : Prop where
  stay : Stay S t.1
  ok : ∀ x ∈ xs, okF x (D.at_ x) S.ep t.2 (S.sent x)
  at_ : ∀ x ∈ xs, t.1.sent x = atF x (D.at_ x) t.2 (S.sent x)
  others : ∀ y, y ∉ xs → t.1.sent y = S.sent y
  se : ∀ f ∈ t.2, f.se ∈ xs
theorem pumL_run {D : BD} (hD : OkD D) : ∀ (xs : List Nat) (S : SD), xs.Nodup → RunL D xs S (pumL D xs S)
  | [], S, _ => ⟨.refl S, fun x h => (by cases h), fun x h => (by cases h), fun _ _ => rfl, fun f h => (by cases h)⟩
  | x :: xs, S, hn => by
    rw [List.nodup_cons] at hn
    have h1 := pumX_run hD x 1002 S
    have h2 := pumL_run hD xs (pumX x (D.at_ x) 1002 S).1 hn.2
    have hne : ∀ f ∈ (pumL D xs (pumX x (D.at_ x) 1002 S).1).2, f.se ≠ x := fun f hf e => hn.1 (e ▸ h2.se f hf)
    have hep := h1.stay.ep
    unfold pumL
    refine ⟨h1.stay.trans h2.stay, fun y hy => ?_, fun y hy => ?_, fun y hy => ?_, fun f hf => ?_⟩
    · by_cases e : y = x
      · subst e
        exact okF_app _ _ _ _ _ _ h1.ok (okF_ne _ _ _ _ _ hne)
      · have hy2 : y ∈ xs := (List.mem_cons.1 hy).resolve_left e
        have hno : ∀ f ∈ (pumX x (D.at_ x) 1002 S).2, f.se ≠ y := fun f hf e2 => e (e2.symm.trans (h1.se f hf))
        refine okF_app _ _ _ _ _ _ (okF_ne _ _ _ _ _ hno) ?_
        rw [atF_ne _ _ _ _ hno]
        have h3 := h2.ok y hy2
        rw [hep, h1.others y e] at h3
        exact h3
    · by_cases e : y = x
      · subst e
        show (pumL D xs _).1.sent y = _
        rw [h2.others y hn.1, h1.at_, atF_app, atF_ne _ _ _ _ hne]
      · have hy2 : y ∈ xs := (List.mem_cons.1 hy).resolve_left e
        have hno : ∀ f ∈ (pumX x (D.at_ x) 1002 S).2, f.se ≠ y := fun f hf e2 => e (e2.symm.trans (h1.se f hf))
        show (pumL D xs _).1.sent y = _
        rw [h2.at_ y hy2, atF_app, atF_ne _ _ _ _ hno, h1.others y e]
    · have h3 : y ≠ x ∧ y ∉ xs := by rw [List.mem_cons, not_or] at hy; exact hy
      show (pumL D xs _).1.sent y = _
      rw [h2.others y h3.2, h1.others y h3.1]
    · rcases List.mem_append.1 hf with h3 | h3
      · rw [h1.se f h3]; exact List.mem_cons_self
      · exact List.mem_cons_of_mem _ (h2.se f h3)
theorem ksD_nodup {D : BD} (hD : OkD D) : (ksD D).Nodup := (ksD_perm D).nodup_iff.2 hD.nd
theorem pump_run {D : BD} (hD : OkD D) (S : SD) : RunL D (ksD D) S (pumpD D S) := pumL_run hD _ S (ksD_nodup hD)
end Go.Proofs.YtnjcdihgaidlbaaGreatDoor

/- Layer 15: what is sent first; what runs and what is due, as data. -/
set_option linter.unusedSimpArgs false
set_option linter.unusedVariables false
namespace Go.Proofs.YtnjcdihgaidlbaaGreatDoor

/-! ### places -/
theorem befP_iff (a b : Pl) : befP a b = true ↔ a.1 < b.1 ∨ a.1 = b.1 ∧ a.2.2 < b.2.2 := by
  unfold befP bef
  simp
/-! ### what runs -/
/-! ### a tick -/
end Go.Proofs.YtnjcdihgaidlbaaGreatDoor

/- Layer 15: what the statements begin with; what is sent behind a lack, as data. -/
set_option linter.unusedSimpArgs false
set_option linter.unusedVariables false
namespace Go.Proofs.YtnjcdihgaidlbaaGreatDoor
open Go.RowKit
set_option maxRecDepth 100000

/-- a configuration of the statements -/
def cfS (wi ti si : Nat) : Cf := ⟨64, 1048576, ((1 + si % 24 : Nat) : Int), ((1 + wi % 3000 : Nat) : Int), ((1 + ti % 1000 : Nat) : Int), 1048576⟩
theorem cfS_right (wi ti si : Nat) : rightB (cfS wi ti si) = true := by
  unfold rightB inI cfS
  simp only [Bool.and_eq_true, decide_eq_true_eq]
  omega
theorem cfS_any (wi ti si : Nat) (h1 : wi < 65536) (h2 : ti < 65536) (h3 : si < 256) (w : World) : Calls Tryz.prog 9 #[.int .u16 (wi : Nat), .int .u16 (ti : Nat), .int .u8 (si : Nat)] w fun e w' => e = .returned (cfS wi ti si).v ∧ Below w.heap.size w w' := by
  obtain ⟨W, hW⟩ : ∃ W, W = w.alloc (.cells #[.int .i64 0, .int .i64 0, .int .i64 0, .int .i64 0, .int .i64 0, .int .i64 0] 26) := ⟨_, rfl⟩
  obtain ⟨g, hg⟩ : ∃ g, g = w.heap.size := ⟨_, rfl⟩
  have hbw : Below w.heap.size w W := by rw [hW]; exact below_alloc w _
  have cg : Blk W g 26 #[.int .i64 0, .int .i64 0, .int .i64 0, .int .i64 0, .int .i64 0, .int .i64 0] := by rw [hW, hg]; exact Blk.new _ _ _
  obtain ⟨a, ha⟩ : ∃ a, a = si % 24 := ⟨_, rfl⟩
  obtain ⟨b, hb⟩ : ∃ b, b = wi % 3000 := ⟨_, rfl⟩
  obtain ⟨c, hc⟩ : ∃ c, c = ti % 1000 := ⟨_, rfl⟩
  have r1 : (si : Int).tmod 24 = (a : Int) := by rw [Int.tmod_eq_emod_of_nonneg (by omega)]; omega
  have r2 : (wi : Int).tmod 3000 = (b : Int) := by rw [Int.tmod_eq_emod_of_nonneg (by omega)]; omega
  have r3 : (ti : Int).tmod 1000 = (c : Int) := by rw [Int.tmod_eq_emod_of_nonneg (by omega)]; omega
  have v : ∀ z : Nat, z < 5000 → IntKind.i64.wrap (z : Int) = (z : Int) := fun z hz => by rw [IntKind.wrap_i64]; omega
  have v1 := v a (by omega)
  have v2 := v b (by omega)
  have v3 := v c (by omega)
  have w1 : IntKind.i64.wrap (1 + (a : Int)) = 1 + (a : Int) := by rw [IntKind.wrap_i64]; omega
  have w2 : IntKind.i64.wrap (1 + (b : Int)) = 1 + (b : Int) := by rw [IntKind.wrap_i64]; omega
  have w3 : IntKind.i64.wrap (1 + (c : Int)) = 1 + (c : Int) := by rw [IntKind.wrap_i64]; omega
  have u1 : (si : Int) % 24 = (a : Int) := by omega
  have u2 : (wi : Int) % 3000 = (b : Int) := by omega
  have u3 : (ti : Int) % 1000 = (c : Int) := by omega
  have hcf : (cfS wi ti si).v = .agg #[.int .i64 64, .int .i64 1048576, .int .i64 (1 + (a : Int)), .int .i64 (1 + (b : Int)), .int .i64 (1 + (c : Int)), .int .i64 1048576] := by
    unfold cfS Cf.v
    dsimp only
    rw [← ha, ← hb, ← hc]
    simp only [Int.natCast_add, Int.cast_ofNat_Int]
  have HB := Lib.hid (And.intro cg (And.intro hbw (Nat.le_of_eq hg.symm)))
  rw [hcf]
  clear hbw cg ha hb hc v hcf h1 h2 h3
  go_enter Tryz.func9, Tryz.ntmps9
  go_upto_region 1 with fail
  rw [← hW, ← hg]
  clear hW hg
  have D := cells_say HB.out.1 _ 0 rfl
  simp only [cellsSay, List.drop_zero, Nat.reduceAdd, and_true] at D
  go_wp2_with fail
  exact bodyPost_ret (results_cell_row Tryz.results9 _ _ g 26 #[.int .i64 64, .int .i64 1048576, .int .i64 (1 + (a : Int)), .int .i64 (1 + (b : Int)), .int .i64 (1 + (c : Int)), .int .i64 1048576] (0, 0) _ rfl ((HB.out.1.sets [(0, .int .i64 64), (1, .int .i64 1048576), (2, .int .i64 (1 + (a : Int))), (3, .int .i64 (1 + (b : Int))), (4, .int .i64 (1 + (c : Int))), (5, .int .i64 1048576)]) ) Tryz.underlying26 rfl (by kernel_rfl)) rfl ⟨rfl, ((((((HB.out.2.1.setCell HB.out.2.2 _).setCell HB.out.2.2 _).setCell HB.out.2.2 _).setCell HB.out.2.2 _).setCell HB.out.2.2 _).setCell HB.out.2.2 _)⟩
theorem sd_lay {B : Nat} {w0 w : World} {X : SL} {S : SD} {ts : List Kt} (h : Sd B w0 w X S ts) (hT : Tab w0) (hB0 : w0.heap.size ≤ B) (size : Int) (hsz : in64 size) (V : Option Addr) (c : Nat) (l : List OB) (hV : Rw w0 encOB 17 V l) (hok : ∀ o ∈ l, OkOB o) (hl : l.length ≤ 60) :
    Calls Tryz.prog 11 #[.int .i64 size, .slice V l.length c] w fun e w' => ∃ (Y : Bl) (T : List Se) (A : Option Addr) (cc : Nat), e = .returned (.tuple #[prB Y, .slice A T.length cc]) ∧ T.map seD = allD (laD (laSz size) l) ∧ Y.D = laD (laSz size) l ∧ OkB Y ∧ Sd B w0 w' X S (thBk Y :: (laT (.slice A T.length cc) T ++ ts)) := by
  obtain ⟨F, b, hs⟩ := h
  refine (bLay_any hs hT hB0 size hsz V c l hV hok hl).mono ?_
  rintro e w' ⟨q, T, A, cc, rfl, h1, Y, h2, h3, h4, h5⟩
  exact ⟨Y, T, A, cc, by subst h2; rfl, h1, h3, h4, F, b, h5.permB (front6 (us := thBk Y :: laT (.slice A T.length cc) T))⟩
end Go.Proofs.YtnjcdihgaidlbaaGreatDoor

/- Layer 15: walk of SendNacks. -/
set_option linter.unusedSimpArgs false
set_option linter.unusedVariables false
namespace Go.Proofs.YtnjcdihgaidlbaaGreatDoor
open Go.RowKit
set_option maxRecDepth 100000

theorem next_ok {D : BD} (hD : OkD D) (x : Nat) {p : Pl} (most : Int) (hp : hasC (D.at_ x) p.1 p.2.1 p.2.2 = true) (ho : OkPl p) : hasC (D.at_ x) (cutS x (D.at_ x) p most).2.1.1 (cutS x (D.at_ x) p most).2.1.2.1 (cutS x (D.at_ x) p most).2.1.2.2 = true ∧ OkPl (cutS x (D.at_ x) p most).2.1 := by
  by_cases he : p = endC (D.at_ x)
  · have e : cutS x (D.at_ x) p most = (zeroF, p, 0) := (cut_endI (x := x) (most := most) hp ho.1 ho.2.1 ho.2.2 he).1
    rw [e]
    exact ⟨hp, ho⟩
  · have h := (cut_some hD x (most := most) hp he).1
    exact ⟨h.to_, h.okto⟩
end Go.Proofs.YtnjcdihgaidlbaaGreatDoor

/- Layer 15: what SendOrder and SendAgain say, as data. -/
set_option linter.unusedSimpArgs false
set_option linter.unusedVariables false
namespace Go.Proofs.YtnjcdihgaidlbaaGreatDoor

theorem bef_self (p : Pl) : befP p p = false := by
  cases h : befP p p with
  | false => rfl
  | true =>
    have := (befP_iff p p).1 h
    omega
theorem accept_come (D : BD) (S : SD) (x : Nat) (p : Pl) (nack : Bool) (y : Nat) : (acceptD D S x p nack).come y = if y = x then p else S.come y := by
  have h : ∀ T : SD, T = (if nack then resetD (comeD S x p) x else comeD S x p) → T.come y = if y = x then p else S.come y := fun T hT => by
    rw [hT]
    cases nack <;> exact come_acked S x p y
  unfold acceptD
  dsimp only
  have h1 := h _ rfl
  split
  · exact h1
  · split
    · exact h1
    · exact h1
theorem anew_come (D : BD) (S : SD) (x y : Nat) : (anewD D S x).1.come y = S.come y := by
  unfold anewD
  dsimp only
  split <;> rfl
/-- where a series has come to never goes back; what is told is whether something came -/
theorem order_main {D : BD} (hD : OkD D) (S : SD) (f : FrD) : befP ((takD D S f).1.come f.se) (S.come f.se) = false ∧ (takD D S f).2.2.1 = befP (S.come f.se) ((takD D S f).1.come f.se) ∧ (f.ep ≠ S.ep → takD D S f = (S, [], false, 1)) ∧ (takD D S f).1.ep = S.ep := by
  have hep : ∀ nack, (acceptD D S f.se (f.fc, f.fb, f.fn) nack).ep = S.ep := fun nack => by
    unfold acceptD
    dsimp only
    split
    · cases nack <;> rfl
    · split <;> cases nack <;> rfl
  unfold takD
  split
  · exact ⟨bef_self _, (bef_self _).symm, fun _ => rfl, rfl⟩
  · rename_i h0
    have h0e : ¬ f.ep ≠ S.ep := fun e => h0 (.inr e)
    split
    · exact ⟨bef_self _, (bef_self _).symm, fun e => absurd e h0e, rfl⟩
    · split
      · exact ⟨bef_self _, (bef_self _).symm, fun e => absurd e h0e, rfl⟩
      · rename_i h2 h3
        split
        · have h4 := anew_come D S f.se f.se
          refine ⟨by dsimp only; rw [h4]; exact bef_self _, by dsimp only; rw [h4]; exact (bef_self _).symm, fun e => absurd e h0e, ?_⟩
          show (anewD D S f.se).1.ep = S.ep
          unfold anewD
          dsimp only
          split <;> rfl
        · have hr := pump_run hD (acceptD D S f.se (f.fc, f.fb, f.fn) (decide (f.kd = 5)))
          have h4 : (pumpD D (acceptD D S f.se (f.fc, f.fb, f.fn) (decide (f.kd = 5)))).1.come f.se = (f.fc, f.fb, f.fn) := by
            rw [hr.stay.come, accept_come, if_pos rfl]
          refine ⟨by dsimp only; rw [h4]; exact Bool.not_eq_true _ ▸ h3, by dsimp only; rw [h4]; rfl, fun e => absurd e h0e, ?_⟩
          exact hr.stay.ep.trans (hep _)
end Go.Proofs.YtnjcdihgaidlbaaGreatDoor

/- Layer 15: walk of SendOrder. -/
set_option linter.unusedSimpArgs false
set_option linter.unusedVariables false
namespace Go.Proofs.YtnjcdihgaidlbaaGreatDoor
open Go.RowKit
set_option maxRecDepth 100000

set_option maxHeartbeats 64000000 in
theorem sendOrder_walk (si : Nat) (hsi : si < 256) (V : Option Addr) (c : Nat) (l : List OB) (V2 : Option Addr) (c2 : Nat) (l2 : List OS) (w : World) (hV : Rw w encOB 17 V l) (hok : ∀ o ∈ l, OkOB o) (hV2 : Rw w encOS 18 V2 l2) (hok2 : ∀ o ∈ l2, OkOS o) (hT : Tab w) :
    Calls Tryz.prog 7 #[.int .u8 (si : Nat), .slice V l.length c, .slice V2 l2.length c2] w fun e w' => e = .returned (.bool true) ∧ Below w.heap.size w w' := by
  have hmx : Tryz.prog.follows .mixedOrders = true := by kernel_rfl
  have HKn := Lib.hid (sknown_any w hT)
  obtain ⟨n, hn⟩ : ∃ n, n = l.length := ⟨_, rfl⟩
  obtain ⟨n2, hn2⟩ : ∃ n, n = l2.length := ⟨_, rfl⟩
  rw [← hn, ← hn2]
  have HV2 := Lib.hid (And.intro hV2 (And.intro hok2 hn2))
  clear hV2 hok2 hn2
  by_cases h60 : n ≤ 40
  case neg =>
    have k60 : (40 : Int) < (n : Int) := by omega
    clear hV hok hn hT
    go_enter Tryz.func7, Tryz.ntmps7
    go_wp2_with (go_at_call 8; refine HKn.out.mono ?_; rintro e w2 ⟨rfl, b2⟩)
    go_ret
    exact ⟨rfl, b2⟩
  have k60 : ¬ (40 : Int) < (n : Int) := by omega
  by_cases h61 : n2 ≤ 40
  case neg =>
    have k61 : (40 : Int) < (n2 : Int) := by omega
    clear hV hok hn hT
    go_enter Tryz.func7, Tryz.ntmps7
    go_wp2_with (go_at_call 8; refine HKn.out.mono ?_; rintro e w2 ⟨rfl, b2⟩)
    go_ret
    exact ⟨rfl, b2⟩
  have k61 : ¬ (40 : Int) < (n2 : Int) := by omega
  obtain ⟨sz, hsz⟩ : ∃ z, z = 1 + si % 24 := ⟨_, rfl⟩
  obtain ⟨bw, hbw⟩ : ∃ z, z = 1 + 2000 % 3000 := ⟨_, rfl⟩
  have hcv : (cfS 2000 10 si).v = .agg #[.int .i64 64, .int .i64 1048576, .int .i64 (sz : Nat), .int .i64 (bw : Nat), .int .i64 11, .int .i64 1048576] := by rw [hsz, hbw]; rfl
  have HCf := Lib.hid (fun (W : World) => cfS_any 2000 10 si (by decide) (by decide) hsi W)
  have HNew := Lib.hid (fun (w1 : World) (ts : List Kt) (h : Sep w.heap.size w w1 ts) => new_some (cfS 2000 10 si) 7 (cfS_right 2000 10 si) bw 11 (by rw [hbw]; rfl) rfl (by omega) (by decide) h)
  rw [hcv] at HCf HNew
  have hv1 : IntKind.i64.wrap ((sz : Int) - 1) = (sz : Int) - 1 := by rw [IntKind.wrap_i64]; omega
  have HLy := Lib.hid (fun (w1 : World) (X : SL) (S : SD) (ts : List Kt) (h : Sd w.heap.size w w1 X S ts) => sd_lay h hT (Nat.le_refl _) ((sz : Int) - 1) (by unfold in64; omega) V c l hV hok (by omega))
  rw [← hn] at HLy
  have HBw := Lib.hid (show 1 ≤ bw ∧ bw ≤ 3000 by omega)
  clear hV hok hn hsz hbw hcv hT hsi h60
  go_enter Tryz.func7, Tryz.ntmps7
  go_upto_region 4 with (first | (go_at_call 8; refine HKn.out.mono ?_; rintro e w1 ⟨rfl, b1⟩) | (go_at_call 9; refine (HCf.out _).mono ?_; rintro e w2 ⟨rfl, b2⟩))
  have h2 := ((Sep.nil b1 b1.size).go b2).box #[.int .i64 64, .int .i64 1048576, .int .i64 (sz : Nat), .int .i64 (bw : Nat), .int .i64 11, .int .i64 1048576] 26
  generalize hV2 : World.alloc _ _ = V2 at h2 ⊢
  obtain ⟨g9, hg9⟩ : ∃ g, g = w2.heap.size := ⟨_, rfl⟩
  rw [← hg9] at h2 ⊢
  have D9 := cells_say (h2.blk 0) _ 0 rfl
  simp only [cellsSay, List.drop_zero, Nat.reduceAdd, and_true] at D9
  have HN := Lib.hid (HNew.out _ _ h2)
  clear hV2 hg9 h2 b1 b2 HKn HCf HNew
  go_upto_region 5 with (go_at_call 10; refine HN.out.mono ?_; rintro e w3 ⟨X, rfl, h3⟩)
  clear D9
  have D9 := cells_say (h3.blkAt 0) _ 0 rfl
  simp only [cellsSay, List.drop_zero, Nat.reduceAdd, and_true] at D9
  have HL := Lib.hid (HLy.out _ _ _ _ h3)
  clear h3 HLy HN
  go_upto_region 6 with (go_at_call 11; refine HL.out.mono ?_; rintro e w4 ⟨Y, T, A, cc, rfl, hTD, hYD, ok, h4⟩; simp only [prB])
  obtain ⟨D, hD⟩ : ∃ D, D = laD (laSz ((sz : Int) - 1)) l := ⟨_, rfl⟩
  rw [← hD] at hTD hYD
  have hML : D.M.length = T.length := by
    have := congrArg List.length hTD
    rw [List.length_map, allD_len] at this
    exact this.symm
  obtain ⟨tn, htn⟩ : ∃ n, n = T.length := ⟨_, rfl⟩
  rw [← htn] at h4 hML ⊢
  have hDk : OkD D := hYD ▸ ok.D
  have hok0 : OkSn D (newS bw 11 7) := okS_new D bw 11 7 HBw.out.1 (by have := HBw.out.2; omega) (by decide) (by decide)
  have hPu := pump_any h4 ok (by rw [hYD]; exact hok0)
  rw [hYD] at hPu
  simp only [prB] at hPu
  have HPu := Lib.hid hPu
  have HY := Lib.hid (And.intro hYD (And.intro ok (And.intro hDk hok0)))
  have H4 := Lib.hid h4
  have HM := Lib.hid hML
  have hids : T.map (fun z => z.id) = D.M.map Prod.fst := by
    have := congrArg (List.map Prod.fst) hTD
    rw [List.map_map] at this
    rw [show (fun z : Se => z.id) = Prod.fst ∘ seD from rfl, this]
    unfold allD
    rw [List.map_map]
    rfl
  have hzi : ∀ (r : Nat) (z : Se), T[r]? = some z → z.id < 4294967296 := fun r z hz => by
    have h2 : z.id ∈ D.M.map Prod.fst := by rw [← hids]; exact List.mem_map_of_mem (f := fun z : Se => z.id) (List.mem_of_getElem? hz)
    obtain ⟨q, hq, e⟩ := List.mem_map.1 h2
    rw [← e]
    exact hDk.key q hq
  have htn64 : tn ≤ 64 := by
    have h2 := hDk.few
    have h3 := hDk.mo2
    omega
  have HId := Lib.hid (And.intro htn hzi)
  clear hids hzi hTD hYD ok h4 hML hDk hok0 hPu HL hD htn D9 hv1
  by_cases h0 : tn = 0
  case pos =>
    subst h0
    have k0 : ((0 : Nat) : Int) = 0 := rfl
    go_wp2_with fail
    go_ret
    exact ⟨rfl, H4.out.b⟩
  have k0 : ((tn : Int) == 0) = false := beq_eq_false_iff_ne.2 (by omega)
  go_upto_region 9 with (go_at_call 12; refine HPu.out.mono ?_; rintro e w5 ⟨U5, c5, T5, rfl, hT5, h5⟩)
  obtain ⟨S1, hS1⟩ : ∃ S, S = (pumpD D (newS bw 11 7)).1 := ⟨_, rfl⟩
  rw [← hS1] at h5
  have hok1 : OkSn D S1 := by rw [hS1]; exact HY.out.2.2.2.pump HY.out.2.2.1
  have hst := (pump_run HY.out.2.2.1 (newS bw 11 7)).stay
  rw [← hS1] at hst
  have hep : S1.ep = 7 := hst.ep
  have hco : ∀ x, S1.come x = (0, 0, 0) := fun x => hst.come x
  obtain ⟨ts, hts, hrw⟩ : ∃ ts, Sd w.heap.size w w5 X S1 (thBk Y :: ts) ∧ thR 60 encSe 2 (.slice A tn cc) T ∈ ts := ⟨_, h5, by simp [laT]⟩
  have HRw := Lib.hid hrw
  have H5 := Lib.hid (And.intro hts (And.intro hok1 (And.intro hep hco)))
  clear h5 hT5 hS1 hok1 hst hep hco hts hrw H4 HPu
  go_upto_region 10 with fail
  go_loopw [11, 12, 13, 14, 15, 16, 17, 18, 19, 20, 21, 22, 23, 24] (fun s11 s12 s13 s14 s15 s16 s17 s18 s19 s20 s21 s22 s23 s24 wr => ∃ (i : Nat) (S : SD), s11 = .int .i64 (i : Nat) ∧ i ≤ n2 ∧ Hid (OkSn D S ∧ S.ep = 7 ∧ Sd w.heap.size w wr X S (thBk Y :: ts)))
    (fun s11 _ _ _ _ _ _ _ _ _ _ _ _ _ _ => n2 - (intOf s11).toNat)
  case atStart => exact ⟨0, S1, by go_num, Nat.zero_le _, Lib.hid ⟨H5.out.2.1, H5.out.2.2.1, H5.out.1⟩⟩
  case round =>
    obtain ⟨i, S, rfl, hi, HI⟩ := hrel
    obtain ⟨wi, hwi⟩ : ∃ wi, wi = wr := ⟨_, rfl⟩
    rw [← hwi] at HI ⊢
    clear hwi
    by_cases hit : i < n2
    · have hit2 : (i : Int) < (n2 : Int) := by omega
      obtain ⟨o, ho⟩ : ∃ o, l2[i]? = some o := ⟨_, List.getElem?_eq_getElem (by rw [← HV2.out.2.2]; exact hit)⟩
      obtain ⟨pa, po, hpa, hc⟩ := HV2.out.1 i o ho
      subst hpa
      have hoo := HV2.out.2.1 o (List.mem_of_getElem? ho)
      obtain ⟨okd, ose, ot, ov, ⟨kd, ep, fse, fc, fb, fn, cn, cl, sm, fl, nn⟩, fA, fc9, own, oat, onn⟩ := o
      have old : ∀ j q, (encOS ⟨okd, ose, ot, ov, ⟨kd, ep, fse, fc, fb, fn, cn, cl, sm, fl, nn⟩, fA, fc9, own, oat, onn⟩)[j]? = some q → ∀ W, Below w.heap.size w W → W.cell? ⟨pa, po + i * 18 + j, none⟩ = some q := fun j q hj W b => (b.cell (cell_lt (hc j q hj))).trans (hc j q hj)
      have HOld := Lib.hid (And.intro old hoo)
      clear ho hc old hoo
      obtain ⟨r, hr⟩ : ∃ r, r = ose % tn := ⟨_, rfl⟩
      have hrt : r < tn := by rw [hr]; exact Nat.mod_lt _ (by omega)
      obtain ⟨z, hz⟩ : ∃ z, T[r]? = some z := ⟨_, List.getElem?_eq_getElem (by rw [← HId.out.1]; exact hrt)⟩
      obtain ⟨id, hid⟩ : ∃ x, x = z.id := ⟨_, rfl⟩
      have id32 : id < 4294967296 := by rw [hid]; exact HId.out.2 r z hz
      obtain ⟨gr, hgr, -, -⟩ := row_at Tryz.eltSe (HI.out.2.2.sep.get (t := thR 60 encSe 2 (.slice A tn cc) T) (List.mem_cons_of_mem _ HRw.out)) hz
      subst hgr
      have C1 : wi.cell? ⟨gr, r * 2, none⟩ = some (.int .u32 (id : Nat)) := by
        have := row_cellE Tryz.eltSe (HI.out.2.2.sep.get (t := thR 60 encSe 2 (.slice (some ⟨gr, 0, none⟩) tn cc) T) (List.mem_cons_of_mem _ HRw.out)) hz 0 _ rfl
        rw [← hid] at this
        exact this
      have bw0 := HI.out.2.2.b
      have F1 : wi.cell? ⟨pa, po + i * 18 + 1, none⟩ = some (.int .u32 (ose : Nat)) := HOld.out.1 1 _ rfl _ bw0
      have F4 : wi.cell? ⟨pa, po + i * 18 + 4, none⟩ = some (.int .u8 (kd : Nat)) := HOld.out.1 4 _ rfl _ bw0
      have F5 : wi.cell? ⟨pa, po + i * 18 + 5, none⟩ = some (.int .u32 (ep : Nat)) := HOld.out.1 5 _ rfl _ bw0
      have F6 : wi.cell? ⟨pa, po + i * 18 + 6, none⟩ = some (.int .u32 (fse : Nat)) := HOld.out.1 6 _ rfl _ bw0
      have F7 : wi.cell? ⟨pa, po + i * 18 + 7, none⟩ = some (.int .u32 (fc : Nat)) := HOld.out.1 7 _ rfl _ bw0
      have F8 : wi.cell? ⟨pa, po + i * 18 + 8, none⟩ = some (.int .u32 (fb : Nat)) := HOld.out.1 8 _ rfl _ bw0
      have F9 : wi.cell? ⟨pa, po + i * 18 + 9, none⟩ = some (.int .u32 (fn : Nat)) := HOld.out.1 9 _ rfl _ bw0
      have F10 : wi.cell? ⟨pa, po + i * 18 + 10, none⟩ = some (.int .u32 (cn : Nat)) := HOld.out.1 10 _ rfl _ bw0
      have F11 : wi.cell? ⟨pa, po + i * 18 + 11, none⟩ = some (.bool cl) := HOld.out.1 11 _ rfl _ bw0
      have F12 : wi.cell? ⟨pa, po + i * 18 + 12, none⟩ = some (.int .u64 (sm : Nat)) := HOld.out.1 12 _ rfl _ bw0
      have F13 : wi.cell? ⟨pa, po + i * 18 + 13, none⟩ = some (.slice fA fl.length fc9) := HOld.out.1 13 _ rfl _ bw0
      have F14 : wi.cell? ⟨pa, po + i * 18 + 14, none⟩ = some (.int .i64 nn) := HOld.out.1 14 _ rfl _ bw0
      have hos := HOld.out.2.se
      dsimp only at hos
      have r1 : (ose : Int).tmod (tn : Int) = (r : Int) := by rw [Int.tmod_eq_emod_of_nonneg (by omega), hr]; rfl
      have r2 : (ose : Int) % (tn : Int) = (r : Int) := by rw [hr]; rfl
      have w1 : IntKind.i64.wrap (ose : Int) = (ose : Int) := by rw [IntKind.wrap_i64]; omega
      have w2' : IntKind.i64.wrap (r : Int) = (r : Int) := by rw [IntKind.wrap_i64]; omega
      have ktn : ((tn : Int) = 0) = False := by simp; omega
      have krt : (r : Int) < (tn : Int) := by omega
      have h1 := HI.out.2.2.box #[.int .u8 (kd : Nat), .int .u32 (ep : Nat), .int .u32 (fse : Nat), .int .u32 (fc : Nat), .int .u32 (fb : Nat), .int .u32 (fn : Nat), .int .u32 (cn : Nat), .bool cl, .int .u64 (sm : Nat), .slice fA fl.length fc9, .int .i64 nn] 46
      clear hr hz hid
      go_upto_region 14 with fail
      generalize hV1 : World.alloc _ _ = V1 at h1 ⊢
      obtain ⟨g13, hg13⟩ : ∃ g, g = wi.heap.size := ⟨_, rfl⟩
      rw [← hg13] at h1 ⊢
      have D13 := cells_say (h1.blkAt 0) _ 0 rfl
      simp only [cellsSay, List.drop_zero, Nat.reduceAdd, and_true] at D13
      clear F1 F4 F5 F6 F7 F8 F9 F10 F11 F12 F13 F14 C1 r1 r2 w1 w2' ktn krt bw0
      have F16 : V1.cell? ⟨pa, po + i * 18 + 16, none⟩ = some (.int .u8 (oat : Nat)) := HOld.out.1 16 _ rfl _ h1.b
      have H1 := Lib.hid h1
      clear hV1 hg13 h1
      obtain ⟨bb, hbb⟩ : ∃ b, b = decide (0 < oat) := ⟨_, rfl⟩
      have kb1 : decide (0 < oat) = bb := hbb.symm
      have kb2 : decide ((0 : Int) < (oat : Int)) = bb := by
        rw [hbb]
        exact decide_eq_decide.2 (by omega)
      have HBb := Lib.hid hbb
      clear hbb
      go_upto_if 101 with fail
      clear kb1 kb2
      generalize hWx : World.setCell _ _ _ = W2
      have h2 := H1.out.put_ 0 g13 [(2, .int .u32 (id : Nat))] #[.int .u8 (kd : Nat), .int .u32 (ep : Nat), .int .u32 (id : Nat), .int .u32 (fc : Nat), .int .u32 (fb : Nat), .int .u32 (fn : Nat), .int .u32 (cn : Nat), .bool cl, .int .u64 (sm : Nat), .slice fA fl.length fc9, .int .i64 nn] hWx
      simp only [List.set] at h2
      have H2 := Lib.hid h2
      clear D13 F16 hWx H1 h2
      go_cut [14, 15, 16, 17, 18] from 102 to 123 (fun s14 s15 s16 s17 s18 wx => ∃ p : Pl, Hid (OkPl p ∧ Sd w.heap.size w wx X S (thB g13 46 #[.int .u8 (kd : Nat), .int .u32 (ep : Nat), .int .u32 (id : Nat), .int .u32 (p.1 : Nat), .int .u32 (p.2.1 : Nat), .int .u32 (p.2.2 : Nat), .int .u32 (cn : Nat), .bool cl, .int .u64 (sm : Nat), .slice fA fl.length fc9, .int .i64 nn] :: thBk Y :: ts)))
      case first =>
        cases bb with
        | false =>
          go_wp2_with fail
          go_meet
          exact ⟨(fc, fb, fn), Lib.hid ⟨⟨HOld.out.2.f.2.2.2.1, HOld.out.2.f.2.2.2.2.1, HOld.out.2.f.2.2.2.2.2.1⟩, H2.out⟩⟩
        | true =>
          have hat : 0 < oat := of_decide_eq_true HBb.out.symm
          have ho256 := HOld.out.2.at_
          dsimp only at ho256
          obtain ⟨m, hm⟩ : ∃ m, m = oat % 30 := ⟨_, rfl⟩
          have m30 : m < 30 := by omega
          have t1 : (oat : Int).tmod 30 = (m : Int) := by rw [Int.tmod_eq_emod_of_nonneg (by omega)]; omega
          have t2 : (oat : Int) % 30 = (m : Int) := by omega
          clear hm
          have h3 := H2.out.box #[.int .u32 ((0 : Nat) : Int), .int .u32 ((0 : Nat) : Int), .int .u32 ((0 : Nat) : Int)] 40
          go_upto_region 18 with fail
          generalize hV3 : World.alloc _ _ = V3 at h3 ⊢
          obtain ⟨g14, hg14⟩ : ∃ g, g = W2.heap.size := ⟨_, rfl⟩
          rw [← hg14] at h3 ⊢
          have H3 := Lib.hid h3
          clear hV3 hg14 h3 H2
          go_loopw [15, 16, 17, 18] (fun s15 s16 s17 s18 wr => ∃ (k : Nat) (p : Pl), s15 = .int .u8 (k : Nat) ∧ k ≤ 30 ∧ Hid (hasC (D.at_ id) p.1 p.2.1 p.2.2 = true ∧ OkPl p ∧ Sd w.heap.size w wr X S (thB g14 40 #[.int .u32 (p.1 : Nat), .int .u32 (p.2.1 : Nat), .int .u32 (p.2.2 : Nat)] :: thB g13 46 #[.int .u8 (kd : Nat), .int .u32 (ep : Nat), .int .u32 (id : Nat), .int .u32 (fc : Nat), .int .u32 (fb : Nat), .int .u32 (fn : Nat), .int .u32 (cn : Nat), .bool cl, .int .u64 (sm : Nat), .slice fA fl.length fc9, .int .i64 nn] :: thBk Y :: ts)))
            (fun s15 _ _ _ _ => m - (intOf s15).toNat)
          case atStart => exact ⟨1, (0, 0, 0), by go_num, by omega, Lib.hid ⟨has_first (HY.out.2.2.1.at_ id), okPl0, H3.out⟩⟩
          case round =>
            obtain ⟨k, ⟨p1, p2, p3⟩, rfl, hk, HJ⟩ := hrel
            obtain ⟨wj, hwj⟩ : ∃ wj, wj = wr := ⟨_, rfl⟩
            rw [← hwj] at HJ ⊢
            clear hwj
            have F16 : wj.cell? ⟨pa, po + i * 18 + 16, none⟩ = some (.int .u8 (oat : Nat)) := HOld.out.1 16 _ rfl _ HJ.out.2.2.b
            have D14 := cells_say (HJ.out.2.2.blkAt 0) _ 0 rfl
            have D13 := cells_say (HJ.out.2.2.blkAt 1) _ 0 rfl
            simp only [cellsSay, List.drop_zero, Nat.reduceAdd, and_true] at D14 D13
            by_cases hkm : k < m
            · have kk : (k : Int) < (m : Int) := by omega
              have hvk : IntKind.u8.wrap ((k : Int) + 1) = (k : Int) + 1 := by rw [IntKind.wrap_u8]; omega
              have hnx := next_ok HY.out.2.2.1 id 1 HJ.out.1 HJ.out.2.1
              have hCt := bCut_any (RdK.of (HJ.out.2.2.sep.at_ (t := thBk Y) 2 rfl)) HY.out.2.1 id id32 p1 p2 p3 1 HJ.out.2.1.1 HJ.out.2.1.2.1 HJ.out.2.1.2.2 (by unfold in64; omega)
              rw [HY.out.1] at hCt
              obtain ⟨R, hR⟩ : ∃ R, R = cutS id (D.at_ id) (p1, p2, p3) 1 := ⟨_, rfl⟩
              rw [← hR] at hnx
              rw [show cutF id (D.at_ id) p1 p2 p3 1 = R from hR.symm] at hCt
              clear hR
              obtain ⟨⟨kd', ep', se', fc', fb', fn', cn', cl', sm', fl', nn'⟩, ⟨t1', t2', t3'⟩, er'⟩ := R
              have HCt := Lib.hid hCt
              have HNx := Lib.hid hnx
              clear hCt hnx D13
              go_upto_region 21 with (go_at_call 14; refine HCt.out.mono ?_; rintro e w7 ⟨⟨A3, c3, rfl, ho⟩, b7⟩; simp only [frC])
              have h7 := ((HJ.out.2.2.go b7).box (zFr kd' ep' se' fc' fb' fn' cn' cl' sm' A3 fl' c3 nn') 46).box #[.int .u32 ((t1' : Nat) : Int), .int .u32 ((t2' : Nat) : Int), .int .u32 ((t3' : Nat) : Int)] 40
              rw [World.size_alloc] at h7
              dsimp only [zFr] at h7
              generalize hV7 : World.alloc (World.alloc _ _) _ = V7 at h7 ⊢
              obtain ⟨g16, hg16⟩ : ∃ g, g = w7.heap.size := ⟨_, rfl⟩
              obtain ⟨g17, hg17⟩ : ∃ g, g = w7.heap.size + 1 := ⟨_, rfl⟩
              rw [← hg17, ← hg16] at h7 ⊢
              clear D14 F16
              have D17 := cells_say (h7.blkAt 0) _ 0 rfl
              have D14 := cells_say (h7.blkAt 2) _ 0 rfl
              simp only [cellsSay, List.drop_zero, Nat.reduceAdd, and_true] at D17 D14
              have H7 := Lib.hid h7
              clear hV7 hg16 hg17 h7 b7 ho HJ HCt
              go_wp2_with fail
              generalize hWx : World.setCell _ _ _ = Wx
              have h8 := H7.out.put_ 2 g14 [(0, .int .u32 ((t1' : Nat) : Int)), (1, .int .u32 ((t2' : Nat) : Int)), (2, .int .u32 ((t3' : Nat) : Int))] #[.int .u32 ((t1' : Nat) : Int), .int .u32 ((t2' : Nat) : Int), .int .u32 ((t3' : Nat) : Int)] hWx
              simp only [List.set] at h8
              clear D14 D17 hWx H7
              have H8 := Lib.hid h8
              clear h8
              go_roundw
              case measure => simp [intOf]; omega
              case rel => exact ⟨k + 1, (t1', t2', t3'), by go_num, by omega, Lib.hid ⟨HNx.out.1, HNx.out.2, H8.out.tail.tail⟩⟩
            · have kk : ¬ (k : Int) < (m : Int) := by omega
              go_wp2_with fail
              generalize hWx : World.setCell _ _ _ = Wx
              have h8 := HJ.out.2.2.put_ 1 g13 [(3, .int .u32 (p1 : Nat)), (4, .int .u32 (p2 : Nat)), (5, .int .u32 (p3 : Nat))] #[.int .u8 (kd : Nat), .int .u32 (ep : Nat), .int .u32 (id : Nat), .int .u32 (p1 : Nat), .int .u32 (p2 : Nat), .int .u32 (p3 : Nat), .int .u32 (cn : Nat), .bool cl, .int .u64 (sm : Nat), .slice fA fl.length fc9, .int .i64 nn] hWx
              simp only [List.set] at h8
              go_meet
              exact ⟨(p1, p2, p3), Lib.hid ⟨HJ.out.2.1, h8.tail⟩⟩
      case rest =>
        obtain ⟨⟨p1, p2, p3⟩, HK⟩ := hcut
        obtain ⟨W3, hW3⟩ : ∃ Wx, Wx = wc := ⟨_, rfl⟩
        rw [← hW3] at HK ⊢
        clear hW3 H2
        have D13 := cells_say (HK.out.2.blkAt 0) _ 0 rfl
        simp only [cellsSay, List.drop_zero, Nat.reduceAdd, and_true] at D13
        have F15 : W3.cell? ⟨pa, po + i * 18 + 15, none⟩ = some (.bool own) := HOld.out.1 15 _ rfl _ HK.out.2.b
        go_upto_if 128 with fail
        go_cut [] from 129 to 138 (fun wx => ∃ EP SM : Nat, Hid (EP < 4294967296 ∧ SM < 18446744073709551616 ∧ Sd w.heap.size w wx X S (thB g13 46 #[.int .u8 (kd : Nat), .int .u32 (EP : Nat), .int .u32 (id : Nat), .int .u32 (p1 : Nat), .int .u32 (p2 : Nat), .int .u32 (p3 : Nat), .int .u32 (cn : Nat), .bool cl, .int .u64 (SM : Nat), .slice fA fl.length fc9, .int .i64 nn] :: thBk Y :: ts)))
        case first =>
          cases own with
          | false =>
            go_wp2_with fail
            go_meet
            exact ⟨ep, sm, Lib.hid ⟨HOld.out.2.f.2.1, HOld.out.2.f.2.2.2.2.2.2.2.1, HK.out.2⟩⟩
          | true =>
            have hSu := fun (W : World) (hY : (thBk Y).P W) => bSum_any (RdK.of hY) HY.out.2.1 id id32 p1 p2 p3 HK.out.1.1 HK.out.1.2.1 HK.out.1.2.2
            rw [HY.out.1] at hSu
            obtain ⟨Z, hZ⟩ : ∃ Z : Nat, Z = (if hasC (D.at_ id) p1 p2 p3 then sumC (D.at_ id) p1 p2 else 0) := ⟨_, rfl⟩
            have hZl : Z < 18446744073709551616 := by
              rw [hZ]
              split
              · exact sumC_lt _ _ _
              · decide
            obtain ⟨Er, hEr⟩ : ∃ Er : Nat, Er = (if hasC (D.at_ id) p1 p2 p3 then 0 else 122) := ⟨_, rfl⟩
            rw [← hZ, ← hEr] at hSu
            have HSu := Lib.hid hSu
            clear hSu hZ hEr
            go_upto_region 25 with fail
            generalize hWx : World.setCell _ _ _ = W4
            have h4 := HK.out.2.put_ 0 g13 [(1, .int .u32 7)] #[.int .u8 (kd : Nat), .int .u32 7, .int .u32 (id : Nat), .int .u32 (p1 : Nat), .int .u32 (p2 : Nat), .int .u32 (p3 : Nat), .int .u32 (cn : Nat), .bool cl, .int .u64 (sm : Nat), .slice fA fl.length fc9, .int .i64 nn] hWx
            simp only [List.set] at h4
            clear D13 hWx F15
            have D13 := cells_say (h4.blkAt 0) _ 0 rfl
            simp only [cellsSay, List.drop_zero, Nat.reduceAdd, and_true] at D13
            have HS4 := Lib.hid (HSu.out W4 (h4.sep.at_ (t := thBk Y) 1 rfl))
            have H4 := Lib.hid h4
            clear h4 HSu
            go_wp2_with (go_at_call 15; refine HS4.out.mono ?_; rintro e w5 ⟨rfl, b5⟩; clear D13; have D13 := cells_say ((H4.out.go b5).blkAt 0) _ 0 rfl; simp only [cellsSay, List.drop_zero, Nat.reduceAdd, and_true] at D13)
            generalize hWx : World.setCell _ _ _ = W6
            have h6 := (H4.out.go b5).put_ 0 g13 [(8, .int .u64 (Z : Nat))] #[.int .u8 (kd : Nat), .int .u32 7, .int .u32 (id : Nat), .int .u32 (p1 : Nat), .int .u32 (p2 : Nat), .int .u32 (p3 : Nat), .int .u32 (cn : Nat), .bool cl, .int .u64 (Z : Nat), .slice fA fl.length fc9, .int .i64 nn] hWx
            simp only [List.set] at h6
            go_meet
            exact ⟨7, Z, Lib.hid ⟨by decide, hZl, h6⟩⟩
        case rest =>
          obtain ⟨EP, SM, HK5⟩ := hcut
          obtain ⟨W5, hW5⟩ : ∃ Wx, Wx = wc := ⟨_, rfl⟩
          rw [← hW5] at HK5 ⊢
          clear hW5 D13 F15
          obtain ⟨⟨q1, q2, q3⟩, hq⟩ : ∃ q, q = S.come id := ⟨_, rfl⟩
          have hCo := come_any HK5.out.2.2 id id32
          rw [← hq] at hCo
          simp only [plE, plV] at hCo
          have HCo := Lib.hid hCo
          clear hCo
          go_upto_region 27 with (go_at_call 17; refine HCo.out.mono ?_; rintro e w6 ⟨rfl, b6⟩)
          have h6 := (HK5.out.2.2.go b6).box #[.int .u32 (q1 : Nat), .int .u32 (q2 : Nat), .int .u32 (q3 : Nat)] 40
          generalize hV6 : World.alloc _ _ = V6 at h6 ⊢
          obtain ⟨g19, hg19⟩ : ∃ g, g = w6.heap.size := ⟨_, rfl⟩
          rw [← hg19] at h6 ⊢
          have D13 := cells_say (h6.blkAt 1) _ 0 rfl
          simp only [cellsSay, List.drop_zero, Nat.reduceAdd, and_true] at D13
          have hWy := way_any h6
          obtain ⟨v, hv⟩ : ∃ v, v = sumP S.PL := ⟨_, rfl⟩
          rw [← hv] at hWy
          have hfo : (⟨kd, EP, id, p1, p2, p3, cn, cl, SM, fl, nn⟩ : FrD).ok := ⟨HOld.out.2.f.1, HK5.out.1, id32, HK.out.1.1, HK.out.1.2.1, HK.out.1.2.2, HOld.out.2.f.2.2.2.2.2.2.1, HK5.out.2.1, HOld.out.2.f.2.2.2.2.2.2.2.2⟩
          have hTk := take_any (h6.perm (List.perm_middle (l₁ := [_, _]))) HY.out.2.1 (by rw [HY.out.1]; exact HI.out.1) ⟨kd, EP, id, p1, p2, p3, cn, cl, SM, fl, nn⟩ hfo fA fc9
          have hOr := order_main HY.out.2.2.1 S ⟨kd, EP, id, p1, p2, p3, cn, cl, SM, fl, nn⟩
          have hOk := OkSn.tak HY.out.2.2.1 HI.out.1 hfo
          rw [HY.out.1] at hTk
          obtain ⟨R, hR⟩ : ∃ R, R = takD D S ⟨kd, EP, id, p1, p2, p3, cn, cl, SM, fl, nn⟩ := ⟨_, rfl⟩
          rw [← hR] at hTk hOr hOk
          obtain ⟨S', l', mv, er⟩ := R
          simp only [← hq] at hOr
          have HWy := Lib.hid hWy
          have HTk := Lib.hid hTk
          have HOr := Lib.hid (And.intro hOr (And.intro hOk (And.intro hv hq)))
          clear hWy hTk hOr hOk hv hq hR hV6 hg19 HCo b6 h6
          simp only [frC, prB] at HTk
          go_upto_region 29 with (first
            | (go_at_call 23; refine HWy.out.mono ?_; rintro e w7 ⟨rfl, rfl⟩)
            | (go_at_call 16; refine HTk.out.mono ?_; rintro e w9 ⟨U9, c9, T9, rfl, hT9, h9⟩))
          replace hT9 : T9.map (fun y => y.f) = l' := hT9
          obtain ⟨⟨r1, r2, r3⟩, hr⟩ : ∃ r, r = S'.come id := ⟨_, rfl⟩
          have hCo := come_any h9 id id32
          rw [← hr] at hCo
          simp only [plE, plV] at hCo
          have HCo := Lib.hid hCo
          have H9 := Lib.hid (And.intro h9 hT9)
          clear hCo h9 hT9 D13 HWy HTk
          go_upto_region 30 with (go_at_call 17; refine HCo.out.mono ?_; rintro e w10 ⟨rfl, b10⟩)
          have hr1 := HOr.out.1.1
          have hr2 := HOr.out.1.2.1
          replace hr1 : befP (S'.come id) (q1, q2, q3) = false := hr1
          replace hr2 : mv = befP (q1, q2, q3) (S'.come id) := hr2
          rw [← hr] at hr1 hr2
          simp only [befP] at hr1 hr2
          have h10 := (H9.out.1.go b10).box #[.int .u32 (r1 : Nat), .int .u32 (r2 : Nat), .int .u32 (r3 : Nat)] 40
          generalize hV10 : World.alloc _ _ = V10 at h10 ⊢
          obtain ⟨g24, hg24⟩ : ∃ g, g = w10.heap.size := ⟨_, rfl⟩
          rw [← hg24] at h10 ⊢
          have m19 : thB g19 40 #[.int .u32 (q1 : Nat), .int .u32 (q2 : Nat), .int .u32 (q3 : Nat)] ∈ (thB g24 40 #[.int .u32 (r1 : Nat), .int .u32 (r2 : Nat), .int .u32 (r3 : Nat)] :: thBk Y :: (chT (.slice U9 T9.length c9) T9 ++ ([thB g19 40 #[.int .u32 (q1 : Nat), .int .u32 (q2 : Nat), .int .u32 (q3 : Nat)], thB g13 46 #[.int .u8 (kd : Nat), .int .u32 (EP : Nat), .int .u32 (id : Nat), .int .u32 (p1 : Nat), .int .u32 (p2 : Nat), .int .u32 (p3 : Nat), .int .u32 (cn : Nat), .bool cl, .int .u64 (SM : Nat), .slice fA fl.length fc9, .int .i64 nn]] ++ ts))) := by simp
          have m13 : thB g13 46 #[.int .u8 (kd : Nat), .int .u32 (EP : Nat), .int .u32 (id : Nat), .int .u32 (p1 : Nat), .int .u32 (p2 : Nat), .int .u32 (p3 : Nat), .int .u32 (cn : Nat), .bool cl, .int .u64 (SM : Nat), .slice fA fl.length fc9, .int .i64 nn] ∈ (thB g24 40 #[.int .u32 (r1 : Nat), .int .u32 (r2 : Nat), .int .u32 (r3 : Nat)] :: thBk Y :: (chT (.slice U9 T9.length c9) T9 ++ ([thB g19 40 #[.int .u32 (q1 : Nat), .int .u32 (q2 : Nat), .int .u32 (q3 : Nat)], thB g13 46 #[.int .u8 (kd : Nat), .int .u32 (EP : Nat), .int .u32 (id : Nat), .int .u32 (p1 : Nat), .int .u32 (p2 : Nat), .int .u32 (p3 : Nat), .int .u32 (cn : Nat), .bool cl, .int .u64 (SM : Nat), .slice fA fl.length fc9, .int .i64 nn]] ++ ts))) := by simp
          have D24 := cells_say (h10.blkAt 0) _ 0 rfl
          have D19 := cells_say (show Blk V10 g19 40 #[.int .u32 (q1 : Nat), .int .u32 (q2 : Nat), .int .u32 (q3 : Nat)] from h10.sep.get m19) _ 0 rfl
          simp only [cellsSay, List.drop_zero, Nat.reduceAdd, and_true] at D24 D19
          have hN : ∀ w, (binOp .neq 4 (.bool mv) (.bool mv)).run Tryz.prog w = .ok (.bool false) w := fun w => by cases mv <;> kernel_rfl
          have HB1 := Lib.hid hr1
          have HB2 := Lib.hid hr2
          have H10 := Lib.hid h10
          have HM := Lib.hid (And.intro m19 m13)
          have Hr := Lib.hid hr
          clear hr1 hr2 hr hV10 hg24 h10 m19 m13 HCo b10
          go_upto_region 32 with (first
            | (go_at_call 26; refine (rbefore_any _ _ _ _ _ _ _).mono ?_; rintro e w11 ⟨rfl, b11⟩; rw [HB1.out]; have h11 := H10.out.go b11; clear D24 D19; have D24 := cells_say (h11.blkAt 0) _ 0 rfl; have D19 := cells_say (show Blk w11 g19 40 #[.int .u32 (q1 : Nat), .int .u32 (q2 : Nat), .int .u32 (q3 : Nat)] from h11.sep.get HM.out.1) _ 0 rfl; simp only [cellsSay, List.drop_zero, Nat.reduceAdd, and_true] at D24 D19; have H11 := Lib.hid h11; clear h11 b11)
            | (go_at_call 26; refine (rbefore_any _ _ _ _ _ _ _).mono ?_; rintro e w12 ⟨rfl, b12⟩; rw [← HB2.out]))
          have h11 := H11.out.go b12
          clear D24 D19 HB1 HB2 hN b12
          have D13 := cells_say (show Blk w12 g13 46 #[.int .u8 (kd : Nat), .int .u32 (EP : Nat), .int .u32 (id : Nat), .int .u32 (p1 : Nat), .int .u32 (p2 : Nat), .int .u32 (p3 : Nat), .int .u32 (cn : Nat), .bool cl, .int .u64 (SM : Nat), .slice fA fl.length fc9, .int .i64 nn] from h11.sep.get HM.out.2) _ 0 rfl
          simp only [cellsSay, List.drop_zero, Nat.reduceAdd, and_true] at D13
          by_cases hep : EP = 7
          · have kq : ((EP : Int) != 7) = false := (neI EP 7).trans (decide_eq_false (fun e => e hep))
            clear hep
            have H12 := Lib.hid h11
            clear h11
            go_wp2_with fail
            go_roundw
            case measure => simp [intOf]; omega
            case rel => exact ⟨i + 1, S', by go_num, by omega, Lib.hid ⟨HOr.out.2.1, HOr.out.1.2.2.2.trans HI.out.2.1, H12.out.tail.sub ((((List.sublist_cons_self _ _).trans (List.sublist_cons_self _ _)).trans (List.sublist_append_right _ _)).cons_cons _)⟩⟩
          · have kq : ((EP : Int) != 7) = true := (neI EP 7).trans (decide_eq_true hep)
            have hno := HOr.out.1.2.2.1 (by rw [HI.out.2.1]; exact hep)
            injection hno with hS' hno
            injection hno with hl' hno
            injection hno with hmv her
            subst hS' hl' hmv her
            obtain rfl : T9 = [] := List.map_eq_nil_iff.1 H9.out.2
            rw [show ([] : List FrE).length = 0 from rfl]
            have hrq : (r1, r2, r3) = (q1, q2, q3) := Hr.out.trans HOr.out.2.2.2.symm
            simp only [Prod.mk.injEq] at hrq
            obtain ⟨e1, e2, e3⟩ := hrq
            subst e1 e2 e3
            have D24 := cells_say (h11.blkAt 0) _ 0 rfl
            have D19 := cells_say (show Blk w12 g19 40 #[.int .u32 (r1 : Nat), .int .u32 (r2 : Nat), .int .u32 (r3 : Nat)] from h11.sep.get HM.out.1) _ 0 rfl
            simp only [cellsSay, List.drop_zero, Nat.reduceAdd, and_true] at D24 D19
            have hWy := way_any h11
            rw [← HOr.out.2.2.1] at hWy
            have HWy := Lib.hid hWy
            have hQ : ∀ w, (binOp .neq 40 (.agg #[.int .u32 (r1 : Nat), .int .u32 (r2 : Nat), .int .u32 (r3 : Nat)]) (.agg #[.int .u32 (r1 : Nat), .int .u32 (r2 : Nat), .int .u32 (r3 : Nat)])).run Tryz.prog w = .ok (.bool false) w := fun w => by
              rw [nePlB_run r1 r2 r3 r1 r2 r3 w, decide_eq_true rfl]
              rfl
            have hvv : (v != v) = false := bne_self_eq_false v
            have H12 := Lib.hid h11
            clear hWy h11 hep
            go_wp2_with (go_at_call 23; refine HWy.out.mono ?_; rintro e w13 ⟨rfl, rfl⟩)
            go_roundw
            case measure => simp [intOf]; omega
            case rel => exact ⟨i + 1, _, by go_num, by omega, Lib.hid ⟨HOr.out.2.1, HI.out.2.1, H12.out.tail.sub ((((List.sublist_cons_self _ _).trans (List.sublist_cons_self _ _)).trans (List.sublist_append_right _ _)).cons_cons _)⟩⟩
    · have hit2 : ¬ (i : Int) < (n2 : Int) := by omega
      have H9 := Lib.hid HI.out.2.2.b
      clear HI
      go_wp2_with fail
      go_ret
      exact ⟨rfl, H9.out⟩
end Go.Proofs.YtnjcdihgaidlbaaGreatDoor
