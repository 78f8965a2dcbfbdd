/- Joined behind the others: Gen, Own, Frame, Row, FrameS, FrameF, Smp, Ref9, MathBk, Bk24, Bk25, FrameOB, MathBk3, Bk26, Bk27, Bk28, Dg1, Sn3, Sn4, Sn20, Sn22, FrSm, Sn23. -/
import Derived.Test.YtnjcdihgaidlbaaGreatDoorQ1
import Derived.Test.YtnjcdihgaidlbaaGreatDoorQ2
import Derived.Test.YtnjcdihgaidlbaaGreatDoorQ3
import Derived.Test.YtnjcdihgaidlbaaGreatDoorQ4
import Derived.Test.YtnjcdihgaidlbaaGreatDoorQ5
import Derived.Test.YtnjcdihgaidlbaaGreatDoorQ6
import Derived.Test.YtnjcdihgaidlbaaGreatDoorQ7
import Derived.Test.YtnjcdihgaidlbaaGreatDoorQ8
import Derived.Test.YtnjcdihgaidlbaaGreatDoorQ9
import Derived.Test.YtnjcdihgaidlbaaGreatDoorQ10
import Derived.Test.YtnjcdihgaidlbaaGreatDoorQ11
import Derived.Test.YtnjcdihgaidlbaaGreatDoorQ12
import Derived.Test.YtnjcdihgaidlbaaGreatDoorQ13
import Derived.Test.YtnjcdihgaidlbaaGreatDoorQ14
import Derived.Test.YtnjcdihgaidlbaaGreatDoorQ15
import Derived.Test.YtnjcdihgaidlbaaGreatDoorQ16
import Derived.Test.YtnjcdihgaidlbaaGreatDoorQ17
import Derived.Test.YtnjcdihgaidlbaaGreatDoorQ18
import Derived.Test.YtnjcdihgaidlbaaGreatDoorQ19
import Derived.Test.YtnjcdihgaidlbaaGreatDoorQ20
import Derived.Test.YtnjcdihgaidlbaaGreatDoorQ21
import Derived.Test.YtnjcdihgaidlbaaGreatDoorQ22
import Derived.Test.YtnjcdihgaidlbaaGreatDoorQ23
import Derived.Test.YtnjcdihgaidlbaaGreatDoorQ24
import Derived.Test.YtnjcdihgaidlbaaGreatDoorQ25
import Derived.Test.YtnjcdihgaidlbaaGreatDoorQ26
import Derived.Test.YtnjcdihgaidlbaaGreatDoorQ27
import Derived.Test.YtnjcdihgaidlbaaGreatDoorQ28
import Derived.Test.YtnjcdihgaidlbaaGreatDoorQ29
import Derived.Test.YtnjcdihgaidlbaaGreatDoorQ30
import Derived.Test.YtnjcdihgaidlbaaGreatDoorQ31
import Derived.Test.YtnjcdihgaidlbaaGreatDoorQ32
import Derived.Test.YtnjcdihgaidlbaaGreatDoorQ33
import Derived.Test.YtnjcdihgaidlbaaGreatDoorQ34
import Derived.Test.YtnjcdihgaidlbaaGreatDoorQ35
import Derived.Test.YtnjcdihgaidlbaaGreatDoorQ36
import Derived.Test.YtnjcdihgaidlbaaGreatDoorQ37
import Derived.Test.YtnjcdihgaidlbaaGreatDoorQ38
import Derived.Test.YtnjcdihgaidlbaaGreatDoorQ39
import Derived.Test.YtnjcdihgaidlbaaGreatDoorQ40
import Derived.Test.YtnjcdihgaidlbaaGreatDoorQ41
import Derived.Test.YtnjcdihgaidlbaaGreatDoorQ42
import Derived.Test.YtnjcdihgaidlbaaGreatDoorQ43
import Derived.Test.YtnjcdihgaidlbaaGreatDoorQ44
import Derived.Test.YtnjcdihgaidlbaaGreatDoorQ45
import Derived.Test.YtnjcdihgaidlbaaGreatDoorQ46
import Derived.Test.YtnjcdihgaidlbaaGreatDoorQ47
import Derived.Test.YtnjcdihgaidlbaaGreatDoorQ48
import Derived.Test.YtnjcdihgaidlbaaGreatDoorQ49
import Derived.Test.YtnjcdihgaidlbaaGreatDoorQ50
import Derived.Test.YtnjcdihgaidlbaaGreatDoorQ51
import Derived.Test.YtnjcdihgaidlbaaGreatDoorQ52
import Derived.Laws.CopyOwn
import Derived.Laws.IdiomStrings
import Derived.Laws.BytesArg
import Derived.Laws.StructEq
import Derived.MapKept
import Derived.ProofKit
import Derived.OpenShut
import Derived.Lib.SmallJoins
import Derived.Carry
import Derived.Deep.Fields
import Derived.Deep.Slices
import Derived.Deep.SlicePairs
import Derived.Deep.CutBlock
import Derived.Deep.DeepCutAuto
set_option linter.unusedSimpArgs false
set_option linter.unusedVariables false
/-
  Memory of the call's own, whatever it holds: what is made, appended to, stored into; kept while the world grows.
-/
set_option linter.unusedSimpArgs false
set_option linter.unusedVariables false
namespace Go.Proofs.YtnjcdihgaidlbaaGreatDoor
open Go.RowKit

section
variable {w w' : World} {g : Nat} {t : TypeId} {cs : Array Value}
end

theorem own_grown {w w' : World} {base : Nat} {e : TypeId} {size n : Nat} {v : Value} {xs : List Value} (h : w.ownsRow base e size v n xs) (hg : w.grownBy w' v.ownBlock) (hb : base ≤ w.heap.size) : Below base w w' :=
  (Below.refl _ _).grown hg hb fun k hk => (h.lt k hk).1

theorem str_eq (l l' : List UInt8) : ((⟨l.toArray⟩ : ByteArray).toList == (⟨l'.toArray⟩ : ByteArray).toList) = decide (l = l') := by
  rw [← beq_toListBytes, Bool.eq_iff_iff, MapKept.bytes_beq, decide_eq_true_eq]
  constructor
  · intro e
    injection e with e
    simpa using e
  · intro e; rw [e]

end Go.Proofs.YtnjcdihgaidlbaaGreatDoor

/-
  A slice of bytes of the call's own: what is made, appended to, stored into; kept while the world grows.
-/
namespace Go.Proofs.YtnjcdihgaidlbaaGreatDoor
open Go.RowKit

/-- 'string(b)' -/
theorem str_of {w : World} {A : Option Addr} {l : List UInt8} (h : Bs w A l) (c : Nat) : (convert 42 9 (.slice A l.length c)).run Tryz.prog w = .ok (.string ⟨l.toArray⟩) w := by
  rcases Nat.eq_zero_or_pos l.length with h0 | h0
  · have : l = [] := List.eq_nil_of_length_eq_zero h0
    subst this
    rcases A with _ | a
    · exact run_convert_bytes_nil w _ _ Tryz.underlying42 Tryz.underlying5 _ _ _ Tryz.underlying9
    · exact run_convert_bytes_back w _ _ _ a c [] Tryz.underlying42 Tryz.underlying5 Tryz.underlying9 (fun j hj => by simp at hj)
  · obtain ⟨p, o, rfl, _, hc⟩ := h.at_ h0
    refine run_convert_bytes_back w _ _ _ _ c l Tryz.underlying42 Tryz.underlying5 Tryz.underlying9 (fun j hj => ?_)
    have := hc j hj
    unfold Addr.add
    split
    · rename_i h0; subst h0; simpa using this
    · exact this

section
variable {w W w' : World}
end

end Go.Proofs.YtnjcdihgaidlbaaGreatDoor

/- The parameters of the statements, opened: what a reading gives to the walks. -/
namespace Go.Proofs.YtnjcdihgaidlbaaGreatDoor
open Go.ChangeShapes Go.WideShapes Go.ChangeAt Go.RowKit Go.Joins
set_option maxRecDepth 100000


theorem wf_u8s {zs : List Int} (h : ∀ n ∈ zs, (Lit.int .u8 n).wf = true) : ∃ l : List UInt8, zs = l.map fun b => (b.toNat : Int) := by
  refine ⟨zs.map fun n => UInt8.ofNat n.toNat, ?_⟩
  rw [List.map_map]
  apply List.ext_getElem (by simp)
  intro i h1 h2
  simp only [List.getElem_map, Function.comp]
  have := bounds_u8 (h zs[i] (List.getElem_mem h1))
  rw [UInt8.toNat_ofNat_of_lt' (show zs[i].toNat < 256 by omega)]
  omega

section
variable {H : Type} {enc : TypeId × Value → H} {W : World}

/-- a slice of bytes, as one cell reads -/
theorem open_bytes {fuel : Nat} {v : Value} {x : DataW H × List MemPlace} {sp : Nat → Bool} {held : Bool} {b0 : Nat} (h : DataW.trod enc Tryz.prog W b0 sp held fuel 42 [v] = some x) :
    ∃ (A : Option Addr) (c : Nat) (l : List UInt8), v = .slice A l.length c ∧ l.length ≤ maxLen ∧ Bs W A l := by
  rcases open_ints Tryz.underlying42 Tryz.underlying5 (by kernel_rfl) h with ⟨hcs, _⟩ | ⟨a, len, cap, zs, hcs, _, hl, hm, hz, _, hcell, hwz⟩
  · simp at hcs
    exact ⟨none, 0, [], hcs, Nat.zero_le _, Bs.nil _ _⟩
  · simp at hcs
    obtain ⟨l, rfl⟩ := wf_u8s hwz
    have hlen : len ≤ l.length := by
      rw [List.length_map] at hz
      rw [hz]; split <;> omega
    refine ⟨some a, cap, l.take len, ?_, ?_, fun i b hi => ?_⟩
    · rw [List.length_take, Nat.min_eq_left hlen]; exact hcs
    · rw [List.length_take]; omega
    · rw [List.getElem?_take] at hi
      split at hi
      · rename_i hil
        have hil' : i < l.length := by omega
        have hc := hcell i (by rw [List.length_map]; exact hil')
        have e : (l.map fun b => (b.toNat : Int)).getD i 0 = (b.toNat : Int) := by
          rw [List.getD_eq_getElem?_getD, List.getElem?_map, hi]; rfl
        rw [e] at hc
        obtain ⟨p, o, spot⟩ := a
        have hc0 := hcell 0 (by rw [List.length_map]; omega)
        have hs : spot = none := by simpa [Addr.add] using World.cell?_spot hc0
        subst hs
        refine ⟨p, o, rfl, ?_⟩
        rw [← hc]
        congr 1
        unfold Addr.add
        split
        · rename_i h0; subst h0; rfl
        · rfl
      · cases hi

end

end Go.Proofs.YtnjcdihgaidlbaaGreatDoor

/-
  Rows of elements of several cells each: as a slice reads them, and as the call's own; append of one and of many.
-/
set_option linter.unusedSimpArgs false
set_option linter.unusedVariables false
namespace Go.Proofs.YtnjcdihgaidlbaaGreatDoor
open Go.RowKit

section
variable {α : Type}

theorem Rw.none {w : World} {enc : α → List Value} {sz : Nat} {l : List α} (h : Rw w enc sz none l) : l = [] := by
  cases l with
  | nil => rfl
  | cons x l => obtain ⟨p, o, hV, _⟩ := h 0 x rfl; cases hV

theorem flat_at (enc : α → List Value) (sz : Nat) (hsz : 0 < sz) (hlen : ∀ x, (enc x).length = sz) (l : List α) (k : Nat) (u : Value) (h : (l.flatMap enc)[k]? = some u) : ∃ x, l[k / sz]? = some x ∧ (enc x)[k % sz]? = some u := by
  have hk : k < (l.flatMap enc).length := by
    rcases Nat.lt_or_ge k (l.flatMap enc).length with h1 | h1
    · exact h1
    · rw [List.getElem?_eq_none h1] at h; cases h
  rw [flat_length enc sz hlen] at hk
  have hi : k / sz < l.length := (Nat.div_lt_iff_lt_mul hsz).2 hk
  refine ⟨l[k / sz], List.getElem?_eq_getElem hi, ?_⟩
  rw [← flat_get enc sz hlen l (k / sz) _ (List.getElem?_eq_getElem hi) (k % sz) (Nat.mod_lt _ hsz), Nat.mul_comm, Nat.div_add_mod]
  exact h

section
variable {w w' : World} {base : Nat} {e : TypeId} {enc : α → List Value} {sz : Nat} {v : Value} {l : List α}
end

theorem run_app_nilR {P : Program} (w : World) (base : Nat) (t ty e : TypeId) (i : TypeInfo) (size : Nat) (ht : P.underlying t = some (.slice e)) (hi : P.info? e = some i)
    (v : Value) (n : Nat) (xs : List Value) (hown : w.ownsRow base e size v n xs) (c : Nat) : (Builtin.append_ #[t, t] ty #[v, .slice none 0 c]).run P w = .ok v w := by
  rcases hown.2 with ⟨rfl, rfl⟩ | ⟨g, cap, cur, rfl, _, _, hnc, _⟩
  · simp [Builtin.append_, run_underlying ht, sizeOf, typeInfo, hi, Builtin.lenOf, Builtin.firstCells]
  · simp [Builtin.append_, run_underlying ht, sizeOf, typeInfo, hi, Builtin.lenOf, Builtin.firstCells, hnc, storeCells]

/-- 'append(out, x...)' -/
theorem appR {P : Program} {t e : TypeId} {enc : α → List Value} {sz bytes : Nat} (E : Elt P t e enc sz bytes) (w : World) {ops : Array Oper} {rest : List Oper} {o : Oper} {a : Act} {Q : Exit → Act → World → Prop} (hgd : o.guard = none) (s x : Operand)
    (ho : o.op = .call { callee := .builtin .append, args := #[s, x], argTypes := #[t, t] })
    (base : Nat) (v : Value) (L : List α) (hs : a.eval s = v) (hown : OwnR w base e enc sz v L) (A : Option Addr) (c : Nat) (l : List α)
    (hx : a.eval x = .slice A l.length c) (hb : Rw w enc sz A l) (hlen : L.length + l.length ≤ maxLen) (hbytes : (L.length + l.length) * bytes ≤ 140737488355328) (hbase : base ≤ w.heap.size)
    (h : ∀ A' c' w', OwnR w' base e enc sz (.slice A' (L.length + l.length) c') (L ++ l) → Below base w w' → wpList P ops Q rest (a.put o.dst (.slice A' (L.length + l.length) c')) w') : wpList P ops Q (o :: rest) a w := by
  obtain ⟨z, hinfo, hzs⟩ := E.info
  obtain ⟨i, hi, hz, hsz, hby⟩ := info_parts hinfo
  rcases A with _ | ad
  · have h0 := hb.none
    subst h0
    obtain ⟨A', c', rfl, _⟩ := hown.row E
    refine wpList_plain hgd fun K hK => ?_
    have hrun := run_app_nilR (P := P) w base t o.type e i sz E.under hi _ _ _ hown c
    unfold Oper.wp
    simp [execOp, ho, resolve, invoke, builtin, hs, hx, hrun, Result.andThen]
    exact hK _ _ (h A' c' w (by simpa using hown) (Below.refl _ _))
  · refine wpList_append_own (P := P) w hgd s x t ho base e i z sz bytes E.under hi hz hsz hby hzs E.pos v L.length (L.flatMap enc) hs hown ad l.length c (l.flatMap enc) hx (flat_length enc sz E.len l) ?_ ?_ hlen hbytes hbase fun v' w' h2 h3 _ => ?_
    · intro j u hj
      obtain ⟨y, hy, hu⟩ := flat_at enc sz E.pos E.len l j u hj
      obtain ⟨p, o, hA, hc⟩ := hb _ y hy
      injection hA with e
      subst e
      have h1 := hc _ u hu
      rw [Nat.add_assoc, Nat.mul_comm, Nat.div_add_mod] at h1
      unfold Addr.add
      split
      · rename_i h0; subst h0; simpa using h1
      · exact h1
    · intro u hu
      obtain ⟨y, _, hy⟩ := List.mem_flatMap.1 hu
      exact E.one y u hy
    · have h4 : OwnR w' base e enc sz v' (L ++ l) := by unfold OwnR; rw [List.length_append, List.flatMap_append]; exact h2
      obtain ⟨A', c', hv, _⟩ := h4.row E
      rw [List.length_append] at hv
      subst hv
      exact h A' c' w' h4 (own_grown hown h3 hbase)

end

end Go.Proofs.YtnjcdihgaidlbaaGreatDoor

/- An argument that is a slice of structs: opened as rows; plain cells by kind. -/
set_option linter.unusedSimpArgs false
set_option linter.unusedVariables false
namespace Go.Proofs.YtnjcdihgaidlbaaGreatDoor
open Go.Joins Go.ChangeShapes Go.WideShapes Go.RowKit Go.Deep
set_option maxRecDepth 100000

theorem list_ofR {α : Type} (P : Nat → α → Prop) (n : Nat) (h : ∀ i, i < n → ∃ x, P i x) : ∃ l : List α, l.length = n ∧ ∀ i x, l[i]? = some x → P i x := by
  induction n with
  | zero => exact ⟨[], rfl, fun i x h => by simp at h⟩
  | succ n ih =>
    obtain ⟨l, hl, hp⟩ := ih fun i hi => h i (by omega)
    obtain ⟨x, hx⟩ := h n (by omega)
    refine ⟨l ++ [x], by simp [hl], fun i y hy => ?_⟩
    rcases Nat.lt_or_ge i n with h1 | h1
    · rw [List.getElem?_append_left (by omega)] at hy; exact hp i y hy
    · rw [List.getElem?_append_right (by omega), hl] at hy
      have : i - n = 0 := by
        rcases Nat.eq_zero_or_pos (i - n) with h2 | h2
        · exact h2
        · rw [List.getElem?_eq_none (by simp; omega)] at hy; cases hy
      rw [this] at hy
      simp at hy
      subst hy
      obtain rfl : i = n := by omega
      exact hx
theorem spotR {w : World} {a : Addr} {v : Value} (h : w.cell? a = some v) : ∃ p o, a = ⟨p, o, none⟩ := by
  obtain ⟨p, o, s⟩ := a
  have : s = none := World.cell?_spot h
  exact ⟨p, o, by rw [this]⟩
theorem addR (p o i : Nat) : (⟨p, o, none⟩ : Addr).add i = ⟨p, o + i, none⟩ := by
  unfold Addr.add
  split
  · rename_i h0; subst h0; rfl
  · rfl

section
variable {H : Type} {ench : TypeId × Value → H} {W : World} {P : Program}
/-- a slice of elements of sz cells each, each of which can be read so -/
theorem open_rows {α : Type} {enc : α → List Value} {sz : Nat} {ok : α → Prop} {t e : TypeId} {b0 : Nat} {v : Value} {d : DataW H} {p : List MemPlace} (ht : P.underlying t = some (.slice e)) (hsz : P.cellsOf e = sz) (hpos : 0 < sz) (henc : ∀ x, (enc x).length = sz)
    (hd : ∀ (fuel : Nat) (cs : List Value) (x : DataW H × List MemPlace), cs.length = sz → DataW.trod ench P W 0 (fun _ => true) true fuel e cs = some x → ∃ y, cs = enc y ∧ ok y)
    (hv : Value.okWide P W .any b0 t v) (h : DataW.Trod ench P W 0 (fun _ => true) true t v d p) :
    ∃ (V : Option Addr) (c : Nat) (l : List α), v = .slice V l.length c ∧ Rw W enc sz V l ∧ l.length ≤ c ∧ l.length ≤ maxLen ∧ ∀ x ∈ l, ok x := by
  obtain ⟨a0, len0, cap0, rfl⟩ := okWide_slice ht hv
  obtain ⟨n, h⟩ := h
  rcases open_slice ht h with ⟨hcs, _⟩ | ⟨a, len, cap, m, n, D, Pl, hcs, _, hl, hm, hmm, _, hi⟩
  · simp [Value.cells] at hcs
    obtain ⟨rfl, rfl, rfl⟩ := hcs
    exact ⟨none, 0, [], rfl, Rw.nil _ _ _ _, Nat.le_refl _, Nat.zero_le _, fun e h => by simp at h⟩
  · simp [Value.cells] at hcs
    obtain ⟨rfl, rfl, rfl⟩ := hcs
    have hlm : len0 ≤ m := by rw [hmm]; split <;> omega
    obtain ⟨E, hE, hp⟩ := list_ofR (fun i (y : α) => (∃ p o, some a = some ⟨p, o, none⟩ ∧ ∀ j v, (enc y)[j]? = some v → W.cell? ⟨p, o + i * sz + j, none⟩ = some v) ∧ ok y) len0 (fun i hil => by
      obtain ⟨cs', h1, h2⟩ := hi i (by omega)
      obtain ⟨cs0, h01, _⟩ := hi 0 (by omega)
      rw [hsz] at h1 h01
      obtain ⟨_, hlen, hcell⟩ := World.cells?_some h1
      obtain ⟨_, hlen0, hcell0⟩ := World.cells?_some h01
      obtain ⟨y, rfl, hy⟩ := hd _ cs' _ hlen h2
      have hc0 := hcell0 0 hpos
      rw [add_add, Nat.zero_mul] at hc0
      obtain ⟨p, o, rfl⟩ := spotR (show W.cell? a = some _ by rw [List.getElem?_eq_getElem (by omega)] at hc0; simpa [Addr.add] using hc0)
      refine ⟨y, ⟨p, o, rfl, fun j v hj => ?_⟩, hy⟩
      have hjl : j < sz := by
        rcases Nat.lt_or_ge j sz with h3 | h3
        · exact h3
        · rw [List.getElem?_eq_none (by rw [henc]; exact h3)] at hj; cases hj
      have := hcell j hjl
      rw [add_add, addR, hj, ← Nat.add_assoc] at this
      exact this)
    refine ⟨some a, cap0, E, by rw [hE], fun i y hy => ?_, by omega, by omega, fun y hy => ?_⟩
    · exact (hp i y hy).1
    · obtain ⟨j, hj, rfl⟩ := List.getElem_of_mem hy
      exact (hp j _ (List.getElem?_eq_getElem hj)).2

end

end Go.Proofs.YtnjcdihgaidlbaaGreatDoor

/- A frame by value as a drawn argument. -/
set_option linter.unusedSimpArgs false
set_option linter.unusedVariables false
namespace Go.Proofs.YtnjcdihgaidlbaaGreatDoor
open Go.Joins Go.ChangeShapes Go.WideShapes Go.RowKit Go.Deep
set_option maxRecDepth 100000

section
variable {H : Type} {ench : TypeId × Value → H} {W : World}
theorem Tryz.fCellsU8 : Tryz.prog.cellsOf 5 = 1 := by kernel_rfl
theorem Tryz.fCellsU32 : Tryz.prog.cellsOf 30 = 1 := by kernel_rfl
theorem Tryz.fCellsU64 : Tryz.prog.cellsOf 41 = 1 := by kernel_rfl
theorem Tryz.fCellsB : Tryz.prog.cellsOf 4 = 1 := by kernel_rfl
theorem Tryz.fCellsL : Tryz.prog.cellsOf 42 = 1 := by kernel_rfl
theorem Tryz.fCellsP : Tryz.prog.cellsOf 40 = 3 := by kernel_rfl
theorem Tryz.fCellsBs : Tryz.prog.cellsOf 44 = 2 := by kernel_rfl
theorem Tryz.fCellsF : Tryz.prog.cellsOf 46 = 11 := by kernel_rfl
theorem ftrod_u8 {base n : Nat} {spare : Nat → Bool} {held : Bool} {c : Value} {y : DataW H × List MemPlace} (h : DataW.trod ench Tryz.prog W base spare held n 5 [c] = some y) : ∃ x : Nat, c = .int .u8 x ∧ x < 256 := by
  obtain ⟨x, e, _, wx⟩ := DataW.trod_int Tryz.underlying5 h
  have hb := bounds_u8 wx
  simp at e
  exact ⟨x.toNat, by rw [e, Int.toNat_of_nonneg hb.1], by omega⟩
theorem ftrod_u32 {base n : Nat} {spare : Nat → Bool} {held : Bool} {c : Value} {y : DataW H × List MemPlace} (h : DataW.trod ench Tryz.prog W base spare held n 30 [c] = some y) : ∃ x : Nat, c = .int .u32 x ∧ x < 4294967296 := by
  obtain ⟨x, e, _, wx⟩ := DataW.trod_int Tryz.underlying30 h
  have hb := bounds_u32 wx
  simp at e
  exact ⟨x.toNat, by rw [e, Int.toNat_of_nonneg hb.1], by omega⟩
theorem ftrod_u64 {base n : Nat} {spare : Nat → Bool} {held : Bool} {c : Value} {y : DataW H × List MemPlace} (h : DataW.trod ench Tryz.prog W base spare held n 41 [c] = some y) : ∃ x : Nat, c = .int .u64 x ∧ x < 18446744073709551616 := by
  obtain ⟨x, e, _, wx⟩ := DataW.trod_int Tryz.underlying41 h
  have hb := bounds_u64 wx
  simp at e
  exact ⟨x.toNat, by rw [e, Int.toNat_of_nonneg hb.1], by omega⟩
theorem ftrod_bool {base n : Nat} {spare : Nat → Bool} {held : Bool} {c : Value} {y : DataW H × List MemPlace} (h : DataW.trod ench Tryz.prog W base spare held n 4 [c] = some y) : ∃ x : Bool, c = .bool x := by
  obtain ⟨b, e, _⟩ := DataW.trod_bool Tryz.underlying4 h
  simp at e
  exact ⟨b, e⟩
theorem ftrod_place {base n : Nat} {spare : Nat → Bool} {held : Bool} {c d e : Value} {y : DataW H × List MemPlace} (h : DataW.trod ench Tryz.prog W base spare held n 40 [c, d, e] = some y) :
    ∃ a0 a1 a2 : Nat, c = .int .u32 a0 ∧ d = .int .u32 a1 ∧ e = .int .u32 a2 ∧ a0 < 4294967296 ∧ a1 < 4294967296 ∧ a2 < 4294967296 := by
  obtain ⟨xs, m, _, _, _, hlen, hg⟩ := DataW.trod_struct Tryz.underlying40 h
  obtain ⟨y0, h0⟩ := trodR hlen hg 0 rfl Tryz.fCellsU32
  obtain ⟨y1, h1⟩ := trodR hlen hg 1 rfl Tryz.fCellsU32
  obtain ⟨y2, h2⟩ := trodR hlen hg 2 rfl Tryz.fCellsU32
  obtain ⟨a0, rfl, b0⟩ := ftrod_u32 h0
  obtain ⟨a1, rfl, b1⟩ := ftrod_u32 h1
  obtain ⟨a2, rfl, b2⟩ := ftrod_u32 h2
  exact ⟨a0, a1, a2, rfl, rfl, rfl, b0, b1, b2⟩
theorem ftrod_bits {base n : Nat} {spare : Nat → Bool} {held : Bool} {c d : Value} {y : DataW H × List MemPlace} (h : DataW.trod ench Tryz.prog W base spare held n 44 [c, d] = some y) :
    ∃ (A : Option Addr) (k : Nat) (l : List UInt8) (m : Int), c = .slice A l.length k ∧ d = .int .i64 m ∧ l.length ≤ maxLen ∧ Bs W A l ∧ (-9223372036854775808 ≤ m ∧ m ≤ 9223372036854775807) := by
  obtain ⟨xs, m, _, _, _, hlen, hg⟩ := DataW.trod_struct Tryz.underlying44 h
  obtain ⟨y0, h0⟩ := trodR hlen hg 0 rfl Tryz.fCellsL
  obtain ⟨y1, h1⟩ := trodR hlen hg 1 rfl Tryz.fCellsI
  obtain ⟨A, k, l, rfl, hl, hb⟩ := open_bytes (b0 := base) h0
  obtain ⟨m, rfl, hm⟩ := ftrod_int h1
  exact ⟨A, k, l, m, rfl, rfl, hl, hb, hm⟩
end

end Go.Proofs.YtnjcdihgaidlbaaGreatDoor

/- Slices of samples: as they read, as the call's own; opened as a parameter. -/
namespace Go.Proofs.YtnjcdihgaidlbaaGreatDoor
open Go.RowKit Go.ChangeShapes Go.WideShapes Go.ChangeAt Go.Joins Go.Deep
set_option maxRecDepth 100000

def smp (s : Int × Nat) : List Value := [.int .i64 s.1, .int .u64 s.2]
theorem Tryz.eltS : Elt Tryz.prog 58 70 smp 2 16 := ⟨Tryz.underlying58, ⟨.agg #[.int .i64 0, .int .u64 0], by kernel_rfl, rfl⟩, by decide, fun _ => rfl, fun x v h => by
  simp [smp] at h; rcases h with rfl | rfl <;> rfl⟩
section
variable {H : Type} {enc : TypeId × Value → H} {W : World}
end

end Go.Proofs.YtnjcdihgaidlbaaGreatDoor

/- Contracts of the document's own functions of layer 1: Same. -/
namespace Go.Proofs.YtnjcdihgaidlbaaGreatDoor
open Go.RowKit

set_option maxHeartbeats 400000 in
theorem refSame_any (A A' : Option Addr) (c c' : Nat) (l l' : List UInt8) (n n' : Int) (w : World) (hb : Bs w A l) (hb' : Bs w A' l') :
    Calls Tryz.prog 49 #[.agg #[.slice A l.length c, .int .i64 n], .agg #[.slice A' l'.length c', .int .i64 n']] w fun e w' => e = .returned (.bool (decide (n = n') && decide (l = l'))) ∧ Below w.heap.size w w' := by
  by_cases h : n = n'
  · subst h
    have h1 := str_of (hb.below (below_alloc2 w (.cells #[.slice A l.length c, .int .i64 n] 44) (.cells #[.slice A' l'.length c', .int .i64 n] 44))) c
    have h2 := str_of (hb'.below (below_alloc2 w (.cells #[.slice A l.length c, .int .i64 n] 44) (.cells #[.slice A' l'.length c', .int .i64 n] 44))) c'
    have hs := str_eq l l'
    have HS := Lib.hid hs
    clear hs
    go_enter Tryz.func49, Tryz.ntmps49
    go_wp2
    go_ret
    exact ⟨ret_bool (by rw [← HS.out]; simp), below_alloc2 _ _ _⟩
  · have hd : (n == n') = false := by simpa using h
    go_enter Tryz.func49, Tryz.ntmps49
    go_wp2
    go_ret
    exact ⟨ret_bool (by simp [h]), below_alloc2 _ _ _⟩

end Go.Proofs.YtnjcdihgaidlbaaGreatDoor

/- Layer 12: a book as data: series of chunks of samples. -/
set_option linter.unusedSimpArgs false
set_option linter.unusedVariables false
namespace Go.Proofs.YtnjcdihgaidlbaaGreatDoor

theorem putCs_flat (ch : Nat) {C : CsT} (h : C ≠ []) (x : Sm) : (putCs ch C x).flatten = C.flatten ++ [x] := by
  unfold putCs
  rw [setLast_flat, cs_flat h, List.append_assoc]
end Go.Proofs.YtnjcdihgaidlbaaGreatDoor

/- Layer 12: a new book as a thing; the statements' example. -/
set_option linter.unusedSimpArgs false
set_option linter.unusedVariables false
namespace Go.Proofs.YtnjcdihgaidlbaaGreatDoor
open Go.RowKit
set_option maxRecDepth 100000

/-- a book by its data alone, beside other things -/
def Bk (B : Nat) (w0 w : World) (q : Nat) (D : BD) (ts : List Kt) : Prop := ∃ X : Bl, X.q = q ∧ X.D = D ∧ OkB X ∧ Sep B w0 w (thBk X :: ts)
abbrev ptB (q : Nat) : Value := .pointer (some ⟨q, 0, none⟩)
section
variable {B : Nat} {w0 w w' : World} {q : Nat} {D : BD} {ts us : List Kt}
theorem Bk.go (h : Bk B w0 w q D ts) (b : Below w.heap.size w w') : Bk B w0 w' q D ts := by
  obtain ⟨X, h1, h2, ok, hS⟩ := h
  exact ⟨X, h1, h2, ok, hS.go b⟩
theorem Bk.sep (h : Bk B w0 w q D ts) : Sep B w0 w ts := by
  obtain ⟨X, h1, h2, ok, hS⟩ := h
  exact hS.tail
theorem Bk.b (h : Bk B w0 w q D ts) : Below B w0 w := h.sep.b
theorem bk_new (h : Sep B w0 w ts) (m c : Nat) (h1 : 1 ≤ m) (h2 : m ≤ 64) (h3 : 1 ≤ c) (h4 : c ≤ 24) : Calls Tryz.prog 27 #[.int .i64 (m : Nat), .int .i64 (c : Nat)] w fun e w' => ∃ q, e = .returned (ptB q) ∧ Bk B w0 w' q ⟨m, c, []⟩ ts := by
  refine (bNew_sep h m c h1 h2 h3 h4).mono ?_
  rintro e w' ⟨X, rfl, hD, ok, hS⟩
  exact ⟨X.q, rfl, X, rfl, hD, ok, hS⟩
theorem bk_put (h : Bk B w0 w q D ts) (hT : Tab w) (x : Nat) (hx : x < 4294967296) (t : Int) (v : Nat) (hz : in64 t ∧ v < 18446744073709551616) (hn : (D.at_ x).flatten.length < 1000) :
    Calls Tryz.prog 28 #[ptB q, .int .u32 (x : Nat), .agg #[.int .i64 t, .int .u64 (v : Nat)]] w fun e w' => e = .returned (.int .u16 (mayD D x t : Nat)) ∧ Bk B w0 w' q (putD D x (t, v)) ts := by
  obtain ⟨X, rfl, rfl, ok, hS⟩ := h
  refine (bPut_any hS ok hT x hx (t, v) hz hn).mono ?_
  rintro e w' ⟨rfl, X', h1, h2, h3, h4⟩
  exact ⟨rfl, X', h1, h2, h3, h4⟩
end
end Go.Proofs.YtnjcdihgaidlbaaGreatDoor

/- Layer 12: the statements' calls; heavy. -/
set_option linter.unusedSimpArgs false
set_option linter.unusedVariables false
namespace Go.Proofs.YtnjcdihgaidlbaaGreatDoor
open Go.RowKit
set_option maxRecDepth 100000

/-- a call on a book -/
structure OB where
  kd : Nat
  se : Nat
  t : Int
  v : Nat
  f : FrD
  A : Option Addr
  c : Nat
  at_ : Nat
  n : Int
def encOB (o : OB) : List Value := [.int .u8 ((o.kd : Nat) : Int), .int .u32 ((o.se : Nat) : Int), .int .i64 o.t, .int .u64 ((o.v : Nat) : Int), .int .u8 ((o.f.kd : Nat) : Int), .int .u32 ((o.f.ep : Nat) : Int), .int .u32 ((o.f.se : Nat) : Int), .int .u32 ((o.f.fc : Nat) : Int), .int .u32 ((o.f.fb : Nat) : Int), .int .u32 ((o.f.fn : Nat) : Int), .int .u32 ((o.f.cn : Nat) : Int), .bool o.f.cl, .int .u64 ((o.f.sm : Nat) : Int), .slice o.A o.f.l.length o.c, .int .i64 o.f.n, .int .u8 ((o.at_ : Nat) : Int), .int .i64 o.n]
structure OkOB (o : OB) : Prop where
  kd : o.kd < 256
  se : o.se < 4294967296
  t : in64 o.t
  v : o.v < 18446744073709551616
  f : o.f.ok
  at_ : o.at_ < 256
  n : in64 o.n
end Go.Proofs.YtnjcdihgaidlbaaGreatDoor

/- Arguments of layer 12's statements: calls. -/
set_option linter.unusedSimpArgs false
set_option linter.unusedVariables false
namespace Go.Proofs.YtnjcdihgaidlbaaGreatDoor
open Go.Joins Go.ChangeShapes Go.WideShapes Go.RowKit Go.Deep
set_option maxRecDepth 100000

section
variable {H : Type} {ench : TypeId × Value → H} {W : World}
theorem Tryz.bCellsS : Tryz.prog.cellsOf 70 = 2 := by kernel_rfl
theorem Tryz.bCells64 : Tryz.prog.cellsOf 2 = 1 := by kernel_rfl
theorem Tryz.bCellsO : Tryz.prog.cellsOf 87 = 17 := by kernel_rfl
theorem ftrod_i64 {base n : Nat} {spare : Nat → Bool} {held : Bool} {c : Value} {y : DataW H × List MemPlace} (h : DataW.trod ench Tryz.prog W base spare held n 2 [c] = some y) : ∃ x : Int, c = .int .i64 x ∧ in64 x := by
  obtain ⟨x, e, _, wx⟩ := DataW.trod_int Tryz.underlying2 h
  have hb := bounds_i64 wx
  simp at e
  exact ⟨x, e, by unfold in64; omega⟩
theorem ftrod_smp {base n : Nat} {spare : Nat → Bool} {held : Bool} {c d : Value} {y : DataW H × List MemPlace} (h : DataW.trod ench Tryz.prog W base spare held n 70 [c, d] = some y) :
    ∃ (t : Int) (v : Nat), c = .int .i64 t ∧ d = .int .u64 (v : Nat) ∧ in64 t ∧ v < 18446744073709551616 := by
  obtain ⟨xs, m, _, _, _, hlen, hg⟩ := DataW.trod_struct Tryz.underlying70 h
  obtain ⟨y0, h0⟩ := trodR hlen hg 0 rfl Tryz.bCells64
  obtain ⟨y1, h1⟩ := trodR hlen hg 1 rfl Tryz.fCellsU64
  obtain ⟨t, rfl, b0⟩ := ftrod_i64 h0
  obtain ⟨v, rfl, b1⟩ := ftrod_u64 h1
  exact ⟨t, v, rfl, rfl, b0, b1⟩
theorem ftrod_frame {n : Nat} {spare : Nat → Bool} {held : Bool} {c0 c1 c2 c3 c4 c5 c6 c7 c8 c9 c10 : Value} {y : DataW H × List MemPlace} (h : DataW.trod ench Tryz.prog W 0 spare held n 46 [c0, c1, c2, c3, c4, c5, c6, c7, c8, c9, c10] = some y) :
    ∃ (A : Option Addr) (c : Nat) (f : FrD), [c0, c1, c2, c3, c4, c5, c6, c7, c8, c9, c10] = (frC f A c).toList ∧ Bs W A f.l ∧ f.l.length ≤ maxLen ∧ f.ok := by
  obtain ⟨xs, m, _, _, _, hlen, hg⟩ := DataW.trod_struct Tryz.underlying46 h
  obtain ⟨y0, h0⟩ := trodR hlen hg 0 rfl Tryz.fCellsU8
  obtain ⟨y1, h1⟩ := trodR hlen hg 1 rfl Tryz.fCellsU32
  obtain ⟨y2, h2⟩ := trodR hlen hg 2 rfl Tryz.fCellsU32
  obtain ⟨y3, h3⟩ := trodR hlen hg 3 rfl Tryz.fCellsP
  obtain ⟨y4, h4⟩ := trodR hlen hg 4 rfl Tryz.fCellsU32
  obtain ⟨y5, h5⟩ := trodR hlen hg 5 rfl Tryz.fCellsB
  obtain ⟨y6, h6⟩ := trodR hlen hg 6 rfl Tryz.fCellsU64
  obtain ⟨y7, h7⟩ := trodR hlen hg 7 rfl Tryz.fCellsBs
  obtain ⟨kd, rfl, o0⟩ := ftrod_u8 h0
  obtain ⟨ep, rfl, o1⟩ := ftrod_u32 h1
  obtain ⟨se, rfl, o2⟩ := ftrod_u32 h2
  obtain ⟨fc, fb, fn, rfl, rfl, rfl, o3, o4, o5⟩ := ftrod_place h3
  obtain ⟨cn, rfl, o6⟩ := ftrod_u32 h4
  obtain ⟨cl, rfl⟩ := ftrod_bool h5
  obtain ⟨sm, rfl, o7⟩ := ftrod_u64 h6
  obtain ⟨A, c, l, n, rfl, rfl, hl, hb, o8⟩ := ftrod_bits h7
  exact ⟨A, c, ⟨kd, ep, se, fc, fb, fn, cn, cl, sm, l, n⟩, rfl, hb, hl, o0, o1, o2, o3, o4, o5, o6, o7, o8.1, o8.2⟩
theorem open_ops12 {b0 : Nat} {v : Value} {d : DataW H} {p : List MemPlace} (hv : Value.okWide Tryz.prog W .any b0 23 v) (h : DataW.Trod ench Tryz.prog W 0 (fun _ => true) true 23 v d p) :
    ∃ (V : Option Addr) (c : Nat) (l : List OB), v = .slice V l.length c ∧ Rw W encOB 17 V l ∧ l.length ≤ maxLen ∧ (∀ o ∈ l, OkOB o) ∧ ∀ o ∈ l, Bs W o.A o.f.l := by
  obtain ⟨V, c, l, h1, h2, -, h4, h5⟩ := open_rows (enc := encOB) (sz := 17) (ok := fun o => OkOB o ∧ Bs W o.A o.f.l) Tryz.underlying23 Tryz.bCellsO (by decide) (fun _ => rfl) (fun fuel cs x hl ht => by
    match cs, hl with
    | [c0, c1, c2, c3, c4, c5, c6, c7, c8, c9, c10, c11, c12, c13, c14, c15, c16], _ =>
      obtain ⟨xs, m, _, _, _, hlen, hg⟩ := DataW.trod_struct Tryz.underlying87 ht
      obtain ⟨y0, h0⟩ := trodR hlen hg 0 rfl Tryz.fCellsU8
      obtain ⟨y1, h1⟩ := trodR hlen hg 1 rfl Tryz.fCellsU32
      obtain ⟨y2, h2⟩ := trodR hlen hg 2 rfl Tryz.bCellsS
      obtain ⟨y3, h3⟩ := trodR hlen hg 3 rfl Tryz.fCellsF
      obtain ⟨y4, h4⟩ := trodR hlen hg 4 rfl Tryz.fCellsU8
      obtain ⟨y5, h5⟩ := trodR hlen hg 5 rfl Tryz.fCellsI
      obtain ⟨kd, rfl, o0⟩ := ftrod_u8 h0
      obtain ⟨se, rfl, o1⟩ := ftrod_u32 h1
      obtain ⟨t, v, rfl, rfl, o2, o3⟩ := ftrod_smp h2
      obtain ⟨A, cc, f, hf, hb, hl2, o4⟩ := ftrod_frame h3
      obtain ⟨at_, rfl, o5⟩ := ftrod_u8 h4
      obtain ⟨nn, rfl, o6⟩ := ftrod_int h5
      refine ⟨⟨kd, se, t, v, f, A, cc, at_, nn⟩, ?_, ⟨o0, o1, o2, o3, o4, o5, by unfold in64; omega⟩, hb⟩
      unfold frC at hf
      simp only [List.cons.injEq, and_true] at hf
      obtain ⟨rfl, rfl, rfl, rfl, rfl, rfl, rfl, rfl, rfl, rfl, rfl⟩ := hf
      rfl) hv h
  exact ⟨V, c, l, h1, h2, h4, fun o ho => (h5 o ho).1, fun o ho => (h5 o ho).2⟩
end
end Go.Proofs.YtnjcdihgaidlbaaGreatDoor

/- Layer 12: what is laid, sample by sample. -/
set_option linter.unusedSimpArgs false
set_option linter.unusedVariables false
namespace Go.Proofs.YtnjcdihgaidlbaaGreatDoor

theorem at_put (D : BD) (x y : Nat) (s : Sm) : (putD D x s).at_ y = if y = x ∧ mayD D x s.1 = 0 then putCs D.ch (D.at_ x) s else D.at_ y := by
  unfold putD
  by_cases h : mayD D x s.1 = 0
  · rw [if_pos h]
    unfold BD.at_
    rw [look_put]
    by_cases e : y = x
    · rw [if_pos e, if_pos ⟨e, h⟩]; rfl
    · rw [if_neg e, if_neg (fun k => e k.1)]
  · rw [if_neg h, if_neg (fun k => h k.2)]
/-- all that is there, series by series -/
def allD (D : BD) : List (Nat × List Sm) := D.M.map fun p => (p.1, p.2.flatten)
theorem allD_get (D : BD) (j : Nat) : (allD D)[j]? = (D.M[j]?).map fun p => (p.1, p.2.flatten) := by unfold allD; rw [List.getElem?_map]
theorem at_of_mem {D : BD} (h : OkD D) {p : Nat × CsT} (hp : p ∈ D.M) : D.at_ p.1 = p.2 := by
  unfold BD.at_
  rw [lookM_of_mem h.nd hp]; rfl
theorem all_new {D : BD} {x : Nat} {z : Sm} (hm : mayD D x z.1 = 0) (hl : lookM D.M x = none) : allD (putD D x z) = allD D ++ [(x, [z])] := by
  unfold putD
  rw [if_pos hm]
  unfold allD putM
  rw [if_neg (by rw [hl]; decide), List.map_append]
  have e : D.at_ x = [[]] := by unfold BD.at_; rw [hl]; rfl
  rw [e]
  congr 1
  simp only [List.map_cons, List.map_nil, putCs_flat D.ch (show ([[]] : CsT) ≠ [] by simp)]
  rfl
theorem all_at {D : BD} (h : OkD D) {x j : Nat} {z : Sm} {p : Nat × CsT} (hm : mayD D x z.1 = 0) (hj : D.M[j]? = some p) (hx : p.1 = x) : allD (putD D x z) = (allD D).set j (x, p.2.flatten ++ [z]) := by
  unfold putD
  rw [if_pos hm]
  unfold allD
  simp only
  have hp := List.mem_of_getElem? hj
  have h1 := put_at h.nd hj (putCs D.ch (D.at_ x) z)
  rw [hx] at h1
  rw [h1, List.map_set]
  have e : D.at_ x = p.2 := by rw [← hx]; exact at_of_mem h hp
  rw [e, putCs_flat D.ch (h.ok p hp).ne]
/-- laid -/
structure LaI (sz k : Nat) (D : BD) : Prop where
  ok : OkD D
  ch : D.ch = sz
  mo : D.mo = 64
  len : ∀ y, (D.at_ y).flatten.length ≤ k
  key : ∀ p ∈ D.M, p.1 < 64
  full : ∀ y, ∀ L ∈ (D.at_ y).dropLast, L.length = sz
  last : ∀ y, (lastL (D.at_ y)).length < sz
theorem LaI.new {sz : Nat} (h1 : 1 ≤ sz) (h2 : sz ≤ 24) : LaI sz 0 ⟨64, sz, []⟩ :=
  ⟨⟨show 1 ≤ 64 by decide, show 64 ≤ 64 by decide, h1, h2, Nat.zero_le _, .nil, fun p h => (by cases h), fun p h => (by cases h), fun p h => (by cases h)⟩, rfl, rfl, fun y => Nat.le_refl _, fun p h => (by cases h), fun y L h => (by cases h), fun y => by show 0 < sz; omega⟩
theorem putCs_sizes {sz : Nat} {C : CsT} (hC : C ≠ []) (h1 : ∀ L ∈ C.dropLast, L.length = sz) (h2 : (lastL C).length < sz) (z : Sm) : (∀ L ∈ (putCs sz C z).dropLast, L.length = sz) ∧ (lastL (putCs sz C z)).length < sz := by
  unfold putCs
  by_cases e : (lastL C).length + 1 = sz
  · rw [decide_eq_true e, setLast_true]
    rw [List.dropLast_concat]
    refine ⟨fun L hL => ?_, ?_⟩
    · unfold setLast at hL
      rcases List.mem_append.1 hL with hL | hL
      · exact h1 L hL
      · simp at hL; subst hL; rw [List.length_append]; exact e
    · unfold lastL
      rw [List.getLast?_concat]
      show 0 < sz
      omega
  · rw [decide_eq_false e]
    refine ⟨fun L hL => ?_, ?_⟩
    · unfold setLast at hL
      rw [if_neg (by decide), List.dropLast_concat] at hL
      exact h1 L hL
    · rw [setLast_last, List.length_append, List.length_singleton]
      omega
theorem LaI.put {sz k : Nat} {D : BD} (h : LaI sz k D) {x : Nat} (hx : x < 64) {z : Sm} (hz : in64 z.1 ∧ z.2 < 18446744073709551616) (hk : k < 1000) : LaI sz (k + 1) (putD D x z) := by
  by_cases hm : mayD D x z.1 = 0
  · have hM : (putD D x z).M = putM D.M x (putCs D.ch (D.at_ x) z) := by unfold putD; rw [if_pos hm]
    have hlen := h.len x
    refine ⟨h.ok.put (by omega) hz hm (by omega), ?_, ?_, fun y => ?_, fun p hp => ?_, fun y L hL => ?_, fun y => ?_⟩
    · unfold putD; rw [if_pos hm]; exact h.ch
    · unfold putD; rw [if_pos hm]; exact h.mo
    · rw [at_put]
      split
      · rw [putCs_flat _ (h.ok.at_ x).ne, List.length_append, List.length_singleton]
        omega
      · have := h.len y; omega
    · rw [hM] at hp
      rcases mem_put hp with rfl | hp
      · exact hx
      · exact h.key p hp
    · rw [at_put] at hL
      split at hL
      · rw [h.ch] at hL
        exact (putCs_sizes (h.ok.at_ x).ne (h.full x) (h.last x) z).1 L hL
      · exact h.full y L hL
    · rw [at_put]
      split
      · rw [h.ch]
        exact (putCs_sizes (h.ok.at_ x).ne (h.full x) (h.last x) z).2
      · exact h.last y
  · have e : putD D x z = D := by unfold putD; rw [if_neg hm]
    rw [e]
    exact ⟨h.ok, h.ch, h.mo, fun y => by have := h.len y; omega, h.key, h.full, h.last⟩
end Go.Proofs.YtnjcdihgaidlbaaGreatDoor

/- Layer 12: lists of series as things. -/
set_option linter.unusedSimpArgs false
set_option linter.unusedVariables false
namespace Go.Proofs.YtnjcdihgaidlbaaGreatDoor
open Go.RowKit
set_option maxRecDepth 100000

/-- a series' samples and where they lie -/
structure Se where
  id : Nat
  A : Option Addr
  n : Nat
  c : Nat
  L : List Sm
def encSe (s : Se) : List Value := [.int .u32 ((s.id : Nat) : Int), .slice s.A s.n s.c]
theorem Tryz.eltSe : Elt Tryz.prog 32 60 encSe 2 32 := ⟨Tryz.underlying32, ⟨.agg #[.int .u32 0, .slice none 0 0], by kernel_rfl, rfl⟩, by decide, fun _ => rfl, fun x v h => by
  unfold encSe at h
  simp only [List.mem_cons, List.not_mem_nil, or_false] at h
  rcases h with rfl | rfl <;> rfl⟩
def seT (s : Se) : Kt := thR 70 smp 2 (.slice s.A s.n s.c) s.L
/-- the list, and each one's samples -/
def laT (v : Value) (T : List Se) : List Kt := thR 60 encSe 2 v T :: T.map seT
def seD (s : Se) : Nat × List Sm := (s.id, s.L)
theorem Sep.replace {B : Nat} {w0 w : World} {m : Kt} {us ts : List Kt} (h : Sep B w0 w (m :: (us ++ ts))) (i : Nat) : Sep B w0 w (us.set i m ++ ts) := by
  by_cases hi : i < us.length
  · have e1 : us = us.take i ++ us[i] :: us.drop (i + 1) := by simp
    have e2 : us.set i m = us.take i ++ m :: us.drop (i + 1) := List.set_eq_take_append_cons_drop .. |>.trans (by rw [if_pos hi])
    rw [e2]
    have h2 : Sep B w0 w (m :: (us.take i ++ us.drop (i + 1) ++ ts)) := by
      refine h.sub (List.Sublist.cons_cons m ?_)
      refine List.Sublist.append ?_ (List.Sublist.refl ts)
      conv => rhs; rw [e1]
      exact List.Sublist.append (List.Sublist.refl _) (List.sublist_cons_self _ _)
    refine h2.permB ?_
    rw [List.append_assoc, List.append_assoc]
    exact List.perm_middle.symm
  · rw [List.set_eq_of_length_le (by omega)]
    exact h.tail
theorem row_cellE {α : Type} {P : Program} {w : World} {t e : TypeId} {enc : α → List Value} {sz bytes : Nat} (E : Elt P t e enc sz bytes) {g n c : Nat} {l : List α} (h : OwnR w 0 e enc sz (.slice (some ⟨g, 0, none⟩) n c) l) {k : Nat} {x : α} (hk : l[k]? = some x) (j : Nat) (v : Value) (hj : (enc x)[j]? = some v) : w.cell? ⟨g, k * sz + j, none⟩ = some v := by
  obtain ⟨g', e1, -, hr⟩ := row_at E h hk
  injection e1 with e1
  injection e1 with e1
  subst e1
  exact hr j v hj
end Go.Proofs.YtnjcdihgaidlbaaGreatDoor

/- Layer 12: Lay. -/
set_option linter.unusedSimpArgs false
set_option linter.unusedVariables false
namespace Go.Proofs.YtnjcdihgaidlbaaGreatDoor
open Go.RowKit
set_option maxRecDepth 100000

def pickB {α : Type} (o : Option Value) (x y : α) : α := match o with
  | none => x
  | some _ => y
def laS (D : BD) (o : OB) : BD := putD D (o.se % 64) (o.t, o.v)
def laD (sz : Nat) (l : List OB) : BD := l.foldl laS ⟨64, sz, []⟩
def laSz (size : Int) : Nat := 1 + (max size 0).toNat % 24
theorem laD_succ (sz : Nat) (l : List OB) {k : Nat} {o : OB} (h : l[k]? = some o) : laD sz (l.take (k + 1)) = laS (laD sz (l.take k)) o := by
  obtain ⟨h1, h2⟩ := List.getElem?_eq_some_iff.1 h
  unfold laD
  rw [List.take_succ_eq_append_getElem h1, List.foldl_append, h2]
  rfl
theorem laD_ok {sz : Nat} (h1 : 1 ≤ sz) (h2 : sz ≤ 24) (l : List OB) (hok : ∀ o ∈ l, OkOB o) : ∀ k, k ≤ l.length → k ≤ 900 → LaI sz k (laD sz (l.take k))
  | 0, _, _ => LaI.new h1 h2
  | k + 1, hk, hk2 => by
    have hg := List.getElem?_eq_getElem (l := l) (i := k) (by omega)
    rw [laD_succ sz l hg]
    have ho := hok _ (List.mem_of_getElem? hg)
    exact (laD_ok h1 h2 l hok k (by omega) (by omega)).put (Nat.mod_lt _ (by decide)) ⟨ho.t, ho.v⟩ (by omega)
set_option maxHeartbeats 16000000 in
theorem bLay_any {B : Nat} {w0 w : World} {ts : List Kt} (h : Sep B w0 w ts) (hT : Tab w0) (hB0 : w0.heap.size ≤ B) (size : Int) (hsz : in64 size) (V : Option Addr) (c : Nat) (l : List OB) (hV : Rw w0 encOB 17 V l) (hok : ∀ o ∈ l, OkOB o) (hl : l.length ≤ 60) :
    Calls Tryz.prog 11 #[.int .i64 size, .slice V l.length c] w fun e w' => ∃ (q : Nat) (T : List Se) (A : Option Addr) (cc : Nat), e = .returned (.tuple #[ptB q, .slice A T.length cc]) ∧ T.map seD = allD (laD (laSz size) l) ∧ Bk B w0 w' q (laD (laSz size) l) (laT (.slice A T.length cc) T ++ ts) := by
  have hmx : Tryz.prog.follows .mixedOrders = true := by kernel_rfl
  obtain ⟨sz, hs⟩ : ∃ s, s = laSz size := ⟨_, rfl⟩
  have hs1 : 1 ≤ sz := by rw [hs]; unfold laSz; omega
  have hs2 : sz ≤ 24 := by rw [hs]; unfold laSz; omega
  obtain ⟨n, hn⟩ : ∃ n, n = l.length := ⟨_, rfl⟩
  have hn60 : n ≤ 60 := by omega
  have HN := Lib.hid (bk_new h 64 sz (by decide) (by decide) hs1 hs2)
  have HSz := Lib.hid (show 1 + max size 0 % 24 = ((sz : Nat) : Int) by rw [hs]; unfold laSz; omega)
  have HV := Lib.hid (And.intro hV (And.intro hok (And.intro hn (And.intro hT (And.intro hB0 (And.intro hs1 hs2))))))
  rw [← hs, ← hn]
  clear hV hok hn hT hB0 h hl hs
  go_enter Tryz.func11, Tryz.ntmps11
  go_upto_region 1 with fail
  go_wp2_with (go_at_call 27; rw [HSz.out]; refine HN.out.mono ?_; rintro e w1 ⟨q, rfl, hS0⟩)
  have HS0 := Lib.hid hS0
  clear hS0 HN HSz
  go_loopw [7, 8, 9, 10] (fun s7 s8 s9 s10 wr => ∃ (k tn cc : Nat) (A : Option Addr) (T : List Se), s8 = .int .i64 (k : Nat) ∧ k ≤ n ∧ s7 = .slice A tn cc ∧ tn ≤ k ∧ Hid (tn = T.length ∧ T.map seD = allD (laD sz (l.take k)) ∧ Bk B w0 wr q (laD sz (l.take k)) (laT (.slice A tn cc) T ++ ts)))
    (fun _ s8 _ _ _ => n - (intOf s8).toNat)
  case atStart => exact ⟨0, 0, 0, none, [], rfl, Nat.zero_le _, rfl, Nat.le_refl _, Lib.hid ⟨rfl, rfl, by
    obtain ⟨X, h1, h2, h3, h4⟩ := HS0.out
    exact ⟨X, h1, h2, h3, (h4.addNilR 60 encSe 2).permB (List.Perm.swap _ _ _)⟩⟩⟩
  case round =>
    obtain ⟨k, tn, cc, A, T, rfl, hk, rfl, htn, HI⟩ := hrel
    by_cases hlt : k < n
    · obtain ⟨o, ho⟩ : ∃ o, l[k]? = some o := ⟨_, List.getElem?_eq_getElem (by rw [← HV.out.2.2.1]; exact hlt)⟩
      obtain ⟨D, hD⟩ : ∃ D, D = laD sz (l.take k) := ⟨_, rfl⟩
      have hLa : LaI sz k D := by rw [hD]; exact laD_ok HV.out.2.2.2.2.2.1 HV.out.2.2.2.2.2.2 l HV.out.2.1 k (by rw [← HV.out.2.2.1]; omega) (by omega)
      have hD1 : laD sz (l.take (k + 1)) = laS D o := by rw [laD_succ sz l ho, ← hD]
      rw [← hD] at HI
      have hoo := HV.out.2.1 o (List.mem_of_getElem? ho)
      obtain ⟨p, f, rfl, hc⟩ := HV.out.1 k o ho
      have hkln : (k : Int) < (n : Int) := by omega
      obtain ⟨x, hx⟩ : ∃ x, x = o.se % 64 := ⟨_, rfl⟩
      have f0 : ((o.se : Nat) : Int) % 64 = (x : Int) := by omega
      have hx64 : x < 64 := by omega
      obtain ⟨ot, hot⟩ : ∃ t, t = o.t := ⟨_, rfl⟩
      obtain ⟨ov, hov⟩ : ∃ t, t = o.v := ⟨_, rfl⟩
      obtain ⟨me, hme⟩ : ∃ m, m = mayD D x ot := ⟨_, rfl⟩
      obtain ⟨D', hD'⟩ : ∃ E, E = putD D x (ot, ov) := ⟨_, rfl⟩
      have hP := fun (W : World) (us : List Kt) (hb : Bk B w0 W q D us) => bk_put hb (tabGo HV.out.2.2.2.1 (hb.b.mono HV.out.2.2.2.2.1)) x (by omega) ot ov ⟨by rw [hot]; exact hoo.t, by rw [hov]; exact hoo.v⟩ (by have := hLa.len x; omega)
      rw [← hme, ← hD'] at hP
      have HP := Lib.hid hP
      have hcell : ∀ (W : World), Below B w0 W → W.cell? ⟨p, f + k * 17 + 1, none⟩ = some (.int .u32 ((o.se : Nat) : Int)) ∧ W.cell? ⟨p, f + k * 17 + 2, none⟩ = some (.int .i64 ot) ∧ W.cell? ⟨p, f + k * 17 + 3, none⟩ = some (.int .u64 (ov : Nat)) := fun W hb => by
        rw [hot, hov]
        have h1 := hc 1 _ rfl
        have h2 := hc 2 _ rfl
        have h3 := hc 3 _ rfl
        have hlt := fun {a : Addr} {v : Value} (h : w0.cell? a = some v) => (hb.cell (Nat.lt_of_lt_of_le (cell_lt h) HV.out.2.2.2.2.1)).trans h
        exact ⟨hlt h1, hlt h2, hlt h3⟩
      have HCell := Lib.hid hcell
      have HE := Lib.hid (And.intro hLa (And.intro hD1 (And.intro ho (And.intro hx (And.intro hot (And.intro hov (And.intro hme hD')))))))
      clear hP hcell hoo hc ho hD hLa hD1 hx hot hov hme hD'
      go_wp2_with fail
      obtain ⟨I, hI⟩ : ∃ I : Rec → World → Prop, ∀ E W, I E W ↔ Bk B w0 W q (pickB (E 12) D D') (laT (.slice A tn cc) T ++ ts) := ⟨_, fun _ _ => Iff.rfl⟩
      have hI0 : I (fun _ => none) wr.drew := (hI _ _).2 (HI.out.2.2.go (Below.refl wr.heap.size wr).drew)
      haveI : Nonempty (InvW I) := ⟨⟨_, _, hI0⟩⟩
      have e1 := fun (y : InvW I) => (HCell.out y.W ((hI _ _).1 y.h).b).1
      have e2 := fun (y : InvW I) => (HCell.out y.W ((hI _ _).1 y.h).b).2.1
      have e3 := fun (y : InvW I) => (HCell.out y.W ((hI _ _).1 y.h).b).2.2
      have HI2 := Lib.hid hI
      clear hI
      refine wp_region_inv I [] [3, 9, 12] (fun k2 v => if k2 = 12 then v = .int .u16 (me : Nat) else v = .pointer (some ⟨p, f + k * 17, none⟩)) hmx (by kernel_rfl) hI0 ?_
      iterate 3 (refine walkJ_one rfl (by kernel_rfl) ?_; go_big_quiet_step (fail); refine wpQuiet_nil ?_)
      refine walkJ_turn rfl rfl ⟨_, rfl⟩ (fun s W1 hs h7 _ => ?_) ?_
      · refine inv_val (W' := W1) (v := .pointer (some ⟨p, f + k * 17, none⟩)) (by simp [execOp, go_sem, hkln]) ⟨rfl, (HI2.out _ _).2 ?_⟩
        have h := (HI2.out _ _).1 hs
        exact h
      rintro v rfl
      conv => arg 11; simp [Act.put]
      iterate 5 (refine walkJ_one rfl (by kernel_rfl) ?_; go_big_quiet_step (fail); refine wpQuiet_nil ?_)
      refine walkJ_turn rfl rfl ⟨_, rfl⟩ (fun s W1 hs h7 _ => ?_) ?_
      · refine inv_val (W' := W1) (v := .pointer (some ⟨p, f + k * 17, none⟩)) (by simp [execOp, go_sem, hkln]) ⟨rfl, (HI2.out _ _).2 ?_⟩
        have h := (HI2.out _ _).1 hs
        exact h
      rintro v rfl
      conv => arg 11; simp [Act.put]
      iterate 2 (refine walkJ_one rfl (by kernel_rfl) ?_; go_big_quiet_step (fail); refine wpQuiet_nil ?_)
      refine walkJ_turn rfl rfl ⟨_, rfl⟩ (fun s W1 hs h7 _ => ?_) ?_
      · have h := (HI2.out _ _).1 hs
        rw [show s 12 = none from h7] at h
        refine inv_call (by simp [execOp, go_sem, f0]) ((HP.out _ _ h).mono ?_)
        rintro e w3 ⟨rfl, hB⟩
        exact ⟨_, rfl, rfl, (HI2.out _ _).2 hB⟩
      rintro v rfl
      conv => arg 11; simp [Act.put]
      iterate 1 (refine walkJ_one rfl (by kernel_rfl) ?_; go_big_quiet_step (fail); refine wpQuiet_nil ?_)
      refine walkJ_end ?_
      intro wp hW'
      have HB := Lib.hid (show Bk B w0 wp q D' (laT (.slice A tn cc) T ++ ts) from (HI2.out _ _).1 hW')
      have HF0 := Lib.hid (And.intro f0 hx64)
      clear e1 e2 e3 hW' HI2 HP f0
      by_cases hm0 : me = 0
      · subst hm0
        go_upto_block 2 with fail
        go_cut [9] (fun s9 wx => ∃ j : Nat, s9 = .int .i64 (j : Nat) ∧ j ≤ tn ∧ Hid (∀ i y, i < j → T[i]? = some y → y.id ≠ x) ∧ Hid (∀ y, T[j]? = some y → y.id = x) ∧ Hid (Below wp.heap.size wp wx))
        case first =>
          go_wp2_with fail
          go_loopw [9] (fun s9 wi => ∃ j : Nat, s9 = .int .i64 (j : Nat) ∧ j ≤ tn ∧ Hid (∀ i y, i < j → T[i]? = some y → y.id ≠ x) ∧ Hid (Below wp.heap.size wp wi))
            (fun s9 _ => tn - (intOf s9).toNat)
          case atStart => exact ⟨0, by go_num, Nat.zero_le _, Lib.hid (fun i y h => absurd h (Nat.not_lt_zero _)), Lib.hid (Below.refl _ _)⟩
          case round =>
            obtain ⟨j, rfl, hj, HJ, HW⟩ := hrel
            obtain ⟨wi, hwi⟩ : ∃ wi, wi = wr := ⟨_, rfl⟩
            rw [← hwi] at HW ⊢
            clear hwi
            have C1 : ∀ y : More, (plus wi y).cell? ⟨p, f + k * 17 + 1, none⟩ = some (.int .u32 ((o.se : Nat) : Int)) := fun y => (HCell.out _ ((HB.out.go HW.out).go (plus_below wi y)).b).1
            by_cases hjt : j < tn
            · obtain ⟨y0, hy0⟩ : ∃ y, T[j]? = some y := ⟨_, List.getElem?_eq_getElem (by rw [← HI.out.1]; exact hjt)⟩
              obtain ⟨gr, hgr, -, -⟩ := row_at Tryz.eltSe ((HB.out.go HW.out).sep.at_ (t := thR 60 encSe 2 (.slice A tn cc) T) 0 rfl) hy0
              subst hgr
              have C2 : ∀ y : More, (plus wi y).cell? ⟨gr, j * 2, none⟩ = some (.int .u32 ((y0.id : Nat) : Int)) := fun y => row_cellE Tryz.eltSe (((HB.out.go HW.out).go (plus_below wi y)).sep.at_ (t := thR 60 encSe 2 (.slice (some ⟨gr, 0, none⟩) tn cc) T) 0 rfl) hy0 0 _ rfl
              have hjt2 : (j : Int) < (tn : Int) := by omega
              have HY := Lib.hid hy0
              clear hy0
              by_cases hyx : y0.id = x
              · have hd : (((y0.id : Nat) : Int) == ((o.se : Nat) : Int) % 64) = true := beq_iff_eq.2 (by rw [HF0.out.1]; omega)
                have HYX := Lib.hid hyx
                clear hyx
                go_wp2_with fail
                refine wp_region_ext (by kernel_rfl) (by kernel_rfl) ?_
                repeat (go_big_quiet_step (fail))
                refine wpQuiet_nil ?_
                rintro w7 ⟨y, rfl⟩
                clear C1 C2
                go_wp2_with fail
                go_meet
                exact ⟨j, rfl, hj, HJ, Lib.hid (fun y hy => by rw [HY.out] at hy; injection hy with hy; rw [← hy]; exact HYX.out), Lib.hid (HW.out.trans ((plus_below wi y).mono HW.out.size))⟩
              · have hd : (((y0.id : Nat) : Int) == ((o.se : Nat) : Int) % 64) = false := beq_eq_false_iff_ne.2 (by rw [HF0.out.1]; omega)
                have HYX := Lib.hid hyx
                clear hyx
                go_wp2_with fail
                refine wp_region_ext (by kernel_rfl) (by kernel_rfl) ?_
                repeat (go_big_quiet_step (fail))
                refine wpQuiet_nil ?_
                rintro w7 ⟨y, rfl⟩
                clear C1 C2
                go_wp2_with fail
                go_roundw
                case measure => simp [intOf]; omega
                case rel => exact ⟨j + 1, by go_num, by omega, Lib.hid (fun i y hi hy => by
                  by_cases e : i = j
                  · subst e
                    rw [HY.out] at hy; injection hy with hy; rw [← hy]; exact HYX.out
                  · exact HJ.out i y (by omega) hy), Lib.hid (HW.out.trans ((plus_below wi y).mono HW.out.size))⟩
            · have hjt2 : ¬ (j : Int) < (tn : Int) := by omega
              go_wp2_with fail
              refine wp_region_ext (by kernel_rfl) (by kernel_rfl) ?_
              repeat (go_big_quiet_step (fail))
              refine wpQuiet_nil ?_
              rintro w7 ⟨y, rfl⟩
              clear C1
              go_wp2_with fail
              go_meet
              exact ⟨j, rfl, hj, HJ, Lib.hid (fun y hy => by have := (List.getElem?_eq_some_iff.1 hy).1; rw [← HI.out.1] at this; omega), Lib.hid (HW.out.trans ((plus_below wi y).mono HW.out.size))⟩
        case rest =>
          obtain ⟨j, rfl, hj, HJ, HJ2, HWc⟩ := hcut
          obtain ⟨X, hq, hXD, hXok, hS⟩ := HB.out.go HWc.out
          have HX := Lib.hid (And.intro hq (And.intro hXD hXok))
          have HS := Lib.hid hS
          clear hq hXD hXok hS HB
          go_upto_if 61 with fail
          go_cut [7] from 61 to 71 (fun s7 wx => ∃ (A1 : Option Addr) (c1 t1n : Nat) (T1 : List Se) (y : Se), s7 = .slice A1 t1n c1 ∧ t1n ≤ tn + 1 ∧ j < t1n ∧ Hid (t1n = T1.length ∧ T1[j]? = some y ∧ y.id = x ∧ (T1.map seD).set j (x, y.L ++ [(ot, ov)]) = allD D' ∧ Sep B w0 wx (thBk X :: (laT (.slice A1 t1n c1) T1 ++ ts))))
          case first =>
            obtain ⟨W3, hW3⟩ : ∃ W, W = wc := ⟨_, rfl⟩
            rw [← hW3] at HS HWc ⊢
            clear hW3
            have hok := HE.out.1.ok
            have hm0 : mayD D x ot = 0 := HE.out.2.2.2.2.2.2.1.symm
            by_cases hjt : j = tn
            · have hd : ((j : Int) == (tn : Int)) = true := beq_iff_eq.2 (by omega)
              have hlk : lookM D.M x = none := lookM_none.2 (fun p hp e => by
                obtain ⟨i, hi⟩ := List.getElem?_of_mem hp
                have h1 := allD_get D i
                rw [hi, ← HI.out.2.1, List.getElem?_map] at h1
                obtain ⟨y, hy, hy2⟩ := Option.map_eq_some_iff.1 h1
                have hil : i < T.length := (List.getElem?_eq_some_iff.1 hy).1
                refine HJ.out i y (by rw [hjt, HI.out.1]; exact hil) hy ?_
                have := congrArg Prod.fst hy2
                exact this.trans e)
              have hall := all_new (z := (ot, ov)) hm0 hlk
              rw [← HE.out.2.2.2.2.2.2.2, ← HI.out.2.1] at hall
              have hSx := HS.out.box #[.int .u32 (((o.se : Nat) : Int) % 64), .slice none 0 0] 60
              have HSx := Lib.hid hSx
              have HAll := Lib.hid hall
              have htl : T.length ≤ 60 := by rw [← HI.out.1]; omega
              have C1 := (HCell.out W3 HS.out.b).1
              clear hok hm0 hlk hall hSx hjt
              go_wp2_with (at_builtin; go_must (refine sep_app1 Tryz.eltSe rfl (.tmp 62) (.tmp 70) rfl 2 (.slice A tn cc) T rfl HSx.out rfl W3.heap.size 1 ⟨x, none, 0, 0, []⟩ 60 #[.int .u32 (((o.se : Nat) : Int) % 64), .slice none 0 0] rfl (HSx.out.blk 0) (by unfold encSe; rw [HF0.out.1]) (by unfold maxLen; omega) (by omega) ?_); intro g7 c7 w7 hS7)
              go_meet
              refine ⟨some ⟨g7, 0, none⟩, c7, T.length + 1, T ++ [⟨x, none, 0, 0, []⟩], ⟨x, none, 0, 0, []⟩, rfl, by rw [← HI.out.1]; exact Nat.le_refl _, by rw [← HI.out.1]; omega, Lib.hid ⟨by simp, ?_, rfl, ?_, ?_⟩⟩
              · rw [show j = T.length by have := (beq_iff_eq.1 hd); rw [← HI.out.1]; omega]
                simp
              · rw [HAll.out, List.map_append, show j = (T.map seD).length by have := (beq_iff_eq.1 hd); rw [List.length_map, ← HI.out.1]; omega]
                rw [List.set_append, if_neg (by omega), Nat.sub_self]
                rfl
              · have h1 := (hS7.tail).addNilR 70 smp 2
                refine h1.permB ?_
                simp only [laT, List.map_append, List.map_cons, List.map_nil, List.append_assoc, List.cons_append, List.nil_append, List.set_cons_succ, List.set_cons_zero, List.tail_cons]
                exact (List.perm_middle (a := seT ⟨x, none, 0, 0, []⟩) (l₁ := thBk X :: _ :: T.map seT) (l₂ := ts)).symm
            · have hd : ((j : Int) == (tn : Int)) = false := beq_eq_false_iff_ne.2 (by omega)
              obtain ⟨y, hy⟩ : ∃ y, T[j]? = some y := ⟨_, List.getElem?_eq_getElem (by rw [← HI.out.1]; omega)⟩
              have hyx := HJ2.out y hy
              have hall : (T.map seD).set j (x, y.L ++ [(ot, ov)]) = allD D' := by
                have h1 := allD_get D j
                rw [← HI.out.2.1, List.getElem?_map, hy] at h1
                obtain ⟨p, hp, hp2⟩ := Option.map_eq_some_iff.1 h1.symm
                have e1 : p.1 = x := by have := congrArg Prod.fst hp2; exact this.trans hyx
                have e2 : p.2.flatten = y.L := congrArg Prod.snd hp2
                rw [HE.out.2.2.2.2.2.2.2, all_at hok (z := (ot, ov)) hm0 hp e1, HI.out.2.1, e2]
              have HAll := Lib.hid (And.intro hy (And.intro hyx hall))
              clear hok hm0 hy hyx hall
              go_wp2_with fail
              go_meet
              exact ⟨A, cc, tn, T, y, rfl, by omega, by omega, Lib.hid ⟨HI.out.1, HAll.out.1, HAll.out.2.1, HAll.out.2.2, HS.out⟩⟩
          case rest =>
            obtain ⟨A1, c1, t1n, T1, y, rfl, ht1, hj1, HR⟩ := hcut
            clear HS HWc HJ HJ2
            obtain ⟨W4, hW4⟩ : ∃ W, W = wc := ⟨_, rfl⟩
            rw [← hW4] at HR ⊢
            clear hW4
            obtain ⟨r1, r2, r3, r4, hS⟩ := HR.out
            have hyr : OwnR W4 0 70 smp 2 (.slice y.A y.n y.c) y.L := hS.get (t := seT y) (List.mem_cons_of_mem _ (List.mem_append.2 (.inl (List.mem_cons_of_mem _ (List.mem_map.2 ⟨y, List.mem_of_getElem? r2, rfl⟩)))))
            obtain ⟨A2, c2, hyv, -, hyR⟩ := OwnR.row Tryz.eltS hyr
            injection hyv with ya yn yc
            rw [← ya] at hyR
            have hyl : y.L.length ≤ 999 := by
              have h1 : ((T1.map seD).set j (x, y.L ++ [(ot, ov)]))[j]? = some (x, y.L ++ [(ot, ov)]) := List.getElem?_set_self (by rw [List.length_map, ← r1]; exact hj1)
              rw [r4, allD_get] at h1
              obtain ⟨p2, hp2, hp3⟩ := Option.map_eq_some_iff.1 h1
              have hD9 : OkD D' := by rw [← HX.out.2.1]; exact HX.out.2.2.D
              have h2 := (hD9.ok p2 (List.mem_of_getElem? hp2)).len
              rw [show p2.2.flatten = y.L ++ [(ot, ov)] from congrArg Prod.snd hp3, List.length_append, List.length_singleton] at h2
              omega
            obtain ⟨gr, hgr, -, -⟩ := row_at Tryz.eltSe (hS.at_ (t := thR 60 encSe 2 (.slice A1 t1n c1) T1) 1 rfl) r2
            subst hgr
            have C1 : W4.cell? ⟨gr, j * 2 + 1, none⟩ = some (.slice y.A y.L.length y.c) := by
              rw [← yn]
              exact row_cellE Tryz.eltSe (hS.at_ (t := thR 60 encSe 2 (.slice (some ⟨gr, 0, none⟩) t1n c1) T1) 1 rfl) r2 1 _ rfl
            have hj2 : (j : Int) < (t1n : Int) := by omega
            have HYR := Lib.hid hyR
            have HS4 := Lib.hid hS
            clear r1 r2 r3 r4 hS hyr hyR ya yn yc
            go_upto_region 16 with (at_builtin; go_must (refine appR Tryz.eltS _ rfl (.tmp 72) (.tmp 77) rfl W4.heap.size (.slice none 0 0) [] rfl (OwnR.nil _ _ _ _ _) y.A y.c y.L rfl HYR.out (by unfold maxLen; simp <;> omega) (by simp <;> omega) (Nat.le_refl _) ?_); intro A3 c3 w5 hown5 hb5)
            have hown5' : OwnR w5 W4.heap.size 70 smp 2 (.slice A3 y.L.length c3) y.L := by simpa using hown5
            have hS5 := HS4.out.cons (t := thR 70 smp 2 (.slice A3 y.L.length c3) y.L) hb5 (OwnR.mono hown5' (Nat.zero_le _)) (fun k hk => (World.ownsRow.lt hown5' k hk).1)
            obtain ⟨d1, d2, d3⟩ := HCell.out w5 hS5.b
            have HSB := Lib.hid (hS5.box #[.int .i64 ot, .int .u64 (ov : Nat)] 70)
            clear hown5 hown5' hb5 hS5 C1 d1 HS4 HYR
            go_upto_region 17 with (at_builtin; go_must (refine sep_app1 Tryz.eltS rfl (.tmp 79) (.tmp 85) rfl 1 (.slice A3 y.L.length c3) y.L (by simp [Act.eval, Act.put]) HSB.out rfl w5.heap.size 1 (ot, ov) 70 #[.int .i64 ot, .int .u64 (ov : Nat)] rfl (HSB.out.blk 0) rfl (by unfold maxLen; omega) (by omega) ?_); intro g6 c6 w6 hS6)
            have hS6' := hS6.tail
            simp only [List.set_cons_succ, List.set_cons_zero, List.tail_cons] at hS6'
            have hrow : OwnR w6 0 60 encSe 2 (.slice (some ⟨gr, 0, none⟩) t1n c1) T1 := hS6'.at_ (t := thR 60 encSe 2 (.slice (some ⟨gr, 0, none⟩) t1n c1) T1) 2 rfl
            have C6 := row_cellE Tryz.eltSe hrow HR.out.2.1 1 _ rfl
            have F6 := row_froz hrow (j * 2 + 1)
            have HS6 := Lib.hid hS6'
            clear d2 d3 HSB hS6 hS6' hrow
            go_wp2_with fail
            go_roundw
            case measure => simp [intOf]; omega
            case rel =>
              obtain ⟨r1, r2, r3, r4, -⟩ := HR.out
              have hS7 := HS6.out.turnR Tryz.eltSe 2 rfl r1 j 1 y ⟨y.id, some ⟨g6, 0, none⟩, y.L.length + 1, c6, y.L ++ [(ot, ov)]⟩ (.slice (some ⟨g6, 0, none⟩) (y.L.length + 1) c6) r2 (by decide) rfl
              simp only [List.set_cons_succ, List.set_cons_zero] at hS7
              have hS8 := Sep.replace (us := thBk X :: thR 60 encSe 2 (.slice (some ⟨gr, 0, none⟩) t1n c1) (T1.set j ⟨y.id, some ⟨g6, 0, none⟩, y.L.length + 1, c6, y.L ++ [(ot, ov)]⟩) :: T1.map seT) hS7 (j + 2)
              simp only [List.set_cons_succ] at hS8
              have hDk : laD sz (l.take (k + 1)) = D' := by
                rw [HE.out.2.1, HE.out.2.2.2.2.2.2.2]
                unfold laS
                rw [← HE.out.2.2.2.1, ← HE.out.2.2.2.2.1, ← HE.out.2.2.2.2.2.1]
              refine ⟨k + 1, t1n, c1, some ⟨gr, 0, none⟩, T1.set j ⟨y.id, some ⟨g6, 0, none⟩, y.L.length + 1, c6, y.L ++ [(ot, ov)]⟩, by go_num, by omega, rfl, by omega, Lib.hid ⟨by rw [List.length_set]; exact r1, ?_, ?_⟩⟩
              · rw [hDk, ← r4, List.map_set]
                congr 1
                show (y.id, y.L ++ [(ot, ov)]) = _
                rw [r3]
              · rw [hDk]
                refine ⟨X, HX.out.1, HX.out.2.1, HX.out.2.2, ?_⟩
                unfold laT
                rw [List.map_set]
                exact hS8
      · have hm1 : ((me : Int) == 0) = false := beq_eq_false_iff_ne.2 (by omega)
        have hm2 : ¬ (me : Int) = 0 := by omega
        have hDD : laS D o = D := by
          unfold laS putD
          rw [← HE.out.2.2.2.1, ← HE.out.2.2.2.2.1, if_neg (by show ¬ mayD D x ot = 0; rw [← HE.out.2.2.2.2.2.2.1]; exact hm0)]
        have hD2 : D' = D := by
          rw [HE.out.2.2.2.2.2.2.2]
          unfold putD
          rw [if_neg (by show ¬ mayD D x ot = 0; rw [← HE.out.2.2.2.2.2.2.1]; exact hm0)]
        have HF := Lib.hid (show T.map seD = allD (laD sz (l.take (k + 1))) ∧ Bk B w0 wp q (laD sz (l.take (k + 1))) (laT (.slice A tn cc) T ++ ts) by
          rw [HE.out.2.1, hDD]
          refine ⟨HI.out.2.1, ?_⟩
          have := HB.out
          rw [hD2] at this
          exact this)
        clear hDD hD2 HB
        go_wp2_with fail
        go_roundw
        case measure => simp [intOf]; omega
        case rel => exact ⟨k + 1, tn, cc, A, T, by go_num, by omega, rfl, by omega, Lib.hid ⟨HI.out.1, HF.out.1, HF.out.2⟩⟩
    · obtain rfl : k = n := by omega
      have hkln : ¬ (k : Int) < (k : Int) := by omega
      go_wp2_with fail
      go_ret2
      have h1 := HI.out
      rw [HV.out.2.2.1, List.take_length] at h1
      have h2 := h1.1
      subst h2
      exact ⟨q, T, A, cc, rfl, h1.2.1, h1.2.2⟩
end Go.Proofs.YtnjcdihgaidlbaaGreatDoor

/- Layer 12: what a cut does, as data; things of a book's statements. -/
set_option linter.unusedSimpArgs false
set_option linter.unusedVariables false
namespace Go.Proofs.YtnjcdihgaidlbaaGreatDoor
open Go.RowKit
set_option maxRecDepth 100000

theorem nePlB_run (a1 a2 a3 b1 b2 b3 : Nat) (w : World) : (binOp .neq 40 (.agg #[.int .u32 (a1 : Nat), .int .u32 (a2 : Nat), .int .u32 (a3 : Nat)]) (.agg #[.int .u32 (b1 : Nat), .int .u32 (b2 : Nat), .int .u32 (b3 : Nat)])).run Tryz.prog w = .ok (.bool (!decide ((a1, a2, a3) = (b1, b2, b3)))) w := by
  rw [run_neq_struct, eqInPlB_run (a1, a2, a3) (b1, b2, b3)]; rfl
section
variable {B : Nat} {w0 w w' : World} {q : Nat} {D : BD} {ts us : List Kt}
end
end Go.Proofs.YtnjcdihgaidlbaaGreatDoor

/- Layer 26: the leaves of a book, as data; a chunk's leaf. -/
set_option linter.unusedSimpArgs false
set_option linter.unusedVariables false
namespace Go.Proofs.YtnjcdihgaidlbaaGreatDoor
open Go.RowKit
set_option maxRecDepth 100000

/-! ### rising lists of numbers are told by what is in them -/
theorem ksD_mem {D : BD} {x : Nat} : x ∈ ksD D ↔ ∃ p ∈ D.M, p.1 = x := by rw [(ksD_perm D).mem_iff, List.mem_map]
/-! ### leaves -/
/-! ### leafOf -/
end Go.Proofs.YtnjcdihgaidlbaaGreatDoor

/- Layer 15: what is sent, as data. -/
set_option linter.unusedSimpArgs false
set_option linter.unusedVariables false
namespace Go.Proofs.YtnjcdihgaidlbaaGreatDoor

def asE (k ep : Nat) (f : FrD) : FrD := { f with kd := k, ep := ep }
theorem asE_eq (k : Nat) (S : SD) (f : FrD) : asF k S f = asE k S.ep f := rfl
/-- where a series has come tp behind frames -/
def atF (x : Nat) (C : CsT) : List FrD → Pl → Pl
  | [], p => p
  | f :: l, p => atF x C l (if f.se = x then nextP x C p else p)
/-- a series' frames follow on one another -/
def okF (x : Nat) (C : CsT) (ep : Nat) : List FrD → Pl → Prop
  | [], p => True
  | f :: l, p => (f.se = x → noneB (cutS x C p 1024) = false ∧ f = asE 2 ep (cutS x C p 1024).1) ∧ okF x C ep l (if f.se = x then nextP x C p else p)
theorem atF_app (x : Nat) (C : CsT) : ∀ (l m : List FrD) (p : Pl), atF x C (l ++ m) p = atF x C m (atF x C l p)
  | [], m, p => rfl
  | f :: l, m, p => atF_app x C l m _
theorem okF_app (x : Nat) (C : CsT) (ep : Nat) : ∀ (l m : List FrD) (p : Pl), okF x C ep l p → okF x C ep m (atF x C l p) → okF x C ep (l ++ m) p
  | [], m, p, _, h => h
  | f :: l, m, p, h, k => ⟨h.1, okF_app x C ep l m _ h.2 k⟩
theorem atF_ne (x : Nat) (C : CsT) : ∀ (l : List FrD) (p : Pl), (∀ f ∈ l, f.se ≠ x) → atF x C l p = p
  | [], p, _ => rfl
  | f :: l, p, h => by
    unfold atF
    rw [if_neg (h f List.mem_cons_self)]
    exact atF_ne x C l p (fun g hg => h g (List.mem_cons_of_mem _ hg))
theorem okF_ne (x : Nat) (C : CsT) (ep : Nat) : ∀ (l : List FrD) (p : Pl), (∀ f ∈ l, f.se ≠ x) → okF x C ep l p
  | [], p, _ => trivial
  | f :: l, p, h => by
    unfold okF
    rw [if_neg (h f List.mem_cons_self)]
    exact ⟨fun e => absurd e (h f List.mem_cons_self), okF_ne x C ep l p (fun g hg => h g (List.mem_cons_of_mem _ hg))⟩
/-- what pumping leaves as it is -/
structure Stay (S T : SD) : Prop where
  bw : T.bw = S.bw
  tk : T.tk = S.tk
  ep : T.ep = S.ep
  now : T.now = S.now
  cm : T.CM = S.CM
theorem Stay.refl (S : SD) : Stay S S := ⟨rfl, rfl, rfl, rfl, rfl⟩
theorem Stay.trans {S T U : SD} (h : Stay S T) (k : Stay T U) : Stay S U := ⟨k.bw.trans h.bw, k.tk.trans h.tk, k.ep.trans h.ep, k.now.trans h.now, k.cm.trans h.cm⟩
theorem step_stay (x : Nat) (C : CsT) (S : SD) : Stay S (stepS x C S) := ⟨rfl, rfl, rfl, rfl, rfl⟩
structure RunI (x : Nat) (C : CsT) (S : SD) (t : SD × List FrD) : Prop where
  stay : Stay S t.1
  ok : okF x C S.ep t.2 (S.sent x)
  at_ : t.1.sent x = atF x C t.2 (S.sent x)
  others : ∀ y, y ≠ x → t.1.sent y = S.sent y
  se : ∀ f ∈ t.2, f.se = x
theorem RunI.none (x : Nat) (C : CsT) (S : SD) : RunI x C S (S, []) := ⟨.refl S, trivial, rfl, fun _ _ => rfl, fun f h => by cases h⟩
theorem pumX_run {D : BD} (hD : OkD D) (x : Nat) : ∀ (n : Nat) (S : SD), RunI x (D.at_ x) S (pumX x (D.at_ x) n S)
  | 0, S => .none x _ S
  | n + 1, S => by
    by_cases h : sumP S.PL < (S.bw : Int)
    · cases h2 : noneB (cutS x (D.at_ x) (S.sent x) 1024) with
      | true => rw [pumX_none x _ _ S h2]; exact .none x _ S
      | false =>
        rw [pumX_some x _ n S h h2]
        have hc := cut_of hD h2
        have ih := pumX_run hD x n (stepS x (D.at_ x) S)
        have hs := step_sent x (D.at_ x) S hc.se
        have hx := hs x
        rw [if_pos rfl] at hx
        have hse : (asF 2 S (cutS x (D.at_ x) (S.sent x) 1024).1).se = x := hc.se
        refine ⟨(step_stay x _ S).trans ih.stay, ?_, ?_, fun y hy => ?_, fun f hf => ?_⟩
        · refine ⟨fun _ => ⟨h2, asE_eq _ _ _⟩, ?_⟩
          rw [if_pos hse, ← hx]
          exact ih.ok
        · show _ = atF x (D.at_ x) _ (if _ then _ else _)
          rw [if_pos hse, ← hx]
          exact ih.at_
        · have := ih.others y hy
          rw [hs y, if_neg hy] at this
          exact this
        · rcases List.mem_cons.1 hf with rfl | hf
          · exact hse
          · exact ih.se f hf
    · rw [pumX_full x _ _ S h]; exact .none x _ S
structure RunL (D : BD) (xs : List Nat) (S : SD) (t : SD × List FrD) : Prop where
  stay : Stay S t.1
  ok : ∀ x ∈ xs, okF x (D.at_ x) S.ep t.2 (S.sent x)
  at_ : ∀ x ∈ xs, t.1.sent x = atF x (D.at_ x) t.2 (S.sent x)
  others : ∀ y, y ∉ xs → t.1.sent y = S.sent y
  se : ∀ f ∈ t.2, f.se ∈ xs
theorem pumL_run {D : BD} (hD : OkD D) : ∀ (xs : List Nat) (S : SD), xs.Nodup → RunL D xs S (pumL D xs S)
  | [], S, _ => ⟨.refl S, fun x h => (by cases h), fun x h => (by cases h), fun _ _ => rfl, fun f h => (by cases h)⟩
  | x :: xs, S, hn => by
    rw [List.nodup_cons] at hn
    have h1 := pumX_run hD x 1002 S
    have h2 := pumL_run hD xs (pumX x (D.at_ x) 1002 S).1 hn.2
    have hne : ∀ f ∈ (pumL D xs (pumX x (D.at_ x) 1002 S).1).2, f.se ≠ x := fun f hf e => hn.1 (e ▸ h2.se f hf)
    have hep := h1.stay.ep
    unfold pumL
    refine ⟨h1.stay.trans h2.stay, fun y hy => ?_, fun y hy => ?_, fun y hy => ?_, fun f hf => ?_⟩
    · by_cases e : y = x
      · subst e
        exact okF_app _ _ _ _ _ _ h1.ok (okF_ne _ _ _ _ _ hne)
      · have hy2 : y ∈ xs := (List.mem_cons.1 hy).resolve_left e
        have hno : ∀ f ∈ (pumX x (D.at_ x) 1002 S).2, f.se ≠ y := fun f hf e2 => e (e2.symm.trans (h1.se f hf))
        refine okF_app _ _ _ _ _ _ (okF_ne _ _ _ _ _ hno) ?_
        rw [atF_ne _ _ _ _ hno]
        have h3 := h2.ok y hy2
        rw [hep, h1.others y e] at h3
        exact h3
    · by_cases e : y = x
      · subst e
        show (pumL D xs _).1.sent y = _
        rw [h2.others y hn.1, h1.at_, atF_app, atF_ne _ _ _ _ hne]
      · have hy2 : y ∈ xs := (List.mem_cons.1 hy).resolve_left e
        have hno : ∀ f ∈ (pumX x (D.at_ x) 1002 S).2, f.se ≠ y := fun f hf e2 => e (e2.symm.trans (h1.se f hf))
        show (pumL D xs _).1.sent y = _
        rw [h2.at_ y hy2, atF_app, atF_ne _ _ _ _ hno, h1.others y e]
    · have h3 : y ≠ x ∧ y ∉ xs := by rw [List.mem_cons, not_or] at hy; exact hy
      show (pumL D xs _).1.sent y = _
      rw [h2.others y h3.2, h1.others y h3.1]
    · rcases List.mem_append.1 hf with h3 | h3
      · rw [h1.se f h3]; exact List.mem_cons_self
      · exact List.mem_cons_of_mem _ (h2.se f h3)
theorem ksD_nodup {D : BD} (hD : OkD D) : (ksD D).Nodup := (ksD_perm D).nodup_iff.2 hD.nd
theorem pump_run {D : BD} (hD : OkD D) (S : SD) : RunL D (ksD D) S (pumpD D S) := pumL_run hD _ S (ksD_nodup hD)
theorem pumL_full (D : BD) (S : SD) (h : ¬ sumP S.PL < (S.bw : Int)) : ∀ xs, pumL D xs S = (S, [])
  | [] => rfl
  | x :: xs => by
    unfold pumL
    rw [pumX_full x _ _ S h, pumL_full D S h xs]
    rfl
/-- where the loop over a series stops -/
theorem pumX_end {D : BD} (hD : OkD D) (x : Nat) : ∀ (n : Nat) (S : SD), leftS (D.at_ x) (S.sent x) < n → ¬ sumP (pumX x (D.at_ x) n S).1.PL < (S.bw : Int) ∨ noneB (cutS x (D.at_ x) ((pumX x (D.at_ x) n S).1.sent x) 1024) = true
  | 0, S, h => by omega
  | n + 1, S, h => by
    by_cases h1 : sumP S.PL < (S.bw : Int)
    · cases h2 : noneB (cutS x (D.at_ x) (S.sent x) 1024) with
      | true => rw [pumX_none x _ _ S h2]; exact .inr h2
      | false =>
        rw [pumX_some x _ n S h1 h2]
        have hc := cut_of hD h2
        have hs := step_sent x (D.at_ x) S hc.se x
        rw [if_pos rfl] at hs
        have hl := hc.left
        have h3 := pumX_end hD x n (stepS x (D.at_ x) S) (by rw [hs]; show leftS _ (cutS x (D.at_ x) (S.sent x) 1024).2.1 < n; omega)
        exact h3
    · rw [pumX_full x _ _ S h1]; exact .inl h1
end Go.Proofs.YtnjcdihgaidlbaaGreatDoor

/- Layer 15: how many bits are under way, as data. -/
set_option linter.unusedSimpArgs false
set_option linter.unusedVariables false
namespace Go.Proofs.YtnjcdihgaidlbaaGreatDoor

theorem encX_pos (s : XV) (v : Nat) : 1 ≤ (encX s v).1.length := by
  unfold encX
  split
  · show 1 ≤ (valB v 64).length
    rw [valB_length]
    decide
  · split
    · exact Nat.le_refl _
    · split
      · show 1 ≤ (_ :: _).length
        rw [List.length_cons]; omega
      · show 1 ≤ (_ :: _).length
        rw [List.length_cons]; omega
theorem endN_lt {L : List Sm} {i j : Nat} (h : i < j) (hj : j ≤ L.length) : endN L i < endN L j := by
  have h1 := endN_mono L (i := i + 1) (j := j) h
  have h2 : L.take (i + 1) = L.take i ++ [L[i]] := by rw [List.take_succ_eq_append_getElem (by omega)]
  have h3 : endN L (i + 1) = endN L i + ((encC (lastC ec0 (L.take i)) L[i].1 L[i].2).1).length := by
    unfold endN bitsL
    rw [h2, codesC_snoc, List.length_append]
  have h4 : 1 ≤ ((encC (lastC ec0 (L.take i)) L[i].1 L[i].2).1).length := by
    unfold encC
    have := encX_pos (lastC ec0 (L.take i)).val L[i].2
    rw [List.length_append]
    omega
  omega
theorem bits_24 {L : List Sm} (h1 : L.length ≤ 24) (h2 : InC L) : (bitsL L).length ≤ 3504 := by
  have h := totC_le (C := [L]) (by simpa using h2) (by simp; omega)
  rw [totC_one] at h
  have e : ([L] : CsT).flatten = L := by simp
  rw [e] at h
  omega
/-- chunks of few samples -/
def Few (D : BD) : Prop := ∀ x, ∀ L ∈ D.at_ x, L.length ≤ 24
theorem cut_n {D : BD} (hD : OkD D) (h24 : Few D) {x : Nat} {p : Pl} {most : Int} (h : noneB (cutS x (D.at_ x) p most) = false) : 1 ≤ (cutS x (D.at_ x) p most).1.n ∧ (cutS x (D.at_ x) p most).1.n ≤ 3504 := by
  have hc := cut_of hD h
  obtain ⟨pc, pb, pn⟩ := p
  have hcn := hc.cn
  have hh := hc.has
  have he := hc.ne
  dsimp only at hh hcn
  obtain ⟨L, hL, hpl, hpe, hpl2⟩ := hasC_true hh
  have hpcl := (List.getElem?_eq_some_iff.1 hL).1
  have hplt : pn < L.length := by
    rcases Nat.lt_or_ge pn L.length with h1 | h1
    · exact h1
    · exfalso
      have h2 : ¬ pc + 1 < (D.at_ x).length := fun h3 => by have := hpl2 h3; omega
      have h4 : pc = (D.at_ x).length - 1 := by omega
      have h5 : lastL (D.at_ x) = L := by unfold lastL; rw [List.getLast?_eq_getElem?, ← h4, hL]; rfl
      exact he (by unfold endC; rw [h5, hpe, ← h4, show pn = L.length by omega])
  have hm := List.mem_of_getElem? hL
  have hb := bits_24 (h24 x L hm) ((hD.at_ x).incL hm)
  unfold cutS cutF
  dsimp only
  rw [if_neg (by rw [hh]; decide), if_neg he, hL, Option.getD_some]
  have hk1 := cutTo_le (most := most) hplt
  have hl := cutB_len L (i := pn) (j := cutTo L pn most) (by omega)
  have hlt := endN_lt hk1.1 hk1.2
  have hle := endN_le L (cutTo L pn most)
  show 1 ≤ ((cutB L pn (cutTo L pn most)).length : Int) ∧ ((cutB L pn (cutTo L pn most)).length : Int) ≤ 3504
  omega
def sumF : List FrD → Int
  | [] => 0
  | f :: l => f.n + sumF l
theorem sumF_app : ∀ (l m : List FrD), sumF (l ++ m) = sumF l + sumF m
  | [], m => by show sumF m = 0 + sumF m; omega
  | f :: l, m => by show f.n + sumF (l ++ m) = f.n + sumF l + sumF m; rw [sumF_app l m]; omega
theorem step_pl {D : BD} (hD : OkD D) (h24 : Few D) {x : Nat} {S : SD} (h : sumP S.PL < (S.bw : Int)) (h2 : noneB (cutS x (D.at_ x) (S.sent x) 1024) = false) : (stepS x (D.at_ x) S).PL = S.PL ++ [pcF (asF 2 S (cutS x (D.at_ x) (S.sent x) 1024).1) (cutS x (D.at_ x) (S.sent x) 1024).2.1] := by
  have hn := cut_n hD h24 h2
  show addL _ _ _ = _
  unfold addL addB
  rw [if_pos (decide_eq_true ⟨hn.1, by show (cutS x (D.at_ x) (S.sent x) 1024).1.n ≤ 65536; omega, h⟩)]
structure SumI (S : SD) (t : SD × List FrD) : Prop where
  sum : sumP t.1.PL = sumP S.PL + sumF t.2
  nn : 0 ≤ sumF t.2
  few : sumP t.1.PL ≤ sumP S.PL ∨ sumP t.1.PL < (S.bw : Int) + 3504
  none_ : t.2 = [] → t.1 = S
theorem SumI.none (S : SD) : SumI S (S, []) := ⟨(Int.add_zero _).symm, Int.le_refl _, .inl (Int.le_refl _), fun _ => rfl⟩
theorem pumX_sum {D : BD} (hD : OkD D) (h24 : Few D) (x : Nat) : ∀ (n : Nat) (S : SD), SumI S (pumX x (D.at_ x) n S)
  | 0, S => .none S
  | n + 1, S => by
    by_cases h : sumP S.PL < (S.bw : Int)
    · cases h2 : noneB (cutS x (D.at_ x) (S.sent x) 1024) with
      | true => rw [pumX_none x _ _ S h2]; exact .none S
      | false =>
        rw [pumX_some x _ n S h h2]
        have ih := pumX_sum hD h24 x n (stepS x (D.at_ x) S)
        have hn := cut_n hD h24 h2
        have hp := step_pl hD h24 h h2
        have hs : sumP (stepS x (D.at_ x) S).PL = sumP S.PL + (cutS x (D.at_ x) (S.sent x) 1024).1.n := by
          rw [hp, sumP_append]
          show _ + ((cutS x (D.at_ x) (S.sent x) 1024).1.n + 0) = _
          omega
        have hbw : (stepS x (D.at_ x) S).bw = S.bw := rfl
        have h1 := ih.sum
        have h3 := ih.nn
        have h4 := ih.few
        rw [hs] at h1 h4
        rw [hbw] at h4
        refine ⟨?_, ?_, ?_, fun e => by cases e⟩
        · show _ = _ + ((cutS x (D.at_ x) (S.sent x) 1024).1.n + _)
          rw [h1]
          omega
        · show 0 ≤ (cutS x (D.at_ x) (S.sent x) 1024).1.n + _
          omega
        · right
          rcases h4 with h4 | h4
          · show sumP (pumX x (D.at_ x) n (stepS x (D.at_ x) S)).1.PL < _
            omega
          · exact h4
    · rw [pumX_full x _ _ S h]; exact .none S
theorem pumL_sum {D : BD} (hD : OkD D) (h24 : Few D) : ∀ (xs : List Nat) (S : SD), SumI S (pumL D xs S)
  | [], S => .none S
  | x :: xs, S => by
    have h1 := pumX_sum hD h24 x 1002 S
    have h2 := pumL_sum hD h24 xs (pumX x (D.at_ x) 1002 S).1
    have hb := (pumX_run hD x 1002 S).stay.bw
    unfold pumL
    refine ⟨?_, ?_, ?_, fun e => ?_⟩
    · show sumP (pumL D xs _).1.PL = _ + sumF (_ ++ _)
      rw [h2.sum, h1.sum, sumF_app]
      omega
    · show 0 ≤ sumF (_ ++ _)
      rw [sumF_app]
      have := h1.nn
      have := h2.nn
      omega
    · have h3 := h1.few
      have h4 := h2.few
      rw [hb] at h4
      show sumP (pumL D xs _).1.PL ≤ _ ∨ sumP (pumL D xs _).1.PL < _
      omega
    · have h3 : (pumX x (D.at_ x) 1002 S).2 = [] ∧ (pumL D xs (pumX x (D.at_ x) 1002 S).1).2 = [] := List.append_eq_nil_iff.1 e
      show (pumL D xs _).1 = S
      rw [h2.none_ h3.2, h1.none_ h3.1]
/-- behind pumping there is no room, or nothing tp be sent -/
theorem pumL_end {D : BD} (hD : OkD D) (h24 : Few D) : ∀ (xs : List Nat) (S : SD), xs.Nodup → ¬ sumP (pumL D xs S).1.PL < (S.bw : Int) ∨ ∀ x ∈ xs, noneB (cutS x (D.at_ x) ((pumL D xs S).1.sent x) 1024) = true
  | [], S, _ => .inr fun x h => by cases h
  | x :: xs, S, hn => by
    rw [List.nodup_cons] at hn
    have h1 := pumX_end hD x 1002 S (by have := left_few (hD.at_ x) (S.sent x); omega)
    have h2 := pumL_end hD h24 xs (pumX x (D.at_ x) 1002 S).1 hn.2
    have h3 := pumL_sum hD h24 xs (pumX x (D.at_ x) 1002 S).1
    have hr := pumL_run hD xs (pumX x (D.at_ x) 1002 S).1 hn.2
    have hb := (pumX_run hD x 1002 S).stay.bw
    rw [hb] at h2
    show ¬ sumP (pumL D xs _).1.PL < _ ∨ ∀ y ∈ x :: xs, noneB (cutS y (D.at_ y) ((pumL D xs _).1.sent y) 1024) = true
    rcases h2 with h2 | h2
    · exact .inl h2
    · rcases h1 with h1 | h1
      · have := h3.sum
        have := h3.nn
        exact .inl (by omega)
      · right
        intro y hy
        rcases List.mem_cons.1 hy with rfl | hy
        · rw [hr.others y hn.1]; exact h1
        · exact h2 y hy
/-- pumping again sends nothing -/
theorem pump_again {D : BD} (hD : OkD D) (h24 : Few D) (S : SD) : pumpD D (pumpD D S).1 = ((pumpD D S).1, []) := by
  have hb := (pump_run hD S).stay.bw
  rcases pumL_end hD h24 (ksD D) S (ksD_nodup hD) with h | h
  · exact pumL_full D _ (by rw [show (pumpD D S).1.bw = S.bw from hb]; exact h) _
  · exact pumL_none _ _ h
end Go.Proofs.YtnjcdihgaidlbaaGreatDoor

/- Layer 15: what the statements begin with; what is sent behind a lack, as data. -/
set_option linter.unusedSimpArgs false
set_option linter.unusedVariables false
namespace Go.Proofs.YtnjcdihgaidlbaaGreatDoor
open Go.RowKit
set_option maxRecDepth 100000

/-- a configuration of the statements -/
def cfS (wi ti si : Nat) : Cf := ⟨64, 1048576, ((1 + si % 24 : Nat) : Int), ((1 + wi % 3000 : Nat) : Int), ((1 + ti % 1000 : Nat) : Int), 1048576⟩
theorem cfS_right (wi ti si : Nat) : rightB (cfS wi ti si) = true := by
  unfold rightB inI cfS
  simp only [Bool.and_eq_true, decide_eq_true_eq]
  omega
theorem cfS_any (wi ti si : Nat) (h1 : wi < 65536) (h2 : ti < 65536) (h3 : si < 256) (w : World) : Calls Tryz.prog 9 #[.int .u16 (wi : Nat), .int .u16 (ti : Nat), .int .u8 (si : Nat)] w fun e w' => e = .returned (cfS wi ti si).v ∧ Below w.heap.size w w' := by
  obtain ⟨W, hW⟩ : ∃ W, W = w.alloc (.cells #[.int .i64 0, .int .i64 0, .int .i64 0, .int .i64 0, .int .i64 0, .int .i64 0] 26) := ⟨_, rfl⟩
  obtain ⟨g, hg⟩ : ∃ g, g = w.heap.size := ⟨_, rfl⟩
  have hbw : Below w.heap.size w W := by rw [hW]; exact below_alloc w _
  have cg : Blk W g 26 #[.int .i64 0, .int .i64 0, .int .i64 0, .int .i64 0, .int .i64 0, .int .i64 0] := by rw [hW, hg]; exact Blk.new _ _ _
  obtain ⟨a, ha⟩ : ∃ a, a = si % 24 := ⟨_, rfl⟩
  obtain ⟨b, hb⟩ : ∃ b, b = wi % 3000 := ⟨_, rfl⟩
  obtain ⟨c, hc⟩ : ∃ c, c = ti % 1000 := ⟨_, rfl⟩
  have r1 : (si : Int).tmod 24 = (a : Int) := by rw [Int.tmod_eq_emod_of_nonneg (by omega)]; omega
  have r2 : (wi : Int).tmod 3000 = (b : Int) := by rw [Int.tmod_eq_emod_of_nonneg (by omega)]; omega
  have r3 : (ti : Int).tmod 1000 = (c : Int) := by rw [Int.tmod_eq_emod_of_nonneg (by omega)]; omega
  have v : ∀ z : Nat, z < 5000 → IntKind.i64.wrap (z : Int) = (z : Int) := fun z hz => by rw [IntKind.wrap_i64]; omega
  have v1 := v a (by omega)
  have v2 := v b (by omega)
  have v3 := v c (by omega)
  have w1 : IntKind.i64.wrap (1 + (a : Int)) = 1 + (a : Int) := by rw [IntKind.wrap_i64]; omega
  have w2 : IntKind.i64.wrap (1 + (b : Int)) = 1 + (b : Int) := by rw [IntKind.wrap_i64]; omega
  have w3 : IntKind.i64.wrap (1 + (c : Int)) = 1 + (c : Int) := by rw [IntKind.wrap_i64]; omega
  have u1 : (si : Int) % 24 = (a : Int) := by omega
  have u2 : (wi : Int) % 3000 = (b : Int) := by omega
  have u3 : (ti : Int) % 1000 = (c : Int) := by omega
  have hcf : (cfS wi ti si).v = .agg #[.int .i64 64, .int .i64 1048576, .int .i64 (1 + (a : Int)), .int .i64 (1 + (b : Int)), .int .i64 (1 + (c : Int)), .int .i64 1048576] := by
    unfold cfS Cf.v
    dsimp only
    rw [← ha, ← hb, ← hc]
    simp only [Int.natCast_add, Int.cast_ofNat_Int]
  have HB := Lib.hid (And.intro cg (And.intro hbw (Nat.le_of_eq hg.symm)))
  rw [hcf]
  clear hbw cg ha hb hc v hcf h1 h2 h3
  go_enter Tryz.func9, Tryz.ntmps9
  go_upto_region 1 with fail
  rw [← hW, ← hg]
  clear hW hg
  have D := cells_say HB.out.1 _ 0 rfl
  simp only [cellsSay, List.drop_zero, Nat.reduceAdd, and_true] at D
  go_wp2_with fail
  exact bodyPost_ret (results_cell_row Tryz.results9 _ _ g 26 #[.int .i64 64, .int .i64 1048576, .int .i64 (1 + (a : Int)), .int .i64 (1 + (b : Int)), .int .i64 (1 + (c : Int)), .int .i64 1048576] (0, 0) _ rfl ((HB.out.1.sets [(0, .int .i64 64), (1, .int .i64 1048576), (2, .int .i64 (1 + (a : Int))), (3, .int .i64 (1 + (b : Int))), (4, .int .i64 (1 + (c : Int))), (5, .int .i64 1048576)]) ) Tryz.underlying26 rfl (by kernel_rfl)) rfl ⟨rfl, ((((((HB.out.2.1.setCell HB.out.2.2 _).setCell HB.out.2.2 _).setCell HB.out.2.2 _).setCell HB.out.2.2 _).setCell HB.out.2.2 _).setCell HB.out.2.2 _)⟩
theorem sd_lay {B : Nat} {w0 w : World} {X : SL} {S : SD} {ts : List Kt} (h : Sd B w0 w X S ts) (hT : Tab w0) (hB0 : w0.heap.size ≤ B) (size : Int) (hsz : in64 size) (V : Option Addr) (c : Nat) (l : List OB) (hV : Rw w0 encOB 17 V l) (hok : ∀ o ∈ l, OkOB o) (hl : l.length ≤ 60) :
    Calls Tryz.prog 11 #[.int .i64 size, .slice V l.length c] w fun e w' => ∃ (Y : Bl) (T : List Se) (A : Option Addr) (cc : Nat), e = .returned (.tuple #[prB Y, .slice A T.length cc]) ∧ T.map seD = allD (laD (laSz size) l) ∧ Y.D = laD (laSz size) l ∧ OkB Y ∧ Sd B w0 w' X S (thBk Y :: (laT (.slice A T.length cc) T ++ ts)) := by
  obtain ⟨F, b, hs⟩ := h
  refine (bLay_any hs hT hB0 size hsz V c l hV hok hl).mono ?_
  rintro e w' ⟨q, T, A, cc, rfl, h1, Y, h2, h3, h4, h5⟩
  exact ⟨Y, T, A, cc, by subst h2; rfl, h1, h3, h4, F, b, h5.permB (front6 (us := thBk Y :: laT (.slice A T.length cc) T))⟩
end Go.Proofs.YtnjcdihgaidlbaaGreatDoor

/- Layer 15: what is told of what was sent, as data. -/
set_option linter.unusedSimpArgs false
set_option linter.unusedVariables false
namespace Go.Proofs.YtnjcdihgaidlbaaGreatDoor

theorem okF_at {x : Nat} {C : CsT} {ep : Nat} : ∀ {l : List FrD} {p : Pl} {k : Nat} {f : FrD}, okF x C ep l p → l[k]? = some f → f.se = x → noneB (cutS x C (atF x C (l.take k) p) 1024) = false ∧ f = asE 2 ep (cutS x C (atF x C (l.take k) p) 1024).1
  | [], p, k, f, h, hk, he => by simp at hk
  | g :: l, p, 0, f, h, hk, he => by
    simp only [List.getElem?_cons_zero, Option.some.injEq] at hk
    subst hk
    exact h.1 he
  | g :: l, p, k + 1, f, h, hk, he => okF_at (l := l) (k := k) h.2 (by simpa using hk) he
theorem atF_succ {x : Nat} {C : CsT} {l : List FrD} {p : Pl} {k : Nat} {f : FrD} (hk : l[k]? = some f) : atF x C (l.take (k + 1)) p = if f.se = x then nextP x C (atF x C (l.take k) p) else atF x C (l.take k) p := by
  rw [List.take_add_one, hk, atF_app]
  rfl
def sumIn (q : Nat → Bool) : List FrD → Int
  | [] => 0
  | f :: l => (if q f.se then f.n else 0) + sumIn q l
theorem sumIn_app (q : Nat → Bool) : ∀ (l m : List FrD), sumIn q (l ++ m) = sumIn q l + sumIn q m
  | [], m => by show sumIn q m = 0 + sumIn q m; omega
  | f :: l, m => by show _ + sumIn q (l ++ m) = _ + sumIn q l + sumIn q m; rw [sumIn_app q l m]; omega
theorem sumIn_in (q : Nat → Bool) : ∀ {l : List FrD}, (∀ f ∈ l, 0 ≤ f.n) → 0 ≤ sumIn q l ∧ sumIn q l ≤ sumF l
  | [], _ => ⟨Int.le_refl _, Int.le_refl _⟩
  | f :: l, h => by
    have h1 := sumIn_in q (l := l) (fun g hg => h g (List.mem_cons_of_mem _ hg))
    have h2 := h f List.mem_cons_self
    show 0 ≤ (if q f.se then f.n else 0) + sumIn q l ∧ (if q f.se then f.n else 0) + sumIn q l ≤ f.n + sumF l
    split <;> omega
theorem sumIn_or {q r s : Nat → Bool} (h : ∀ x, r x = (q x || s x)) (hd : ∀ x, q x = true → s x = false) : ∀ l : List FrD, sumIn r l = sumIn q l + sumIn s l
  | [] => rfl
  | f :: l => by
    show (if r f.se then f.n else 0) + sumIn r l = (if q f.se then f.n else 0) + sumIn q l + ((if s f.se then f.n else 0) + sumIn s l)
    rw [sumIn_or h hd l, h]
    cases hq : q f.se with
    | true => rw [hd _ hq]; simp only [Bool.or_false, if_true, Bool.false_eq_true, if_false]; omega
    | false => simp only [Bool.false_or, Bool.false_eq_true, if_false]; omega
theorem sumIn_all {q : Nat → Bool} : ∀ {l : List FrD}, (∀ f ∈ l, q f.se = true) → sumIn q l = sumF l
  | [], _ => rfl
  | f :: l, h => by
    show (if q f.se then f.n else 0) + sumIn q l = f.n + sumF l
    rw [h f List.mem_cons_self, if_pos rfl, sumIn_all (l := l) (fun g hg => h g (List.mem_cons_of_mem _ hg))]
theorem sumIn_none {q : Nat → Bool} (h : ∀ x, q x = false) : ∀ l : List FrD, sumIn q l = 0
  | [] => rfl
  | f :: l => by
    show (if q f.se then f.n else 0) + sumIn q l = 0
    rw [h, if_neg (by decide), sumIn_none h l]
    rfl
theorem sumIn_take (q : Nat → Bool) {l : List FrD} (h : ∀ f ∈ l, 0 ≤ f.n) (k : Nat) : sumIn q (l.take k) ≤ sumIn q l := by
  have h1 : sumIn q l = sumIn q (l.take k) + sumIn q (l.drop k) := by rw [← sumIn_app, List.take_append_drop]
  have h2 := (sumIn_in q (l := l.drop k) (fun f hf => h f (List.mem_of_mem_drop hf))).1
  omega
theorem sumIn_succ (q : Nat → Bool) {l : List FrD} {k : Nat} {f : FrD} (hk : l[k]? = some f) : sumIn q (l.take (k + 1)) = sumIn q (l.take k) + if q f.se then f.n else 0 := by
  rw [List.take_add_one, hk, sumIn_app]
  show _ + ((if q f.se then f.n else 0) + 0) = _
  omega
/-- all that the statement looks at -/
structure TelI (D : BD) (bw : Nat) (S : SD) (F : List FrD) : Prop where
  ok : ∀ x, (lookM D.M x).isSome → okF x (D.at_ x) 1 F (0, 0, 0)
  sent : ∀ x, (lookM D.M x).isSome → S.sent x = atF x (D.at_ x) F (0, 0, 0)
  se : ∀ f ∈ F, (lookM D.M f.se).isSome
  nn : ∀ f ∈ F, 0 ≤ f.n
  way : sumP S.PL = sumF F
  few : sumF F < (bw : Int) + 3504
  len : F.length ≤ 10000
  again : pumpD D S = (S, [])
theorem len_sumF : ∀ {l : List FrD}, (∀ f ∈ l, 1 ≤ f.n) → (l.length : Int) ≤ sumF l
  | [], _ => Int.le_refl _
  | f :: l, h => by
    have h1 := len_sumF (l := l) (fun g hg => h g (List.mem_cons_of_mem _ hg))
    have h2 := h f List.mem_cons_self
    show ((l.length + 1 : Nat) : Int) ≤ f.n + sumF l
    omega
theorem tel_main {D : BD} (hD : OkD D) (h24 : Few D) (bw tk : Nat) (hb : 1 ≤ bw ∧ bw ≤ 3000) : TelI D bw (pumpD D (newS bw tk 1)).1 (pumpD D (newS bw tk 1)).2 := by
  have hr := pump_run hD (newS bw tk 1)
  have hs := pumL_sum hD h24 (ksD D) (newS bw tk 1)
  have hks : ∀ x, (lookM D.M x).isSome → x ∈ ksD D := fun x hx => by
    obtain ⟨a, ha⟩ := look_key hx
    exact ksD_mem.2 ⟨_, ha, rfl⟩
  have hsk : ∀ x, x ∈ ksD D → (lookM D.M x).isSome := fun x hx => by
    obtain ⟨p, hp, rfl⟩ := ksD_mem.1 hx
    rw [lookM_of_mem hD.nd hp]
    rfl
  have hn1 : ∀ f ∈ (pumpD D (newS bw tk 1)).2, 1 ≤ f.n := fun f hf => by
    obtain ⟨k, hk⟩ := List.getElem?_of_mem hf
    have h1 := okF_at (hr.ok f.se (hr.se f hf)) hk rfl
    have h2 := (cut_n hD h24 h1.1).1
    rw [h1.2]
    exact h2
  have hfew : sumF (pumpD D (newS bw tk 1)).2 < (bw : Int) + 3504 := by
    have h1 := hs.sum
    have h2 := hs.few
    have h3 : sumP (newS bw tk 1).PL = 0 := rfl
    have h4 : (newS bw tk 1).bw = bw := rfl
    rw [h3] at h1 h2
    rw [h4] at h2
    show sumF (pumL D (ksD D) (newS bw tk 1)).2 < _
    omega
  refine ⟨fun x hx => hr.ok x (hks x hx), fun x hx => hr.at_ x (hks x hx), fun f hf => hsk _ (hr.se f hf), fun f hf => by have := hn1 f hf; omega, ?_, hfew, ?_, pump_again hD h24 _⟩
  · have h1 := hs.sum
    have h3 : sumP (newS bw tk 1).PL = 0 := rfl
    rw [h3, Int.zero_add] at h1
    exact h1
  · have h1 := len_sumF hn1
    omega
end Go.Proofs.YtnjcdihgaidlbaaGreatDoor

/- Layer 7: the document's Same of frames. -/
set_option linter.unusedSimpArgs false
set_option linter.unusedVariables false
namespace Go.Proofs.YtnjcdihgaidlbaaGreatDoor
open Go.RowKit
set_option maxRecDepth 100000

/-- are frames alike? -/
def sameF (f g : FrD) : Bool := decide (f.kd = g.kd ∧ f.ep = g.ep ∧ f.se = g.se ∧ (f.fc, f.fb, f.fn) = (g.fc, g.fb, g.fn) ∧ f.cn = g.cn ∧ f.cl = g.cl ∧ f.sm = g.sm) && (decide (f.n = g.n) && decide (f.l = g.l))
theorem sameF_iff (f g : FrD) : sameF f g = true ↔ f = g := by
  obtain ⟨kd, ep, se, fc, fb, fn, cn, cl, sm, l, n⟩ := f
  obtain ⟨kd2, ep2, se2, fc2, fb2, fn2, cn2, cl2, sm2, l2, n2⟩ := g
  simp only [sameF, Bool.and_eq_true, decide_eq_true_iff, FrD.mk.injEq, Prod.mk.injEq]
  constructor
  · rintro ⟨⟨rfl, rfl, rfl, ⟨rfl, rfl, rfl⟩, rfl, rfl, rfl⟩, rfl, rfl⟩; simp
  · rintro ⟨rfl, rfl, rfl, rfl, rfl, rfl, rfl, rfl, rfl, rfl, rfl⟩; simp

set_option maxHeartbeats 4000000 in
theorem rfsame_any (f g : FrD) (A B : Option Addr) (c d : Nat) (w : World) (hA : Bs w A f.l) (hB : Bs w B g.l) :
    Calls Tryz.prog 21 #[.agg (frC f A c), .agg (frC g B d)] w fun e w' => e = .returned (.bool (sameF f g)) ∧ Below w.heap.size w w' := by
  obtain ⟨r, hr⟩ : ∃ r, r = sameF f g := ⟨_, rfl⟩
  rw [← hr]
  have hS := fun (W : World) (hb : Below w.heap.size w W) => refSame_any A B c d f.l g.l f.n g.n W (hA.below hb) (hB.below hb)
  obtain ⟨sb, hsb⟩ : ∃ sb, sb = (decide (f.n = g.n) && decide (f.l = g.l)) := ⟨_, rfl⟩
  rw [← hsb] at hS
  unfold sameF at hr
  rw [← hsb] at hr
  clear hA hB hsb
  obtain ⟨kd, ep, se, fc, fb, fn, cn, cl, sm, l, n⟩ := f
  obtain ⟨kd2, ep2, se2, fc2, fb2, fn2, cn2, cl2, sm2, l2, n2⟩ := g
  simp only [frC] at hr hS ⊢
  have HS := Lib.hid hS
  have HK0 := (Qs.zero w).box #[.int .u8 (kd : Nat), .int .u32 (ep : Nat), .int .u32 (se : Nat), .int .u32 (fc : Nat), .int .u32 (fb : Nat), .int .u32 (fn : Nat), .int .u32 (cn : Nat), .bool cl, .int .u64 (sm : Nat), .slice A l.length c, .int .i64 n] 46
  have s1 : ∀ o, (w.alloc o).heap.size = w.heap.size + 1 := fun o => by simp
  have HK2 := HK0.box #[.int .u8 (kd2 : Nat), .int .u32 (ep2 : Nat), .int .u32 (se2 : Nat), .int .u32 (fc2 : Nat), .int .u32 (fb2 : Nat), .int .u32 (fn2 : Nat), .int .u32 (cn2 : Nat), .bool cl2, .int .u64 (sm2 : Nat), .slice B l2.length d, .int .i64 n2] 46
  simp only [s1] at HK2
  have HK := Lib.hid HK2
  clear HK0 HK2 s1
  have C := HK.out.says
  simp only [sayAll, cellsSay, qB, qW, Nat.reduceAdd, and_true, true_and] at C
  have hP := fun w => eqPlB_run fc fb fn fc2 fb2 fn2 w
  clear hS
  by_cases c_kd : kd = kd2
  rotate_left
  · have h_kd : (((kd : Nat) : Int) == ((kd2 : Nat) : Int)) = false := beq_eq_false_iff_ne.2 (by omega)
    have Hr := Lib.hid (show r = false by rw [hr, decide_eq_false (fun h => c_kd (by simpa using (h.1))), Bool.false_and])
    clear hr c_kd 
    go_enter Tryz.func21, Tryz.ntmps21
    go_wp2_with fail
    go_ret
    exact ⟨by rw [Hr.out]; rfl, HK.out.top 2⟩
  have h_kd : (((kd : Nat) : Int) == ((kd2 : Nat) : Int)) = true := beq_iff_eq.2 (by omega)
  by_cases c_ep : ep = ep2
  rotate_left
  · have h_ep : (((ep : Nat) : Int) == ((ep2 : Nat) : Int)) = false := beq_eq_false_iff_ne.2 (by omega)
    have Hr := Lib.hid (show r = false by rw [hr, decide_eq_false (fun h => c_ep (by simpa using (h.2.1))), Bool.false_and])
    clear hr c_ep c_kd
    go_enter Tryz.func21, Tryz.ntmps21
    go_wp2_with fail
    go_ret
    exact ⟨by rw [Hr.out]; rfl, HK.out.top 2⟩
  have h_ep : (((ep : Nat) : Int) == ((ep2 : Nat) : Int)) = true := beq_iff_eq.2 (by omega)
  by_cases c_se : se = se2
  rotate_left
  · have h_se : (((se : Nat) : Int) == ((se2 : Nat) : Int)) = false := beq_eq_false_iff_ne.2 (by omega)
    have Hr := Lib.hid (show r = false by rw [hr, decide_eq_false (fun h => c_se (by simpa using (h.2.2.1))), Bool.false_and])
    clear hr c_se c_kd c_ep
    go_enter Tryz.func21, Tryz.ntmps21
    go_wp2_with fail
    go_ret
    exact ⟨by rw [Hr.out]; rfl, HK.out.top 2⟩
  have h_se : (((se : Nat) : Int) == ((se2 : Nat) : Int)) = true := beq_iff_eq.2 (by omega)
  by_cases c_pl : (fc, fb, fn) = (fc2, fb2, fn2)
  rotate_left
  · rw [decide_eq_false c_pl] at hP
    have Hr := Lib.hid (show r = false by rw [hr, decide_eq_false (fun h => c_pl (by simpa using (h.2.2.2.1))), Bool.false_and])
    clear hr c_pl c_kd c_ep c_se
    go_enter Tryz.func21, Tryz.ntmps21
    go_wp2_with fail
    go_ret
    exact ⟨by rw [Hr.out]; rfl, HK.out.top 2⟩
  rw [decide_eq_true c_pl] at hP
  by_cases c_cn : cn = cn2
  rotate_left
  · have h_cn : (((cn : Nat) : Int) == ((cn2 : Nat) : Int)) = false := beq_eq_false_iff_ne.2 (by omega)
    have Hr := Lib.hid (show r = false by rw [hr, decide_eq_false (fun h => c_cn (by simpa using (h.2.2.2.2.1))), Bool.false_and])
    clear hr c_cn c_kd c_ep c_se c_pl
    go_enter Tryz.func21, Tryz.ntmps21
    go_wp2_with fail
    go_ret
    exact ⟨by rw [Hr.out]; rfl, HK.out.top 2⟩
  have h_cn : (((cn : Nat) : Int) == ((cn2 : Nat) : Int)) = true := beq_iff_eq.2 (by omega)
  by_cases c_cl : cl = cl2
  rotate_left
  · have h_cl : (cl == cl2) = false := beq_eq_false_iff_ne.2 c_cl
    have Hr := Lib.hid (show r = false by rw [hr, decide_eq_false (fun h => c_cl (by simpa using (h.2.2.2.2.2.1))), Bool.false_and])
    clear hr c_cl c_kd c_ep c_se c_pl c_cn
    go_enter Tryz.func21, Tryz.ntmps21
    go_wp2_with fail
    go_ret
    exact ⟨by rw [Hr.out]; rfl, HK.out.top 2⟩
  have h_cl : (cl == cl2) = true := beq_iff_eq.2 c_cl
  by_cases c_sm : sm = sm2
  rotate_left
  · have h_sm : (((sm : Nat) : Int) == ((sm2 : Nat) : Int)) = false := beq_eq_false_iff_ne.2 (by omega)
    have Hr := Lib.hid (show r = false by rw [hr, decide_eq_false (fun h => c_sm (by simpa using (h.2.2.2.2.2.2))), Bool.false_and])
    clear hr c_sm c_kd c_ep c_se c_pl c_cn c_cl
    go_enter Tryz.func21, Tryz.ntmps21
    go_wp2_with fail
    go_ret
    exact ⟨by rw [Hr.out]; rfl, HK.out.top 2⟩
  have h_sm : (((sm : Nat) : Int) == ((sm2 : Nat) : Int)) = true := beq_iff_eq.2 (by omega)
  have Hr := Lib.hid (show r = sb by rw [hr, decide_eq_true ⟨c_kd, c_ep, c_se, c_pl, c_cn, c_cl, c_sm⟩, Bool.true_and])
  clear hr c_kd c_ep c_se c_pl c_cn c_cl c_sm
  go_enter Tryz.func21, Tryz.ntmps21
  go_wp2_with fail
  refine (HS.out _ (HK.out.top 2)).mono ?_
  rintro e w1 ⟨rfl, b1⟩
  have HK1 := Lib.hid (HK.out.go b1)
  clear b1
  go_wp2_with fail
  go_ret
  exact ⟨by rw [Hr.out]; rfl, HK1.out.top 2⟩

end Go.Proofs.YtnjcdihgaidlbaaGreatDoor

/- Layer 15: walk of SendTells. -/
set_option linter.unusedSimpArgs false
set_option linter.unusedVariables false
namespace Go.Proofs.YtnjcdihgaidlbaaGreatDoor
open Go.RowKit
set_option maxRecDepth 100000

theorem few_lay {sz k : Nat} {D : BD} (h : LaI sz k D) (hs : sz ≤ 24) : Few D := fun x L hL => by
  have hne := (h.ok.at_ x).ne
  rw [← cs_split hne] at hL
  rcases List.mem_append.1 hL with h1 | h1
  · have := h.full x L h1; omega
  · rw [List.mem_singleton] at h1
    have := h.last x
    rw [h1]; omega
theorem ne_blk {w : World} {g1 g2 : Nat} {t1 t2 : TypeId} {c1 c2 : Array Value} (k1 : Blk w g1 t1 c1) (k2 : Blk w g2 t2 c2) (h : t1 ≠ t2) : g1 ≠ g2 := fun e => by
  subst e
  have := Option.some.inj (k1.symm.trans k2)
  injection this with _ e2 _
  exact h e2
theorem ne_own {w : World} {g base : Nat} {t : TypeId} {c : Array Value} {v : Value} {l : List UInt8} (k : OwnB w base v l) (k1 : Blk w g t c) (h : 5 ≠ t) : v.ownBlock ≠ some g := fun e => by
  rcases k.2 with ⟨e0, _⟩ | ⟨g', cap, cur, e0, _, hgg, _⟩
  · rw [e0] at e; cases e
  · rw [e0] at e
    injection e with e
    exact ne_blk (show Blk w g' 5 cur from hgg) k1 h e
set_option maxHeartbeats 64000000 in
theorem sendTells_walk (wi si : Nat) (hwi : wi < 65536) (hsi : si < 256) (V : Option Addr) (c : Nat) (l : List OB) (w : World) (hV : Rw w encOB 17 V l) (hok : ∀ o ∈ l, OkOB o) (hT : Tab w) :
    Calls Tryz.prog 5 #[.int .u16 (wi : Nat), .int .u8 (si : Nat), .slice V l.length c] w fun e w' => e = .returned (.bool true) ∧ Below w.heap.size w w' := by
  have hmx : Tryz.prog.follows .mixedOrders = true := by kernel_rfl
  have HKn := Lib.hid (sknown_any w hT)
  obtain ⟨n, hn⟩ : ∃ n, n = l.length := ⟨_, rfl⟩
  rw [← hn]
  by_cases h60 : n ≤ 60
  case neg =>
    have k60 : (60 : Int) < (n : Int) := by omega
    clear hV hok hn hT
    go_enter Tryz.func5, Tryz.ntmps5
    go_wp2_with (go_at_call 8; refine HKn.out.mono ?_; rintro e w2 ⟨rfl, b2⟩)
    go_ret
    exact ⟨rfl, b2⟩
  have k60 : ¬ (60 : Int) < (n : Int) := by omega
  obtain ⟨sz, hsz⟩ : ∃ z, z = 1 + si % 24 := ⟨_, rfl⟩
  obtain ⟨bw, hbw⟩ : ∃ z, z = 1 + wi % 3000 := ⟨_, rfl⟩
  have hcv : (cfS wi 10 si).v = .agg #[.int .i64 64, .int .i64 1048576, .int .i64 (sz : Nat), .int .i64 (bw : Nat), .int .i64 11, .int .i64 1048576] := by rw [hsz, hbw]; rfl
  have HCf := Lib.hid (fun (W : World) => cfS_any wi 10 si hwi (by decide) hsi W)
  have HNew := Lib.hid (fun (w1 : World) (ts : List Kt) (h : Sep w.heap.size w w1 ts) => new_some (cfS wi 10 si) 1 (cfS_right wi 10 si) bw 11 (by rw [hbw]; rfl) rfl (by omega) (by decide) h)
  rw [hcv] at HCf HNew
  have hv1 : IntKind.i64.wrap ((sz : Int) - 1) = (sz : Int) - 1 := by rw [IntKind.wrap_i64]; omega
  have HLy := Lib.hid (fun (w1 : World) (X : SL) (S : SD) (ts : List Kt) (h : Sd w.heap.size w w1 X S ts) => sd_lay h hT (Nat.le_refl _) ((sz : Int) - 1) (by unfold in64; omega) V c l hV hok (by omega))
  rw [← hn] at HLy
  have HBw := Lib.hid (show 1 ≤ bw ∧ bw ≤ 3000 by omega)
  have hLa : LaI (laSz ((sz : Int) - 1)) l.length (laD (laSz ((sz : Int) - 1)) l) := by
    have h1 : 1 ≤ laSz ((sz : Int) - 1) ∧ laSz ((sz : Int) - 1) ≤ 24 := by unfold laSz; omega
    have := laD_ok h1.1 h1.2 l hok l.length (Nat.le_refl _) (by omega)
    rw [List.take_length] at this
    exact this
  have HFew := Lib.hid (few_lay hLa (by unfold laSz; omega))
  clear hV hok hn hsz hbw hcv hT hwi hsi h60 hLa
  go_enter Tryz.func5, Tryz.ntmps5
  go_upto_region 4 with (first | (go_at_call 8; refine HKn.out.mono ?_; rintro e w1 ⟨rfl, b1⟩) | (go_at_call 9; refine (HCf.out _).mono ?_; rintro e w2 ⟨rfl, b2⟩))
  have h2 := ((Sep.nil b1 b1.size).go b2).box #[.int .i64 64, .int .i64 1048576, .int .i64 (sz : Nat), .int .i64 (bw : Nat), .int .i64 11, .int .i64 1048576] 26
  generalize hV2 : World.alloc _ _ = V2 at h2 ⊢
  obtain ⟨g9, hg9⟩ : ∃ g, g = w2.heap.size := ⟨_, rfl⟩
  rw [← hg9] at h2 ⊢
  have D9 := cells_say (h2.blk 0) _ 0 rfl
  simp only [cellsSay, List.drop_zero, Nat.reduceAdd, and_true] at D9
  have HN := Lib.hid (HNew.out _ _ h2)
  clear hV2 hg9 h2 b1 b2 HKn HCf HNew
  go_upto_region 5 with (go_at_call 10; refine HN.out.mono ?_; rintro e w3 ⟨X, rfl, h3⟩)
  clear D9
  have D9 := cells_say (h3.blkAt 0) _ 0 rfl
  simp only [cellsSay, List.drop_zero, Nat.reduceAdd, and_true] at D9
  have HL := Lib.hid (HLy.out _ _ _ _ h3)
  clear h3 HLy HN
  go_upto_region 6 with (go_at_call 11; refine HL.out.mono ?_; rintro e w4 ⟨Y, T, A, cc, rfl, hTD, hYD, ok, h4⟩; simp only [prB])
  obtain ⟨D, hD⟩ : ∃ D, D = laD (laSz ((sz : Int) - 1)) l := ⟨_, rfl⟩
  rw [← hD] at hTD hYD HFew
  have hids : T.map (fun z => z.id) = D.M.map Prod.fst := by
    have := congrArg (List.map Prod.fst) hTD
    rw [List.map_map] at this
    rw [show (fun z : Se => z.id) = Prod.fst ∘ seD from rfl, this]
    unfold allD
    rw [List.map_map]
    rfl
  obtain ⟨tn, htn⟩ : ∃ n, n = T.length := ⟨_, rfl⟩
  rw [← htn] at h4 ⊢
  have hDk : OkD D := hYD ▸ ok.D
  have hok0 : OkSn D (newS bw 11 1) := okS_new D bw 11 1 HBw.out.1 (by have := HBw.out.2; omega) (by decide) (by decide)
  have hPu := pump_any h4 ok (by rw [hYD]; exact hok0)
  rw [hYD] at hPu
  simp only [prB] at hPu
  have HPu := Lib.hid hPu
  have HY := Lib.hid (And.intro hYD (And.intro ok (And.intro hDk hok0)))
  have HId := Lib.hid (And.intro hids htn)
  clear hTD hYD ok h4 hDk hok0 hPu HL hD htn D9 hv1 hids
  go_upto_region 9 with (go_at_call 12; refine HPu.out.mono ?_; rintro e w5 ⟨U5, c5, T5, rfl, hT5, h5⟩)
  have hTel := tel_main HY.out.2.2.1 HFew.out bw 11 HBw.out
  obtain ⟨S1, hS1⟩ : ∃ S, S = (pumpD D (newS bw 11 1)).1 := ⟨_, rfl⟩
  obtain ⟨F, hF⟩ : ∃ F, F = (pumpD D (newS bw 11 1)).2 := ⟨_, rfl⟩
  have hok1 : OkSn D S1 := by rw [hS1]; exact HY.out.2.2.2.pump HY.out.2.2.1
  rw [← hS1] at h5 hTel
  rw [← hF] at hT5 hTel
  obtain ⟨fz, hfz⟩ : ∃ n, n = T5.length := ⟨_, rfl⟩
  rw [← hfz] at h5 ⊢
  have hfl : fz = F.length := by rw [hfz, ← hT5, List.length_map]
  obtain ⟨L, hL⟩ : ∃ L, L = chT (.slice U5 fz c5) T5 ++ (laT (.slice A tn cc) T ++ [thB g9 26 #[.int .i64 64, .int .i64 1048576, .int .i64 (sz : Nat), .int .i64 (bw : Nat), .int .i64 11, .int .i64 1048576]]) := ⟨_, rfl⟩
  have h5b : Sd w.heap.size w w5 X S1 (thBk Y :: L) := by rw [hL]; exact h5
  have HMem := Lib.hid (show thR 46 encFrE 11 (.slice U5 fz c5) T5 ∈ L ∧ (∀ y ∈ T5, frB y ∈ L) ∧ thR 60 encSe 2 (.slice A tn cc) T ∈ L ∧ thB g9 26 #[.int .i64 64, .int .i64 1048576, .int .i64 (sz : Nat), .int .i64 (bw : Nat), .int .i64 11, .int .i64 1048576] ∈ L by
    rw [hL]
    refine ⟨by simp [chT], fun y hy => ?_, by simp [chT, laT], by simp⟩
    exact List.mem_append.2 (.inl (List.mem_cons_of_mem _ (List.mem_map_of_mem hy))))
  obtain ⟨K, hK⟩ : ∃ K, K = T.map (fun z => z.id) := ⟨_, rfl⟩
  have hKk : ∀ x, (lookM D.M x).isSome → x ∈ K := fun x hx => by
    obtain ⟨a, ha⟩ := look_key hx
    rw [hK, HId.out.1]
    exact List.mem_map_of_mem (f := Prod.fst) ha
  have hKn : K.Nodup := by rw [hK, HId.out.1]; exact HY.out.2.2.1.nd
  have hKi : ∀ (i : Nat) (z : Se), T[i]? = some z → z.id < 4294967296 ∧ (lookM D.M z.id).isSome ∧ K[i]? = some z.id := fun i z hz => by
    have h1 : K[i]? = some z.id := by rw [hK, List.getElem?_map, hz]; rfl
    have h2 : z.id ∈ D.M.map Prod.fst := by rw [← HId.out.1, ← hK]; exact List.mem_of_getElem? h1
    obtain ⟨q, hq, e⟩ := List.mem_map.1 h2
    refine ⟨by rw [← e]; exact HY.out.2.2.1.key q hq, ?_, h1⟩
    rw [← e, lookM_of_mem HY.out.2.2.1.nd hq]
    rfl
  have H5 := Lib.hid (And.intro h5b (And.intro hok1 (And.intro hTel (And.intro hT5 (And.intro hfl (And.intro hKk (And.intro hKn hKi)))))))
  have hKl0 : K.length = tn := by rw [hK, List.length_map, HId.out.2]
  have htn64 : tn ≤ 64 := by
    have h1 := congrArg List.length HId.out.1
    rw [List.length_map, List.length_map, ← HId.out.2] at h1
    have h2 := HY.out.2.2.1.few
    have h3 := HY.out.2.2.1.mo2
    omega
  have hfz1 : fz ≤ 10000 := by rw [hfl]; exact hTel.len
  have HTn := Lib.hid HId.out.2
  have HKl := Lib.hid hKl0
  clear h5 h5b hT5 hS1 hF hok1 hTel hfz hfl hL hK hKk hKn hKi hKl0 HPu
  go_upto_region 11 with fail
  go_loopw [12, 13, 14, 15, 16, 17, 18] (fun s12 s13 s14 s15 s16 s17 s18 wr => ∃ (i : Nat) (v : Int), s13 = .int .i64 (i : Nat) ∧ i ≤ tn ∧ s12 = .int .i64 v ∧ 0 ≤ v ∧ v ≤ 7000 ∧ Hid (v = sumIn (fun x => decide (x ∈ K.take i)) F ∧ Sd w.heap.size w wr X S1 (thBk Y :: L)))
    (fun _ s13 _ _ _ _ _ _ => tn - (intOf s13).toNat)
  case atStart => exact ⟨0, 0, by go_num, Nat.zero_le _, rfl, by omega, by omega, Lib.hid ⟨(sumIn_none (fun x => by simp) F).symm, H5.out.1⟩⟩
  case round =>
    obtain ⟨i, v, rfl, hi, rfl, hv1, hv2, HI⟩ := hrel
    obtain ⟨wo, hwo⟩ : ∃ wo, wo = wr := ⟨_, rfl⟩
    rw [← hwo] at HI ⊢
    clear hwo
    by_cases hit : i < tn
    · obtain ⟨z, hz⟩ : ∃ z, T[i]? = some z := ⟨_, List.getElem?_eq_getElem (by rw [← HTn.out]; exact hit)⟩
      obtain ⟨id, hid⟩ : ∃ x, x = z.id := ⟨_, rfl⟩
      have hzi := H5.out.2.2.2.2.2.2.2 i z hz
      rw [← hid] at hzi
      have hit2 : (i : Int) < (tn : Int) := by omega
      have h1 := HI.out.2.box #[.int .u32 ((0 : Nat) : Int), .int .u32 ((0 : Nat) : Int), .int .u32 ((0 : Nat) : Int)] 40
      have HZ := Lib.hid (And.intro hz (And.intro hid hzi))
      have id32 := hzi.1
      clear hz hid hzi
      go_upto_region 15 with fail
      generalize hV1 : World.alloc _ _ = V1 at h1 ⊢
      obtain ⟨g14, hg14⟩ : ∃ g, g = wo.heap.size := ⟨_, rfl⟩
      rw [← hg14] at h1 ⊢
      have H1 := Lib.hid h1
      clear hV1 hg14 h1
      go_loopw [12, 15, 16, 17, 18] (fun s12 s15 s16 s17 s18 wi => ∃ (k : Nat) (u : Int) (p : Pl), s15 = .int .i64 (k : Nat) ∧ k ≤ fz ∧ s12 = .int .i64 u ∧ 0 ≤ u ∧ u ≤ 7000 ∧ Hid (u = v + sumIn (fun x => decide (x = id)) (F.take k) ∧ p = atF id (D.at_ id) (F.take k) (0, 0, 0) ∧ hasC (D.at_ id) p.1 p.2.1 p.2.2 = true ∧ OkPl p ∧ Sd w.heap.size w wi X S1 (thB g14 40 #[.int .u32 (p.1 : Nat), .int .u32 (p.2.1 : Nat), .int .u32 (p.2.2 : Nat)] :: thBk Y :: L)))
        (fun _ s15 _ _ _ _ => fz - (intOf s15).toNat)
      case atStart => exact ⟨0, v, (0, 0, 0), by go_num, Nat.zero_le _, rfl, hv1, hv2, Lib.hid ⟨(Int.add_zero v).symm, rfl, has_first (HY.out.2.2.1.at_ id), okPl0, H1.out⟩⟩
      case round =>
        obtain ⟨k, u, ⟨p1, p2, p3⟩, rfl, hk, rfl, hu1, hu2, HJ⟩ := hrel
        obtain ⟨wi, hwi⟩ : ∃ wi, wi = wr := ⟨_, rfl⟩
        rw [← hwi] at HJ ⊢
        clear hwi
        by_cases hkf : k < fz
        · have hkk : (k : Int) < (fz : Int) := by omega
          obtain ⟨y, hy⟩ : ∃ y, T5[k]? = some y := ⟨_, List.getElem?_eq_getElem (by
            have := congrArg List.length H5.out.2.2.2.1
            rw [List.length_map] at this
            have := H5.out.2.2.2.2.1
            omega)⟩
          have hyF : F[k]? = some y.f := by rw [← H5.out.2.2.2.1, List.getElem?_map, hy]; rfl
          have hm1 := List.mem_cons_of_mem (thB g14 40 #[.int .u32 (p1 : Nat), .int .u32 (p2 : Nat), .int .u32 (p3 : Nat)]) (List.mem_cons_of_mem (thBk Y) HMem.out.1)
          have hm3 := List.mem_cons_of_mem (thB g14 40 #[.int .u32 (p1 : Nat), .int .u32 (p2 : Nat), .int .u32 (p3 : Nat)]) (List.mem_cons_of_mem (thBk Y) HMem.out.2.2.1)
          obtain ⟨gr, hgr, -, -⟩ := row_at Tryz.eltSe (HJ.out.2.2.2.2.sep.get (t := thR 60 encSe 2 (.slice A tn cc) T) hm3) HZ.out.1
          subst hgr
          obtain ⟨gf, hgf, -, -⟩ := row_at Tryz.eltFrE (HJ.out.2.2.2.2.sep.get (t := thR 46 encFrE 11 (.slice U5 fz c5) T5) hm1) hy
          subst hgf
          have hC1 : ∀ (W : World) (b : Below wi.heap.size wi W), W.cell? ⟨gr, i * 2, none⟩ = some (.int .u32 (id : Nat)) := fun W b => by
            have := row_cellE Tryz.eltSe ((HJ.out.2.2.2.2.go b).sep.get (t := thR 60 encSe 2 (.slice (some ⟨gr, 0, none⟩) tn cc) T) hm3) HZ.out.1 0 _ rfl
            rw [← HZ.out.2.1] at this
            exact this
          have hCf : ∀ (W : World) (b : Below wi.heap.size wi W) (j : Nat) (q : Value), (encFrE y)[j]? = some q → W.cell? ⟨gf, k * 11 + j, none⟩ = some q := fun W b j q hj => row_cellE Tryz.eltFrE ((HJ.out.2.2.2.2.go b).sep.get (t := thR 46 encFrE 11 (.slice (some ⟨gf, 0, none⟩) fz c5) T5) hm1) hy j q hj
          have C1 := fun (y : More) => hC1 _ (plus_below wi y)
          have C2 : ∀ y9 : More, (plus wi y9).cell? ⟨gf, k * 11 + 2, none⟩ = some (.int .u32 (y.f.se : Nat)) := fun y9 => hCf _ (plus_below wi y9) 2 _ rfl
          have HCC := Lib.hid (And.intro hC1 hCf)
          have Hy := Lib.hid (And.intro hy hyF)
          clear hm1 hm3 hC1 hCf hy hyF
          have hat := atF_succ (x := id) (C := D.at_ id) (p := (0, 0, 0)) Hy.out.2
          have hsu := sumIn_succ (fun x => decide (x = id)) Hy.out.2
          rw [← HJ.out.2.1] at hat
          by_cases hse : y.f.se = id
          case neg =>
            have kq := (neI y.f.se id).trans (decide_eq_true hse)
            rw [if_neg hse] at hat
            rw [decide_eq_false hse, if_neg (by decide), Int.add_zero] at hsu
            have HAt := Lib.hid (And.intro hat hsu)
            clear hat hsu hse
            go_upto_region 17 with fail
            refine wp_region_ext (by kernel_rfl) (by kernel_rfl) ?_
            repeat (go_big_quiet_step (fail))
            refine wpQuiet_nil ?_
            rintro w8 ⟨y9, rfl⟩
            have h8 := HJ.out.2.2.2.2.go (plus_below wi y9)
            generalize plus wi y9 = W8 at h8 ⊢
            have H8 := Lib.hid h8
            clear C1 C2 h8 kq
            go_wp2_with fail
            go_roundw
            case measure => simp [intOf]; omega
            case rel => exact ⟨k + 1, u, (p1, p2, p3), by go_num, by omega, rfl, hu1, hu2, Lib.hid ⟨by rw [HAt.out.2]; exact HJ.out.1, HAt.out.1.symm, HJ.out.2.2.1, HJ.out.2.2.2.1, H8.out⟩⟩
          case pos =>
            have kq := (neI y.f.se id).trans (decide_eq_false (fun e => e hse))
            rw [if_pos hse] at hat
            rw [decide_eq_true hse, if_pos rfl] at hsu
            have hof := okF_at (H5.out.2.2.1.ok id HZ.out.2.2.2.1) Hy.out.2 hse
            rw [← HJ.out.2.1] at hof
            have hcs := cut_of HY.out.2.2.1 hof.1
            obtain ⟨R, hR⟩ : ∃ R, R = cutS id (D.at_ id) (p1, p2, p3) 1024 := ⟨_, rfl⟩
            unfold nextP at hat
            rw [← hR] at hof hcs hat
            obtain ⟨⟨kd, ep, se, fc, fb, fn, cn, cl, sm, fl, nn⟩, ⟨t1, t2, t3⟩, er⟩ := R
            have e1 : se = id := hcs.se
            have e2 := hcs.from_
            have e3 : er = 0 := hcs.er
            simp only [Prod.mk.injEq] at e2
            obtain ⟨e21, e22, e23⟩ := e2
            subst e1 e21 e22 e23 e3
            have hCt := fun (W : World) (b : Below wi.heap.size wi W) => bCut_any (RdK.of ((HJ.out.2.2.2.2.go b).sep.at_ (t := thBk Y) 1 rfl)) HY.out.2.1 se id32 fc fb fn 1024 HJ.out.2.2.2.1.1 HJ.out.2.2.2.1.2.1 HJ.out.2.2.2.1.2.2 (by unfold in64; omega)
            rw [HY.out.1, show cutF se (D.at_ se) fc fb fn 1024 = _ from hR.symm] at hCt
            have HCt := Lib.hid hCt
            have hnn : 0 ≤ nn := hcs.n0
            have hyf : y.f = ⟨2, 1, se, fc, fb, fn, cn, cl, sm, fl, nn⟩ := hof.2
            have hsm : u + nn ≤ 7000 := by
              have h1 := hsu
              rw [hyf] at h1
              have h2 := sumIn_take (fun x => decide (x = se)) H5.out.2.2.1.nn (k + 1)
              have h3 := HJ.out.1
              have hti : K.take (i + 1) = K.take i ++ [se] := by rw [List.take_add_one, HZ.out.2.2.2.2]; rfl
              have hni : se ∉ K.take i := fun hm => by
                have h1 := H5.out.2.2.2.2.2.2.1
                rw [← List.take_append_drop (i + 1) K, hti, List.append_assoc] at h1
                exact (List.nodup_append.1 h1).2.2 se hm se (by simp) rfl
              have h4 := sumIn_or (q := fun x => decide (x ∈ K.take i)) (r := fun x => decide (x ∈ K.take (i + 1))) (s := fun x => decide (x = se)) (fun x => by rw [hti, Bool.eq_iff_iff]; simp) (fun x hx => decide_eq_false (fun e => hni (e ▸ of_decide_eq_true hx))) F
              have h5 := (sumIn_in (fun x => decide (x ∈ K.take (i + 1))) H5.out.2.2.1.nn).2
              have h6 := H5.out.2.2.1.few
              have h7 := HBw.out
              have h8 := HI.out.1
              dsimp only at h1
              omega
            have HAt := Lib.hid (And.intro hat (And.intro hsu (And.intro hcs hyf)))
            have D14 := fun (y : More) => cells_say ((HJ.out.2.2.2.2.go (plus_below wi y)).blkAt 0) _ 0 rfl
            simp only [cellsSay, List.drop_zero, Nat.reduceAdd, and_true] at D14
            clear hat hsu hcs hof hR hCt hyf hse
            go_upto_region 17 with fail
            refine wp_region_ext (by kernel_rfl) (by kernel_rfl) ?_
            repeat (go_big_quiet_step (fail))
            refine wpQuiet_nil ?_
            rintro w8 ⟨y9, rfl⟩
            go_upto_region 18 with fail
            have h8 := HJ.out.2.2.2.2.go (plus_below wi y9)
            have b8 := plus_below wi y9
            generalize plus wi y9 = W8 at h8 b8 ⊢
            clear C1 C2 D14 kq
            have C1 := fun (y : More) => HCC.out.1 (plus W8 y) (b8.trans ((plus_below W8 y).mono b8.size))
            have C2 := fun (y : More) => cells_say ((h8.go (plus_below W8 y)).blkAt 0) _ 0 rfl
            simp only [cellsSay, List.drop_zero, Nat.reduceAdd, and_true] at C2
            have HCt8 := Lib.hid (fun (W : World) (b : Below W8.heap.size W8 W) => HCt.out W (b8.trans (b.mono b8.size)))
            have H8 := Lib.hid (And.intro h8 b8)
            clear h8 b8 HCt
            refine wp_region_frw [none, none, none, none, none, none, none, none, none, none, none, none, none, none, some 12, some 13] [3, 7, 12, 13] [14, 15] (fun k lo v z => if k = 3 then v = .pointer (some ⟨gr, i * 2, none⟩) else if k = 7 then ∃ (A3 : Option Addr) (c3 : Nat), v = .tuple #[.agg #[.int .u8 ((kd : Nat) : Int), .int .u32 ((ep : Nat) : Int), .int .u32 ((se : Nat) : Int), .int .u32 ((fc : Nat) : Int), .int .u32 ((fb : Nat) : Int), .int .u32 ((fn : Nat) : Int), .int .u32 ((cn : Nat) : Int), .bool cl, .int .u64 ((sm : Nat) : Int), .slice A3 fl.length c3, .int .i64 nn], plV t1 t2 t3, .int .u16 (0 : Int)] ∧ OwnB z lo (.slice A3 fl.length c3) fl
              else if k = 12 then v = .pointer (some ⟨lo, 0, none⟩) ∧ z.heap.size = lo + 1 ∧ Blk z lo 46 #[.int .u8 0, .int .u32 0, .int .u32 0, .int .u32 0, .int .u32 0, .int .u32 0, .int .u32 0, .bool false, .int .u64 0, .slice none 0 0, .int .i64 0]
              else v = .pointer (some ⟨lo, 0, none⟩) ∧ z.heap.size = lo + 1 ∧ Blk z lo 40 #[.int .u32 0, .int .u32 0, .int .u32 0]) hmx (by kernel_rfl) ?_
            iterate 3 (refine walkH_one rfl rfl (by kernel_rfl) ?_; go_big_quiet_step (fail); refine wpQuiet_nil ?_)
            refine walkH_make rfl rfl (by kernel_rfl) (fun x => ?_) ?_
            · refine grow_val (v := .pointer (some ⟨gr, i * 2, none⟩)) (w' := plus W8 x) ?_ (Below.refl _ _) rfl
              simp [execOp, go_sem, hit2]
            rintro V1 lo1 z1 rfl hlo1 hz1 hbw1
            conv => arg 12; simp [Act.put]
            iterate 3 (refine walkH_one rfl rfl (by kernel_rfl) ?_; go_big_quiet_step (fail); refine wpQuiet_nil ?_)
            refine walkH_make rfl rfl (by kernel_rfl) (fun x => ?_) ?_
            · refine grow_call ?_ ((HCt8.out _ (plus_below W8 x)).mono ?_)
              · simp [execOp, go_sem]
              · rintro e w4 ⟨⟨A3, c3, rfl, o3⟩, b4⟩
                exact ⟨_, rfl, b4, A3, c3, rfl, o3⟩
            rintro V9 lo9 z9 ⟨A3, c3, rfl, o3⟩ hlo9 hz9 hb9
            conv => arg 12; simp [Act.put]
            iterate 4 (refine walkH_one rfl rfl (by kernel_rfl) ?_; go_big_quiet_step (fail); refine wpQuiet_nil ?_)
            refine walkH_make rfl rfl (by kernel_rfl) (fun x => ?_) ?_
            · exact grow_alloc (by simp [execOp, go_sem]) ⟨rfl, by simp, Blk.new _ _ _⟩
            rintro V12 lo12 z12 ⟨rfl, hs12, hb12⟩ hlo12 hz12 hbw12
            conv => arg 12; simp [Act.put]
            refine walkH_make rfl rfl (by kernel_rfl) (fun x => ?_) ?_
            · exact grow_alloc (by simp [execOp, go_sem]) ⟨rfl, by simp, Blk.new _ _ _⟩
            rintro V13 lo13 z13 ⟨rfl, hs13, hb13⟩ hlo13 hz13 hbw13
            conv => arg 12; simp [Act.put]
            refine walkH_store rfl rfl (j := 12) rfl (by kernel_rfl) (fun W hW hA => ?_)
            have hB : Blk W lo12 46 #[.int .u8 0, .int .u32 0, .int .u32 0, .int .u32 0, .int .u32 0, .int .u32 0, .int .u32 0, .bool false, .int .u64 0, .slice none 0 0, .int .i64 0] := Agr.blk (s := ⟨z12, lo12, z12.heap.size⟩) hA hb12 (Nat.le_refl _) (by rw [hs12]; exact Nat.lt_succ_self _)
            have hcs := cells_say hB _ 0 rfl
            simp only [cellsSay, List.drop_zero, Nat.reduceAdd, and_true] at hcs
            refine ⟨sets W lo12 [(0, .int .u8 ((kd : Nat) : Int)), (1, .int .u32 ((ep : Nat) : Int)), (2, .int .u32 ((se : Nat) : Int)), (3, .int .u32 ((fc : Nat) : Int)), (4, .int .u32 ((fb : Nat) : Int)), (5, .int .u32 ((fn : Nat) : Int)), (6, .int .u32 ((cn : Nat) : Int)), (7, .bool cl), (8, .int .u64 ((sm : Nat) : Int)), (9, .slice A3 fl.length c3), (10, .int .i64 nn)], by simp [execOp, go_sem, hcs, sets],
              (((((((((((storeUpon.same W _).cell _ _ (Nat.le_refl _) (show lo12 < z12.heap.size by omega)).cell _ _ (Nat.le_refl _) (show lo12 < z12.heap.size by omega)).cell _ _ (Nat.le_refl _) (show lo12 < z12.heap.size by omega)).cell _ _ (Nat.le_refl _) (show lo12 < z12.heap.size by omega)).cell _ _ (Nat.le_refl _) (show lo12 < z12.heap.size by omega)).cell _ _ (Nat.le_refl _) (show lo12 < z12.heap.size by omega)).cell _ _ (Nat.le_refl _) (show lo12 < z12.heap.size by omega)).cell _ _ (Nat.le_refl _) (show lo12 < z12.heap.size by omega)).cell _ _ (Nat.le_refl _) (show lo12 < z12.heap.size by omega)).cell _ _ (Nat.le_refl _) (show lo12 < z12.heap.size by omega)).cell _ _ (Nat.le_refl _) (show lo12 < z12.heap.size by omega), fun hbz14 => ?_⟩
            have hb14 := hB.sets [(0, .int .u8 ((kd : Nat) : Int)), (1, .int .u32 ((ep : Nat) : Int)), (2, .int .u32 ((se : Nat) : Int)), (3, .int .u32 ((fc : Nat) : Int)), (4, .int .u32 ((fb : Nat) : Int)), (5, .int .u32 ((fn : Nat) : Int)), (6, .int .u32 ((cn : Nat) : Int)), (7, .bool cl), (8, .int .u64 ((sm : Nat) : Int)), (9, .slice A3 fl.length c3), (10, .int .i64 nn)]
            generalize sets W lo12 _ = z14 at *
            clear hA hB hcs hW
            conv => arg 12; simp [Act.put]
            refine walkH_store rfl rfl (j := 13) rfl (by kernel_rfl) (fun W hW hA => ?_)
            have hB : Blk W lo13 40 #[.int .u32 0, .int .u32 0, .int .u32 0] := Agr.blk (s := ⟨z13, lo13, z13.heap.size⟩) hA hb13 (Nat.le_refl _) (by rw [hs13]; exact Nat.lt_succ_self _)
            have hcs := cells_say hB _ 0 rfl
            simp only [cellsSay, List.drop_zero, Nat.reduceAdd, and_true] at hcs
            refine ⟨sets W lo13 [(0, .int .u32 ((t1 : Nat) : Int)), (1, .int .u32 ((t2 : Nat) : Int)), (2, .int .u32 ((t3 : Nat) : Int))], by simp [execOp, go_sem, hcs, sets],
              (((storeUpon.same W _).cell _ _ (Nat.le_refl _) (show lo13 < z13.heap.size by omega)).cell _ _ (Nat.le_refl _) (show lo13 < z13.heap.size by omega)).cell _ _ (Nat.le_refl _) (show lo13 < z13.heap.size by omega), fun hbz15 => ?_⟩
            have hb15 := hB.sets [(0, .int .u32 ((t1 : Nat) : Int)), (1, .int .u32 ((t2 : Nat) : Int)), (2, .int .u32 ((t3 : Nat) : Int))]
            generalize sets W lo13 _ = z15 at *
            clear hA hB hcs hW
            conv => arg 12; simp [Act.put]
            refine walkH_one rfl rfl (by kernel_rfl) ?_; go_big_quiet_step (fail); refine wpQuiet_nil ?_
            refine walkH_end ?_
            intro W9 hR
            have k9 : OwnB W9 lo9 (.slice A3 fl.length c3) fl := Agr.own (s := ⟨z9, lo9, z9.heap.size⟩) (hR.agr 7) o3 rfl
            have k12 : Blk W9 lo12 46 #[.int .u8 ((kd : Nat) : Int), .int .u32 ((ep : Nat) : Int), .int .u32 ((se : Nat) : Int), .int .u32 ((fc : Nat) : Int), .int .u32 ((fb : Nat) : Int), .int .u32 ((fn : Nat) : Int), .int .u32 ((cn : Nat) : Int), .bool cl, .int .u64 ((sm : Nat) : Int), .slice A3 fl.length c3, .int .i64 nn] := Agr.blk (s := ⟨z14, lo12, z12.heap.size⟩) (hR.agr 12) hb14 (Nat.le_refl _) (by rw [hs12]; exact Nat.lt_succ_self _)
            have k13 : Blk W9 lo13 40 #[.int .u32 ((t1 : Nat) : Int), .int .u32 ((t2 : Nat) : Int), .int .u32 ((t3 : Nat) : Int)] := Agr.blk (s := ⟨z15, lo13, z13.heap.size⟩) (hR.agr 13) hb15 (Nat.le_refl _) (by rw [hs13]; exact Nat.lt_succ_self _)
            have kb := hR.base
            have n9 : W8.heap.size ≤ lo9 := hlo9
            have n12 : W8.heap.size ≤ lo12 := hlo12
            have n13 : W8.heap.size ≤ lo13 := hlo13
            clear hR hb15 hb14 hb13 hb12 hbz14 hbz15 hbw12 hbw13 hb9 o3 hz9 hz12 hz13 hs12 hs13 hlo9 hlo12 hlo13
            obtain ⟨F8, q8, hs8⟩ := H8.out.1
            have h9 : Sd w.heap.size w W9 X S1 (thO (.slice A3 fl.length c3) fl :: thB lo12 46 #[.int .u8 ((kd : Nat) : Int), .int .u32 ((ep : Nat) : Int), .int .u32 ((se : Nat) : Int), .int .u32 ((fc : Nat) : Int), .int .u32 ((fb : Nat) : Int), .int .u32 ((fn : Nat) : Int), .int .u32 ((cn : Nat) : Int), .bool cl, .int .u64 ((sm : Nat) : Int), .slice A3 fl.length c3, .int .i64 nn] :: thB lo13 40 #[.int .u32 ((t1 : Nat) : Int), .int .u32 ((t2 : Nat) : Int), .int .u32 ((t3 : Nat) : Int)] :: thB g14 40 #[.int .u32 (fc : Nat), .int .u32 (fb : Nat), .int .u32 (fn : Nat)] :: thBk Y :: L) := ⟨F8, q8, (hs8.own2 kb k9 n9 k12 k13 n12 n13 (ne_blk k12 k13 (by decide)) (ne_own k9 k12 (by decide)) (ne_own k9 k13 (by decide))).permB (front6 (us := [_, _, _]))⟩
            have H9 := Lib.hid (And.intro h9 (And.intro kb n12))
            have D12 := cells_say k12 _ 0 rfl
            simp only [cellsSay, List.drop_zero, Nat.reduceAdd, and_true] at D12
            clear C1 C2 h9 hs8 k9 k12 k13 kb n9 n12 n13 HCt8
            try clear hbw1 hlo1 hz1
            go_upto_region 21 with fail
            generalize hWx : World.setCell _ _ _ = W10
            have h10 := H9.out.1.put_ 1 lo12 [(0, .int .u8 2), (1, .int .u32 1)] #[.int .u8 2, .int .u32 1, .int .u32 ((se : Nat) : Int), .int .u32 ((fc : Nat) : Int), .int .u32 ((fb : Nat) : Int), .int .u32 ((fn : Nat) : Int), .int .u32 ((cn : Nat) : Int), .bool cl, .int .u64 ((sm : Nat) : Int), .slice A3 fl.length c3, .int .i64 nn] hWx
            simp only [List.set] at h10
            have b10 : Below wi.heap.size wi W10 := H8.out.2.trans ((show Below W8.heap.size W8 W10 by rw [← hWx]; exact (H9.out.2.1.setCell H9.out.2.2 _).setCell H9.out.2.2 _).mono H8.out.2.size)
            clear hWx D12 H9
            obtain ⟨yf, yA, yc⟩ := y
            have hyf : yf = ⟨2, 1, se, fc, fb, fn, cn, cl, sm, fl, nn⟩ := HAt.out.2.2.2
            subst hyf
            have hGf := fun (y9 : More) => HCC.out.2 (plus W10 y9) (b10.trans ((plus_below W10 y9).mono b10.size))
            have G0 : ∀ y9 : More, (plus W10 y9).cell? ⟨gf, k * 11, none⟩ = some (.int .u8 2) := fun y9 => hGf y9 0 _ rfl
            have G1 : ∀ y9 : More, (plus W10 y9).cell? ⟨gf, k * 11 + 1, none⟩ = some (.int .u32 1) := fun y9 => hGf y9 1 _ rfl
            have G2 : ∀ y9 : More, (plus W10 y9).cell? ⟨gf, k * 11 + 2, none⟩ = some (.int .u32 ((se : Nat) : Int)) := fun y9 => hGf y9 2 _ rfl
            have G3 : ∀ y9 : More, (plus W10 y9).cell? ⟨gf, k * 11 + 3, none⟩ = some (.int .u32 ((fc : Nat) : Int)) := fun y9 => hGf y9 3 _ rfl
            have G4 : ∀ y9 : More, (plus W10 y9).cell? ⟨gf, k * 11 + 4, none⟩ = some (.int .u32 ((fb : Nat) : Int)) := fun y9 => hGf y9 4 _ rfl
            have G5 : ∀ y9 : More, (plus W10 y9).cell? ⟨gf, k * 11 + 5, none⟩ = some (.int .u32 ((fn : Nat) : Int)) := fun y9 => hGf y9 5 _ rfl
            have G6 : ∀ y9 : More, (plus W10 y9).cell? ⟨gf, k * 11 + 6, none⟩ = some (.int .u32 ((cn : Nat) : Int)) := fun y9 => hGf y9 6 _ rfl
            have G7 : ∀ y9 : More, (plus W10 y9).cell? ⟨gf, k * 11 + 7, none⟩ = some (.bool cl) := fun y9 => hGf y9 7 _ rfl
            have G8 : ∀ y9 : More, (plus W10 y9).cell? ⟨gf, k * 11 + 8, none⟩ = some (.int .u64 ((sm : Nat) : Int)) := fun y9 => hGf y9 8 _ rfl
            have G9 : ∀ y9 : More, (plus W10 y9).cell? ⟨gf, k * 11 + 9, none⟩ = some (.slice yA fl.length yc) := fun y9 => hGf y9 9 _ rfl
            have G10 : ∀ y9 : More, (plus W10 y9).cell? ⟨gf, k * 11 + 10, none⟩ = some (.int .i64 nn) := fun y9 => hGf y9 10 _ rfl
            have D12 := fun (y : More) => cells_say ((h10.go (plus_below W10 y)).blkAt 1) _ 0 rfl
            have D14 := fun (y : More) => cells_say ((h10.go (plus_below W10 y)).blkAt 3) _ 0 rfl
            simp only [cellsSay, List.drop_zero, Nat.reduceAdd, and_true] at D12 D14
            have hbits : ∀ y9 : More, Bs (plus W10 y9) yA fl := fun y9 => OwnB.bs ((h10.go (plus_below W10 y9)).sep.get (t := frB ⟨⟨2, 1, se, fc, fb, fn, cn, cl, sm, fl, nn⟩, yA, yc⟩) (by
              have h1 := HMem.out.2.1 _ (List.mem_of_getElem? Hy.out.1)
              simp only [List.mem_cons]
              exact .inr (.inr (.inr (.inr (.inr h1))))))
            have hSa := fun (y9 : More) => rfsame_any ⟨2, 1, se, fc, fb, fn, cn, cl, sm, fl, nn⟩ ⟨2, 1, se, fc, fb, fn, cn, cl, sm, fl, nn⟩ A3 yA c3 yc (plus W10 y9) (OwnB.bs ((h10.go (plus_below W10 y9)).sep.at_ (t := thO (.slice A3 fl.length c3) fl) 0 rfl)) (hbits y9)
            rw [(sameF_iff _ _).2 rfl] at hSa
            simp only [frC] at hSa
            have HSa := Lib.hid hSa
            have hQ : ∀ w, (binOp .neq 40 (.agg #[.int .u32 (fc : Nat), .int .u32 (fb : Nat), .int .u32 (fn : Nat)]) (.agg #[.int .u32 (fc : Nat), .int .u32 (fb : Nat), .int .u32 (fn : Nat)])).run Tryz.prog w = .ok (.bool false) w := fun w => by
              rw [nePlB_run fc fb fn fc fb fn w, decide_eq_true rfl]
              rfl
            have H10 := Lib.hid h10
            have e00 : ((0 : Nat) : Int) = 0 := rfl
            clear hGf hbits hSa h10 b10
            refine wp_region_ext (by kernel_rfl) (by kernel_rfl) ?_
            repeat (go_big_quiet_step ((go_at_call 21; exact ext_of (HSa.out _))))
            refine wpQuiet_nil ?_
            rintro w11 ⟨y9, rfl⟩
            have h11 := H10.out.go (plus_below W10 y9)
            generalize plus W10 y9 = W11 at h11 ⊢
            clear G0 G1 G2 G3 G4 G5 G6 G7 G8 G9 G10 D12 D14 hQ HSa
            have D12 := cells_say (h11.blkAt 1) _ 0 rfl
            have D13 := cells_say (h11.blkAt 2) _ 0 rfl
            have D14 := cells_say (h11.blkAt 3) _ 0 rfl
            simp only [cellsSay, List.drop_zero, Nat.reduceAdd, and_true] at D12 D13 D14
            have hwn : IntKind.i64.wrap (u + nn) = u + nn := by rw [IntKind.wrap_i64]; omega
            have H11 := Lib.hid h11
            clear h11 H10
            go_upto_region 24 with fail
            generalize hWx : World.setCell _ _ _ = W12
            have h12 := H11.out.put_ 3 g14 [(0, .int .u32 ((t1 : Nat) : Int)), (1, .int .u32 ((t2 : Nat) : Int)), (2, .int .u32 ((t3 : Nat) : Int))] #[.int .u32 ((t1 : Nat) : Int), .int .u32 ((t2 : Nat) : Int), .int .u32 ((t3 : Nat) : Int)] hWx
            simp only [List.set] at h12
            clear hWx D12 D13 D14 H11
            have D12 := cells_say (h12.blkAt 1) _ 0 rfl
            simp only [cellsSay, List.drop_zero, Nat.reduceAdd, and_true] at D12
            have H12 := Lib.hid h12
            clear h12
            go_wp2_with fail
            go_roundw
            case measure => simp [intOf]; omega
            case rel =>
              refine ⟨k + 1, u + nn, (t1, t2, t3), by go_num, by omega, rfl, by omega, by omega, Lib.hid ⟨?_, HAt.out.1.symm, HAt.out.2.2.1.to_, HAt.out.2.2.1.okto, H12.out.tail.tail.tail⟩⟩
              have h1 := HAt.out.2.1
              have h2 := HJ.out.1
              dsimp only at h1
              rw [h1, h2]
              omega
        · have hkk : ¬ (k : Int) < (fz : Int) := by omega
          have hFk : F.take k = F := List.take_of_length_le (by have := H5.out.2.2.2.2.1; omega)
          have hJ1 := HJ.out.1
          have hJ2 := HJ.out.2.1
          rw [hFk] at hJ1 hJ2
          rw [← H5.out.2.2.1.sent id HZ.out.2.2.2.1] at hJ2
          have hSe := fun (y : More) => sent_any (HJ.out.2.2.2.2.go (plus_below wi y)) id id32
          rw [← hJ2] at hSe
          simp only [plE, plV] at hSe
          have HSe := Lib.hid hSe
          obtain ⟨gr, hgr, -, -⟩ := row_at Tryz.eltSe (HJ.out.2.2.2.2.sep.get (t := thR 60 encSe 2 (.slice A tn cc) T) (List.mem_cons_of_mem _ (List.mem_cons_of_mem _ HMem.out.2.2.1))) HZ.out.1
          subst hgr
          have C1 : ∀ y : More, (plus wi y).cell? ⟨gr, i * 2, none⟩ = some (.int .u32 (id : Nat)) := fun y => by
            have := row_cellE Tryz.eltSe ((HJ.out.2.2.2.2.go (plus_below wi y)).sep.get (t := thR 60 encSe 2 (.slice (some ⟨gr, 0, none⟩) tn cc) T) (List.mem_cons_of_mem _ (List.mem_cons_of_mem _ HMem.out.2.2.1))) HZ.out.1 0 _ rfl
            rw [← HZ.out.2.1] at this
            exact this
          have D14 := fun (y : More) => cells_say ((HJ.out.2.2.2.2.go (plus_below wi y)).blkAt 0) _ 0 rfl
          simp only [cellsSay, List.drop_zero, Nat.reduceAdd, and_true] at D14
          have hQ : ∀ w, (binOp .neq 40 (.agg #[.int .u32 (p1 : Nat), .int .u32 (p2 : Nat), .int .u32 (p3 : Nat)]) (.agg #[.int .u32 (p1 : Nat), .int .u32 (p2 : Nat), .int .u32 (p3 : Nat)])).run Tryz.prog w = .ok (.bool false) w := fun w => by
            rw [nePlB_run p1 p2 p3 p1 p2 p3 w, decide_eq_true rfl]
            rfl
          have HJJ := Lib.hid (And.intro hJ1 HJ.out.2.2.2.2)
          clear hSe hJ1 hJ2 hFk HJ
          go_upto_region 25 with fail
          refine wp_region_ext (by kernel_rfl) (by kernel_rfl) ?_
          repeat (go_big_quiet_step ((go_at_call 22; exact ext_of (HSe.out _))))
          refine wpQuiet_nil ?_
          rintro w8 ⟨y, rfl⟩
          have h8 := HJJ.out.2.go (plus_below wi y)
          generalize plus wi y = W8 at h8 ⊢
          have H8 := Lib.hid h8
          clear C1 D14 hQ HSe h8
          go_wp2_with fail
          go_roundw
          case measure => simp [intOf]; omega
          case rel =>
            refine ⟨i + 1, u, by go_num, by omega, rfl, hu1, hu2, Lib.hid ⟨?_, H8.out.tail⟩⟩
            have hti : K.take (i + 1) = K.take i ++ [id] := by rw [List.take_add_one, HZ.out.2.2.2.2]; rfl
            have hni : id ∉ K.take i := fun hm => by
              have h1 := H5.out.2.2.2.2.2.2.1
              rw [← List.take_append_drop (i + 1) K, hti, List.append_assoc] at h1
              exact (List.nodup_append.1 h1).2.2 id hm id (by simp) rfl
            rw [HJJ.out.1, HI.out.1]
            refine (sumIn_or (fun x => ?_) (fun x hx => ?_) F).symm
            · rw [hti, Bool.eq_iff_iff]
              simp
            · have h1 := of_decide_eq_true hx
              exact decide_eq_false (fun e => hni (e ▸ h1))
    · have hit2 : ¬ (i : Int) < (tn : Int) := by omega
      have hKl : K.take i = K := List.take_of_length_le (by rw [HKl.out]; omega)
      have hv : v = sumF F := by
        rw [HI.out.1, hKl]
        exact sumIn_all (fun f hf => decide_eq_true (H5.out.2.2.2.2.2.1 f.se (H5.out.2.2.1.se f hf)))
      have hWy := way_any HI.out.2
      rw [H5.out.2.2.1.way, ← hv] at hWy
      have hPu := pump_any HI.out.2 HY.out.2.1 (by rw [HY.out.1]; exact H5.out.2.1)
      rw [HY.out.1, H5.out.2.2.1.again] at hPu
      simp only [prB] at hPu
      have C3 : wo.cell? ⟨g9, 3, none⟩ = some (.int .i64 (bw : Nat)) := (show Blk wo g9 26 #[.int .i64 64, .int .i64 1048576, .int .i64 (sz : Nat), .int .i64 (bw : Nat), .int .i64 11, .int .i64 1048576] from HI.out.2.sep.get (List.mem_cons_of_mem _ HMem.out.2.2.2)).cell 3
      have hb3 : v < (bw : Int) + 4000 := by
        have := H5.out.2.2.1.few
        omega
      have hbb := HBw.out
      have hw3 : IntKind.i64.wrap ((bw : Int) + 4000) = (bw : Int) + 4000 := by rw [IntKind.wrap_i64]; omega
      have HWy := Lib.hid hWy
      have HPu := Lib.hid hPu
      clear hWy hPu hKl hv hbb HI
      go_wp2_with (first
        | (go_at_call 23; refine HWy.out.mono ?_; rintro e w6 ⟨rfl, rfl⟩)
        | (go_at_call 12; refine HPu.out.mono ?_; rintro e w7 ⟨U7, c7, T7, rfl, hT7, h7⟩; obtain rfl : T7 = [] := List.map_eq_nil_iff.1 hT7; rw [show ([] : List FrE).length = 0 from rfl]; have H7 := Lib.hid h7.b; clear hT7 h7))
      go_ret
      exact ⟨by simp, H7.out⟩
end Go.Proofs.YtnjcdihgaidlbaaGreatDoor
