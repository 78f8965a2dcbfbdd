/- Joined: FrameS, FrameF. -/
import Derived.Test.YtiliineopplinaaDoorQ15
import Derived.Test.YtiliineopplinaaDoorQ8
import Derived.Lib.SmallJoins
import Derived.Deep.Fields
import Derived.Deep.Slices
import Derived.ProofKit
import Derived.OpenShut
import Derived.Carry
import Derived.Test.YtiliineopplinaaDoorQ5
set_option linter.unusedSimpArgs false
set_option linter.unusedVariables false
/- An argument that is a slice of structs: opened as rows; plain cells by kind. -/
set_option linter.unusedSimpArgs false
set_option linter.unusedVariables false
namespace Go.Proofs.YtiliineopplinaaDoor
open Go.Joins Go.ChangeShapes Go.WideShapes Go.RowKit Go.Deep
set_option maxRecDepth 100000

theorem list_ofR {α : Type} (P : Nat → α → Prop) (n : Nat) (h : ∀ i, i < n → ∃ x, P i x) : ∃ l : List α, l.length = n ∧ ∀ i x, l[i]? = some x → P i x := by
  induction n with
  | zero => exact ⟨[], rfl, fun i x h => by simp at h⟩
  | succ n ih =>
    obtain ⟨l, hl, hp⟩ := ih fun i hi => h i (by omega)
    obtain ⟨x, hx⟩ := h n (by omega)
    refine ⟨l ++ [x], by simp [hl], fun i y hy => ?_⟩
    rcases Nat.lt_or_ge i n with h1 | h1
    · rw [List.getElem?_append_left (by omega)] at hy; exact hp i y hy
    · rw [List.getElem?_append_right (by omega), hl] at hy
      have : i - n = 0 := by
        rcases Nat.eq_zero_or_pos (i - n) with h2 | h2
        · exact h2
        · rw [List.getElem?_eq_none (by simp; omega)] at hy; cases hy
      rw [this] at hy
      simp at hy
      subst hy
      obtain rfl : i = n := by omega
      exact hx
theorem spotR {w : World} {a : Addr} {v : Value} (h : w.cell? a = some v) : ∃ p o, a = ⟨p, o, none⟩ := by
  obtain ⟨p, o, s⟩ := a
  have : s = none := World.cell?_spot h
  exact ⟨p, o, by rw [this]⟩
theorem addR (p o i : Nat) : (⟨p, o, none⟩ : Addr).add i = ⟨p, o + i, none⟩ := by
  unfold Addr.add
  split
  · rename_i h0; subst h0; rfl
  · rfl

section
variable {H : Type} {ench : TypeId × Value → H} {W : World} {P : Program}
/-- a slice of elements of sz cells each, each of which can be read so -/
theorem open_rows {α : Type} {enc : α → List Value} {sz : Nat} {ok : α → Prop} {t e : TypeId} {b0 : Nat} {v : Value} {d : DataW H} {p : List MemPlace} (ht : P.underlying t = some (.slice e)) (hsz : P.cellsOf e = sz) (hpos : 0 < sz) (henc : ∀ x, (enc x).length = sz)
    (hd : ∀ (fuel : Nat) (cs : List Value) (x : DataW H × List MemPlace), cs.length = sz → DataW.trod ench P W 0 (fun _ => true) true fuel e cs = some x → ∃ y, cs = enc y ∧ ok y)
    (hv : Value.okWide P W .any b0 t v) (h : DataW.Trod ench P W 0 (fun _ => true) true t v d p) :
    ∃ (V : Option Addr) (c : Nat) (l : List α), v = .slice V l.length c ∧ Rw W enc sz V l ∧ l.length ≤ c ∧ l.length ≤ maxLen ∧ ∀ x ∈ l, ok x := by
  obtain ⟨a0, len0, cap0, rfl⟩ := okWide_slice ht hv
  obtain ⟨n, h⟩ := h
  rcases open_slice ht h with ⟨hcs, _⟩ | ⟨a, len, cap, m, n, D, Pl, hcs, _, hl, hm, hmm, _, hi⟩
  · simp [Value.cells] at hcs
    obtain ⟨rfl, rfl, rfl⟩ := hcs
    exact ⟨none, 0, [], rfl, Rw.nil _ _ _ _, Nat.le_refl _, Nat.zero_le _, fun e h => by simp at h⟩
  · simp [Value.cells] at hcs
    obtain ⟨rfl, rfl, rfl⟩ := hcs
    have hlm : len0 ≤ m := by rw [hmm]; split <;> omega
    obtain ⟨E, hE, hp⟩ := list_ofR (fun i (y : α) => (∃ p o, some a = some ⟨p, o, none⟩ ∧ ∀ j v, (enc y)[j]? = some v → W.cell? ⟨p, o + i * sz + j, none⟩ = some v) ∧ ok y) len0 (fun i hil => by
      obtain ⟨cs', h1, h2⟩ := hi i (by omega)
      obtain ⟨cs0, h01, _⟩ := hi 0 (by omega)
      rw [hsz] at h1 h01
      obtain ⟨_, hlen, hcell⟩ := World.cells?_some h1
      obtain ⟨_, hlen0, hcell0⟩ := World.cells?_some h01
      obtain ⟨y, rfl, hy⟩ := hd _ cs' _ hlen h2
      have hc0 := hcell0 0 hpos
      rw [add_add, Nat.zero_mul] at hc0
      obtain ⟨p, o, rfl⟩ := spotR (show W.cell? a = some _ by rw [List.getElem?_eq_getElem (by omega)] at hc0; simpa [Addr.add] using hc0)
      refine ⟨y, ⟨p, o, rfl, fun j v hj => ?_⟩, hy⟩
      have hjl : j < sz := by
        rcases Nat.lt_or_ge j sz with h3 | h3
        · exact h3
        · rw [List.getElem?_eq_none (by rw [henc]; exact h3)] at hj; cases hj
      have := hcell j hjl
      rw [add_add, addR, hj, ← Nat.add_assoc] at this
      exact this)
    refine ⟨some a, cap0, E, by rw [hE], fun i y hy => ?_, by omega, by omega, fun y hy => ?_⟩
    · exact (hp i y hy).1
    · obtain ⟨j, hj, rfl⟩ := List.getElem_of_mem hy
      exact (hp j _ (List.getElem?_eq_getElem hj)).2

theorem trodR {base n : Nat} {spare : Nat → Bool} {held : Bool} {fs : Array Field} {cs : List Value} {xs : List (DataW H × List MemPlace)} (hlen : xs.length = fs.size)
    (hg : ∀ (i : Nat) (f : Field), fs[i]? = some f → DataW.trod ench P W base spare held n f.type ((cs.drop f.offset).take (P.cellsOf f.type)) = xs[i]?) (i : Nat) {ty : TypeId} {off k : Nat} (hf : fs[i]?.map (fun f => (f.type, f.offset)) = some (ty, off)) (hk : P.cellsOf ty = k) :
    ∃ y, DataW.trod ench P W base spare held n ty ((cs.drop off).take k) = some y := by
  obtain ⟨f, hff, e⟩ := Option.map_eq_some_iff.1 hf
  simp only [Prod.mk.injEq] at e
  obtain ⟨rfl, rfl⟩ := e
  subst hk
  have hi : i < xs.length := by rw [hlen]; exact (Array.getElem?_eq_some_iff.1 hff).1
  exact ⟨xs[i], (hg i f hff).trans (List.getElem?_eq_getElem hi)⟩
end

end Go.Proofs.YtiliineopplinaaDoor

/- A frame by value as a drawn argument. -/
set_option linter.unusedSimpArgs false
set_option linter.unusedVariables false
namespace Go.Proofs.YtiliineopplinaaDoor
open Go.Joins Go.ChangeShapes Go.WideShapes Go.RowKit Go.Deep
set_option maxRecDepth 100000

section
variable {H : Type} {ench : TypeId × Value → H} {W : World}
theorem Tryd.fCellsU32 : Tryd.prog.cellsOf 23 = 1 := by kernel_rfl
theorem Tryd.fCellsU64 : Tryd.prog.cellsOf 24 = 1 := by kernel_rfl
theorem ftrod_u32 {base n : Nat} {spare : Nat → Bool} {held : Bool} {c : Value} {y : DataW H × List MemPlace} (h : DataW.trod ench Tryd.prog W base spare held n 23 [c] = some y) : ∃ x : Nat, c = .int .u32 x ∧ x < 4294967296 := by
  obtain ⟨x, e, _, wx⟩ := DataW.trod_int Tryd.underlying23 h
  have hb := bounds_u32 wx
  simp at e
  exact ⟨x.toNat, by rw [e, Int.toNat_of_nonneg hb.1], by omega⟩
theorem ftrod_u64 {base n : Nat} {spare : Nat → Bool} {held : Bool} {c : Value} {y : DataW H × List MemPlace} (h : DataW.trod ench Tryd.prog W base spare held n 24 [c] = some y) : ∃ x : Nat, c = .int .u64 x ∧ x < 18446744073709551616 := by
  obtain ⟨x, e, _, wx⟩ := DataW.trod_int Tryd.underlying24 h
  have hb := bounds_u64 wx
  simp at e
  exact ⟨x.toNat, by rw [e, Int.toNat_of_nonneg hb.1], by omega⟩
end

end Go.Proofs.YtiliineopplinaaDoor
