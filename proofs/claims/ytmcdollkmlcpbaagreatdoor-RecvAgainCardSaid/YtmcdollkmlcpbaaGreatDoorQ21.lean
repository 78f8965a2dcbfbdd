/- Joined: FrameS, FrameF. -/
import Derived.Test.YtmcdollkmlcpbaaGreatDoorQ14
import Derived.Test.YtmcdollkmlcpbaaGreatDoorQ7
import Derived.Lib.SmallJoins
import Derived.Deep.Fields
import Derived.Deep.Slices
import Derived.Test.YtmcdollkmlcpbaaGreatDoorQ4
set_option linter.unusedSimpArgs false
set_option linter.unusedVariables false
set_option linter.unusedSimpArgs false
set_option linter.unusedVariables false
namespace Go.Proofs.YtmcdollkmlcpbaaGreatDoor
open Go.Joins Go.ChangeShapes Go.WideShapes Go.RowKit Go.Deep
set_option maxRecDepth 100000
theorem list_ofR {α : Type} (P : Nat → α → Prop) (n : Nat) (h : ∀ i, i < n → ∃ x, P i x) : ∃ l : List α, l.length = n ∧ ∀ i x, l[i]? = some x → P i x := by
 induction n with
 | zero => exact ⟨[], rfl, fun i x h => by simp at h⟩
 | succ n ih =>
  obtain ⟨l, hl, hp⟩ := ih fun i hi => h i (by omega)
  obtain ⟨x, hx⟩ := h n (by omega)
  refine ⟨l ++ [x], by simp [hl], fun i y hy => ?_⟩
  rcases Nat.lt_or_ge i n with h1 | h1
  ·rw [List.getElem?_append_left (by omega)] at hy; exact hp i y hy
  ·rw [List.getElem?_append_right (by omega), hl] at hy
   have : i - n = 0 := by
    rcases Nat.eq_zero_or_pos (i - n) with h2 | h2
    ·exact h2
    ·rw [List.getElem?_eq_none (by simp; omega)] at hy; cases hy
   rw [this] at hy
   simp at hy
   subst hy
   obtain rfl : i = n := by omega
   exact hx
theorem spotR {w : World} {a : Addr} {v : Value} (h : w.cell? a = some v) : ∃ p o, a = ⟨p, o, none⟩ := by
 obtain ⟨p, o, s⟩ := a
 have : s = none := World.cell?_spot h
 exact ⟨p, o, by rw [this]⟩
theorem addR (p o i : Nat) : (⟨p, o, none⟩ : Addr).add i = ⟨p, o + i, none⟩ := by
 unfold Addr.add
 split
 ·rename_i h0; subst h0; rfl
 ·rfl
section
variable {H : Type} {ench : TypeId × Value → H} {W : World} {P : Program}
theorem open_rows {α : Type} {enc : α → List Value} {sz : Nat} {ok : α → Prop} {t e : TypeId} {b0 : Nat} {v : Value} {d : DataW H} {p : List MemPlace} (ht : P.underlying t = some (.slice e)) (hsz : P.cellsOf e = sz) (hpos : 0 < sz) (henc : ∀ x, (enc x).length = sz)
  (hd : ∀ (fuel : Nat) (cs : List Value) (x : DataW H × List MemPlace), cs.length = sz → DataW.trod ench P W 0 (fun _ => true) true fuel e cs = some x → ∃ y, cs = enc y ∧ ok y)
  (hv : Value.okWide P W .any b0 t v) (h : DataW.Trod ench P W 0 (fun _ => true) true t v d p) :
  ∃ (V : Option Addr) (c : Nat) (l : List α), v = .slice V l.length c ∧ Rw W enc sz V l ∧ l.length ≤ c ∧ l.length ≤ maxLen ∧ ∀ x ∈ l, ok x := by
 obtain ⟨a0, len0, cap0, rfl⟩ := okWide_slice ht hv
 obtain ⟨n, h⟩ := h
 rcases open_slice ht h with ⟨hcs, _⟩ | ⟨a, len, cap, m, n, D, Pl, hcs, _, hl, hm, hmm, _, hi⟩
 ·simp [Value.cells] at hcs
  obtain ⟨rfl, rfl, rfl⟩ := hcs
  exact ⟨none, 0, [], rfl, Rw.nil _ _ _ _, Nat.le_refl _, Nat.zero_le _, fun e h => by simp at h⟩
 ·simp [Value.cells] at hcs
  obtain ⟨rfl, rfl, rfl⟩ := hcs
  have hlm : len0 ≤ m := by rw [hmm]; split <;> omega
  obtain ⟨E, hE, hp⟩ := list_ofR (fun i (y : α) => (∃ p o, some a = some ⟨p, o, none⟩ ∧ ∀ j v, (enc y)[j]? = some v → W.cell? ⟨p, o + i * sz + j, none⟩ = some v) ∧ ok y) len0 (fun i hil => by
   obtain ⟨cs', h1, h2⟩ := hi i (by omega)
   obtain ⟨cs0, h01, _⟩ := hi 0 (by omega)
   rw [hsz] at h1 h01
   obtain ⟨_, hlen, hcell⟩ := World.cells?_some h1
   obtain ⟨_, hlen0, hcell0⟩ := World.cells?_some h01
   obtain ⟨y, rfl, hy⟩ := hd _ cs' _ hlen h2
   have hc0 := hcell0 0 hpos
   rw [add_add, Nat.zero_mul] at hc0
   obtain ⟨p, o, rfl⟩ := spotR (show W.cell? a = some _ by rw [List.getElem?_eq_getElem (by omega)] at hc0; simpa [Addr.add] using hc0)
   refine ⟨y, ⟨p, o, rfl, fun j v hj => ?_⟩, hy⟩
   have hjl : j < sz := by
    rcases Nat.lt_or_ge j sz with h3 | h3
    ·exact h3
    ·rw [List.getElem?_eq_none (by rw [henc]; exact h3)] at hj; cases hj
   have := hcell j hjl
   rw [add_add, addR, hj, ← Nat.add_assoc] at this
   exact this)
  refine ⟨some a, cap0, E, by rw [hE], fun i y hy => ?_, by omega, by omega, fun y hy => ?_⟩
  ·exact (hp i y hy).1
  ·obtain ⟨j, hj, rfl⟩ := List.getElem_of_mem hy
   exact (hp j _ (List.getElem?_eq_getElem hj)).2
theorem trodR {base n : Nat} {spare : Nat → Bool} {held : Bool} {fs : Array Field} {cs : List Value} {xs : List (DataW H × List MemPlace)} (hlen : xs.length = fs.size)
  (hg : ∀ (i : Nat) (f : Field), fs[i]? = some f → DataW.trod ench P W base spare held n f.type ((cs.drop f.offset).take (P.cellsOf f.type)) = xs[i]?) (i : Nat) {ty : TypeId} {off k : Nat} (hf : fs[i]?.map (fun f => (f.type, f.offset)) = some (ty, off)) (hk : P.cellsOf ty = k) :
  ∃ y, DataW.trod ench P W base spare held n ty ((cs.drop off).take k) = some y := by
 obtain ⟨f, hff, e⟩ := Option.map_eq_some_iff.1 hf
 simp only [Prod.mk.injEq] at e
 obtain ⟨rfl, rfl⟩ := e
 subst hk
 have hi : i < xs.length := by rw [hlen]; exact (Array.getElem?_eq_some_iff.1 hff).1
 exact ⟨xs[i], (hg i f hff).trans (List.getElem?_eq_getElem hi)⟩
end
end Go.Proofs.YtmcdollkmlcpbaaGreatDoor
set_option linter.unusedSimpArgs false
set_option linter.unusedVariables false
namespace Go.Proofs.YtmcdollkmlcpbaaGreatDoor
open Go.Joins Go.ChangeShapes Go.WideShapes Go.RowKit Go.Deep
set_option maxRecDepth 100000
section
variable {H : Type} {ench : TypeId × Value → H} {W : World}
theorem Tryz.fCellsU8 : Tryz.prog.cellsOf 5 = 1 := by kernel_rfl
theorem Tryz.fCellsU32 : Tryz.prog.cellsOf 34 = 1 := by kernel_rfl
theorem Tryz.fCellsU64 : Tryz.prog.cellsOf 37 = 1 := by kernel_rfl
theorem Tryz.fCellsB : Tryz.prog.cellsOf 4 = 1 := by kernel_rfl
theorem Tryz.fCellsI : Tryz.prog.cellsOf 3 = 1 := by kernel_rfl
theorem Tryz.fCellsL : Tryz.prog.cellsOf 31 = 1 := by kernel_rfl
theorem Tryz.fCellsP : Tryz.prog.cellsOf 36 = 3 := by kernel_rfl
theorem Tryz.fCellsBs : Tryz.prog.cellsOf 33 = 2 := by kernel_rfl
theorem Tryz.fCellsF : Tryz.prog.cellsOf 39 = 11 := by kernel_rfl
theorem ftrod_u8 {base n : Nat} {spare : Nat → Bool} {held : Bool} {c : Value} {y : DataW H × List MemPlace} (h : DataW.trod ench Tryz.prog W base spare held n 5 [c] = some y) : ∃ x : Nat, c = .int .u8 x ∧ x < 256 := by
 obtain ⟨x, e, _, wx⟩ := DataW.trod_int Tryz.underlying5 h
 have hb := bounds_u8 wx
 simp at e
 exact ⟨x.toNat, by rw [e, Int.toNat_of_nonneg hb.1], by omega⟩
theorem ftrod_u32 {base n : Nat} {spare : Nat → Bool} {held : Bool} {c : Value} {y : DataW H × List MemPlace} (h : DataW.trod ench Tryz.prog W base spare held n 34 [c] = some y) : ∃ x : Nat, c = .int .u32 x ∧ x < 4294967296 := by
 obtain ⟨x, e, _, wx⟩ := DataW.trod_int Tryz.underlying34 h
 have hb := bounds_u32 wx
 simp at e
 exact ⟨x.toNat, by rw [e, Int.toNat_of_nonneg hb.1], by omega⟩
theorem ftrod_u64 {base n : Nat} {spare : Nat → Bool} {held : Bool} {c : Value} {y : DataW H × List MemPlace} (h : DataW.trod ench Tryz.prog W base spare held n 37 [c] = some y) : ∃ x : Nat, c = .int .u64 x ∧ x < 18446744073709551616 := by
 obtain ⟨x, e, _, wx⟩ := DataW.trod_int Tryz.underlying37 h
 have hb := bounds_u64 wx
 simp at e
 exact ⟨x.toNat, by rw [e, Int.toNat_of_nonneg hb.1], by omega⟩
theorem ftrod_int {base n : Nat} {spare : Nat → Bool} {held : Bool} {c : Value} {y : DataW H × List MemPlace} (h : DataW.trod ench Tryz.prog W base spare held n 3 [c] = some y) : ∃ x : Int, c = .int .i64 x ∧ (-9223372036854775808 ≤ x ∧ x ≤ 9223372036854775807) := by
 obtain ⟨x, e, _, wx⟩ := DataW.trod_int Tryz.underlying3 h
 simp at e
 exact ⟨x, e, bounds_i64 wx⟩
theorem ftrod_bool {base n : Nat} {spare : Nat → Bool} {held : Bool} {c : Value} {y : DataW H × List MemPlace} (h : DataW.trod ench Tryz.prog W base spare held n 4 [c] = some y) : ∃ x : Bool, c = .bool x := by
 obtain ⟨b, e, _⟩ := DataW.trod_bool Tryz.underlying4 h
 simp at e
 exact ⟨b, e⟩
theorem ftrod_place {base n : Nat} {spare : Nat → Bool} {held : Bool} {c d e : Value} {y : DataW H × List MemPlace} (h : DataW.trod ench Tryz.prog W base spare held n 36 [c, d, e] = some y) :
  ∃ a0 a1 a2 : Nat, c = .int .u32 a0 ∧ d = .int .u32 a1 ∧ e = .int .u32 a2 ∧ a0 < 4294967296 ∧ a1 < 4294967296 ∧ a2 < 4294967296 := by
 obtain ⟨xs, m, _, _, _, hlen, hg⟩ := DataW.trod_struct Tryz.underlying36 h
 obtain ⟨y0, h0⟩ := trodR hlen hg 0 rfl Tryz.fCellsU32
 obtain ⟨y1, h1⟩ := trodR hlen hg 1 rfl Tryz.fCellsU32
 obtain ⟨y2, h2⟩ := trodR hlen hg 2 rfl Tryz.fCellsU32
 obtain ⟨a0, rfl, b0⟩ := ftrod_u32 h0
 obtain ⟨a1, rfl, b1⟩ := ftrod_u32 h1
 obtain ⟨a2, rfl, b2⟩ := ftrod_u32 h2
 exact ⟨a0, a1, a2, rfl, rfl, rfl, b0, b1, b2⟩
theorem ftrod_bits {base n : Nat} {spare : Nat → Bool} {held : Bool} {c d : Value} {y : DataW H × List MemPlace} (h : DataW.trod ench Tryz.prog W base spare held n 33 [c, d] = some y) :
  ∃ (A : Option Addr) (k : Nat) (l : List UInt8) (m : Int), c = .slice A l.length k ∧ d = .int .i64 m ∧ l.length ≤ maxLen ∧ Bs W A l ∧ (-9223372036854775808 ≤ m ∧ m ≤ 9223372036854775807) := by
 obtain ⟨xs, m, _, _, _, hlen, hg⟩ := DataW.trod_struct Tryz.underlying33 h
 obtain ⟨y0, h0⟩ := trodR hlen hg 0 rfl Tryz.fCellsL
 obtain ⟨y1, h1⟩ := trodR hlen hg 1 rfl Tryz.fCellsI
 obtain ⟨A, k, l, rfl, hl, hb⟩ := open_bytes (b0 := base) h0
 obtain ⟨m, rfl, hm⟩ := ftrod_int h1
 exact ⟨A, k, l, m, rfl, rfl, hl, hb, hm⟩
end
end Go.Proofs.YtmcdollkmlcpbaaGreatDoor
