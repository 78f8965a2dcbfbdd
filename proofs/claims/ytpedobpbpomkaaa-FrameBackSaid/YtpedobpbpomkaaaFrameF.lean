/- A frame by value as a drawn argument. -/
import Derived.Test.YtpedobpbpomkaaaFrame
import Derived.Test.YtpedobpbpomkaaaFrameS
import Derived.Test.YtpedobpbpomkaaaFr1
set_option linter.unusedSimpArgs false
set_option linter.unusedVariables false
namespace Go.Proofs.Ytpedobpbpomkaaa
open Go.Joins Go.ChangeShapes Go.WideShapes Go.RowKit Go.Deep
set_option maxRecDepth 100000

section
variable {H : Type} {ench : TypeId × Value → H} {W : World}
theorem Try.fCellsU8 : Try.prog.cellsOf 5 = 1 := by kernel_rfl
theorem Try.fCellsU32 : Try.prog.cellsOf 22 = 1 := by kernel_rfl
theorem Try.fCellsU64 : Try.prog.cellsOf 25 = 1 := by kernel_rfl
theorem Try.fCellsB : Try.prog.cellsOf 4 = 1 := by kernel_rfl
theorem Try.fCellsI : Try.prog.cellsOf 3 = 1 := by kernel_rfl
theorem Try.fCellsL : Try.prog.cellsOf 26 = 1 := by kernel_rfl
theorem Try.fCellsP : Try.prog.cellsOf 24 = 3 := by kernel_rfl
theorem Try.fCellsBs : Try.prog.cellsOf 28 = 2 := by kernel_rfl
theorem Try.fCellsF : Try.prog.cellsOf 30 = 11 := by kernel_rfl
theorem ftrod_u8 {base n : Nat} {spare : Nat → Bool} {held : Bool} {c : Value} {y : DataW H × List MemPlace} (h : DataW.trod ench Try.prog W base spare held n 5 [c] = some y) : ∃ x : Nat, c = .int .u8 x ∧ x < 256 := by
  obtain ⟨x, e, _, wx⟩ := DataW.trod_int Try.underlying5 h
  have hb := bounds_u8 wx
  simp at e
  exact ⟨x.toNat, by rw [e, Int.toNat_of_nonneg hb.1], by omega⟩
theorem ftrod_u32 {base n : Nat} {spare : Nat → Bool} {held : Bool} {c : Value} {y : DataW H × List MemPlace} (h : DataW.trod ench Try.prog W base spare held n 22 [c] = some y) : ∃ x : Nat, c = .int .u32 x ∧ x < 4294967296 := by
  obtain ⟨x, e, _, wx⟩ := DataW.trod_int Try.underlying22 h
  have hb := bounds_u32 wx
  simp at e
  exact ⟨x.toNat, by rw [e, Int.toNat_of_nonneg hb.1], by omega⟩
theorem ftrod_u64 {base n : Nat} {spare : Nat → Bool} {held : Bool} {c : Value} {y : DataW H × List MemPlace} (h : DataW.trod ench Try.prog W base spare held n 25 [c] = some y) : ∃ x : Nat, c = .int .u64 x ∧ x < 18446744073709551616 := by
  obtain ⟨x, e, _, wx⟩ := DataW.trod_int Try.underlying25 h
  have hb := bounds_u64 wx
  simp at e
  exact ⟨x.toNat, by rw [e, Int.toNat_of_nonneg hb.1], by omega⟩
theorem ftrod_int {base n : Nat} {spare : Nat → Bool} {held : Bool} {c : Value} {y : DataW H × List MemPlace} (h : DataW.trod ench Try.prog W base spare held n 3 [c] = some y) : ∃ x : Int, c = .int .i64 x ∧ (-9223372036854775808 ≤ x ∧ x ≤ 9223372036854775807) := by
  obtain ⟨x, e, _, wx⟩ := DataW.trod_int Try.underlying3 h
  simp at e
  exact ⟨x, e, bounds_i64 wx⟩
theorem ftrod_bool {base n : Nat} {spare : Nat → Bool} {held : Bool} {c : Value} {y : DataW H × List MemPlace} (h : DataW.trod ench Try.prog W base spare held n 4 [c] = some y) : ∃ x : Bool, c = .bool x := by
  obtain ⟨b, e, _⟩ := DataW.trod_bool Try.underlying4 h
  simp at e
  exact ⟨b, e⟩
theorem ftrod_place {base n : Nat} {spare : Nat → Bool} {held : Bool} {c d e : Value} {y : DataW H × List MemPlace} (h : DataW.trod ench Try.prog W base spare held n 24 [c, d, e] = some y) :
    ∃ a0 a1 a2 : Nat, c = .int .u32 a0 ∧ d = .int .u32 a1 ∧ e = .int .u32 a2 ∧ a0 < 4294967296 ∧ a1 < 4294967296 ∧ a2 < 4294967296 := by
  obtain ⟨xs, m, _, _, _, hlen, hg⟩ := DataW.trod_struct Try.underlying24 h
  obtain ⟨y0, h0⟩ := trodR hlen hg 0 rfl Try.fCellsU32
  obtain ⟨y1, h1⟩ := trodR hlen hg 1 rfl Try.fCellsU32
  obtain ⟨y2, h2⟩ := trodR hlen hg 2 rfl Try.fCellsU32
  obtain ⟨a0, rfl, b0⟩ := ftrod_u32 h0
  obtain ⟨a1, rfl, b1⟩ := ftrod_u32 h1
  obtain ⟨a2, rfl, b2⟩ := ftrod_u32 h2
  exact ⟨a0, a1, a2, rfl, rfl, rfl, b0, b1, b2⟩
theorem ftrod_bits {base n : Nat} {spare : Nat → Bool} {held : Bool} {c d : Value} {y : DataW H × List MemPlace} (h : DataW.trod ench Try.prog W base spare held n 28 [c, d] = some y) :
    ∃ (A : Option Addr) (k : Nat) (l : List UInt8) (m : Int), c = .slice A l.length k ∧ d = .int .i64 m ∧ l.length ≤ maxLen ∧ Bs W A l ∧ (-9223372036854775808 ≤ m ∧ m ≤ 9223372036854775807) := by
  obtain ⟨xs, m, _, _, _, hlen, hg⟩ := DataW.trod_struct Try.underlying28 h
  obtain ⟨y0, h0⟩ := trodR hlen hg 0 rfl Try.fCellsL
  obtain ⟨y1, h1⟩ := trodR hlen hg 1 rfl Try.fCellsI
  obtain ⟨A, k, l, rfl, hl, hb⟩ := open_bytes (b0 := base) h0
  obtain ⟨m, rfl, hm⟩ := ftrod_int h1
  exact ⟨A, k, l, m, rfl, rfl, hl, hb, hm⟩
/-- api.Frame by value -/
theorem open_frameArg {b0 : Nat} {v : Value} {d : DataW H} {p : List MemPlace} (hv : Value.okWide Try.prog W .any b0 30 v) (h : DataW.Trod ench Try.prog W 0 (fun _ => true) true 30 v d p) :
    ∃ (A : Option Addr) (c : Nat) (f : FrD), v = .agg (frC f A c) ∧ Bs W A f.l ∧ f.l.length ≤ maxLen ∧ f.ok := by
  obtain ⟨cs, rfl, hsz⟩ := okWide_struct Try.underlying30 hv
  obtain ⟨l⟩ := cs
  match l, hsz.trans Try.fCellsF with
  | [c0, c1, c2, c3, c4, c5, c6, c7, c8, c9, c10], _ =>
    obtain ⟨fuel, hf⟩ := h
    obtain ⟨xs, m, _, _, _, hlen, hg⟩ := DataW.trod_struct Try.underlying30 (show DataW.trod ench Try.prog W 0 (fun _ => true) true fuel 30 [c0, c1, c2, c3, c4, c5, c6, c7, c8, c9, c10] = _ from hf)
    obtain ⟨y0, h0⟩ := trodR hlen hg 0 rfl Try.fCellsU8
    obtain ⟨y1, h1⟩ := trodR hlen hg 1 rfl Try.fCellsU32
    obtain ⟨y2, h2⟩ := trodR hlen hg 2 rfl Try.fCellsU32
    obtain ⟨y3, h3⟩ := trodR hlen hg 3 rfl Try.fCellsP
    obtain ⟨y4, h4⟩ := trodR hlen hg 4 rfl Try.fCellsU32
    obtain ⟨y5, h5⟩ := trodR hlen hg 5 rfl Try.fCellsB
    obtain ⟨y6, h6⟩ := trodR hlen hg 6 rfl Try.fCellsU64
    obtain ⟨y7, h7⟩ := trodR hlen hg 7 rfl Try.fCellsBs
    obtain ⟨kd, rfl, o0⟩ := ftrod_u8 h0
    obtain ⟨ep, rfl, o1⟩ := ftrod_u32 h1
    obtain ⟨se, rfl, o2⟩ := ftrod_u32 h2
    obtain ⟨fc, fb, fn, rfl, rfl, rfl, o3, o4, o5⟩ := ftrod_place h3
    obtain ⟨cn, rfl, o6⟩ := ftrod_u32 h4
    obtain ⟨cl, rfl⟩ := ftrod_bool h5
    obtain ⟨sm, rfl, o7⟩ := ftrod_u64 h6
    obtain ⟨A, c, l, n, rfl, rfl, hl, hb, o8⟩ := ftrod_bits h7
    exact ⟨A, c, ⟨kd, ep, se, fc, fb, fn, cn, cl, sm, l, n⟩, rfl, hb, hl, o0, o1, o2, o3, o4, o5, o6, o7, o8.1, o8.2⟩
end

end Go.Proofs.Ytpedobpbpomkaaa
