/- Joined: FrameE. -/
import Derived.Test.YtgnppnjhecfjeaaDoorQ21
import Derived.Test.YtgnppnjhecfjeaaDoorQ2
set_option linter.unusedSimpArgs false
set_option linter.unusedVariables false
/- The parameters of the statements, opened: a sample, what a writer knows. -/
namespace Go.Proofs.YtgnppnjhecfjeaaDoor
open Go.Joins Go.ChangeShapes Go.WideShapes Go.RowKit Go.Deep
set_option maxRecDepth 100000

section
variable {H : Type} {enc : TypeId × Value → H} {W : World}
theorem Tryd.cellsXI : Tryd.prog.cellsOf 3 = 1 := by kernel_rfl
theorem Tryd.cellsX64 : Tryd.prog.cellsOf 2 = 1 := by kernel_rfl
theorem Tryd.cellsXE : Tryd.prog.cellsOf 48 = 7 := by kernel_rfl
theorem Tryd.cellsXS : Tryd.prog.cellsOf 53 = 2 := by kernel_rfl
theorem trodX_int {base n : Nat} {spare : Nat → Bool} {held : Bool} {c : Value} {y : DataW H × List MemPlace} (h : DataW.trod enc Tryd.prog W base spare held n 3 [c] = some y) : ∃ x : Int, c = .int .i64 x ∧ in64 x := by
  obtain ⟨x, e, _, wx⟩ := DataW.trod_int Tryd.underlying3 h
  have hb := bounds_i64 wx
  simp at e
  exact ⟨x, e, by unfold in64; omega⟩
theorem trodX_i64 {base n : Nat} {spare : Nat → Bool} {held : Bool} {c : Value} {y : DataW H × List MemPlace} (h : DataW.trod enc Tryd.prog W base spare held n 2 [c] = some y) : ∃ x : Int, c = .int .i64 x ∧ in64 x := by
  obtain ⟨x, e, _, wx⟩ := DataW.trod_int Tryd.underlying2 h
  have hb := bounds_i64 wx
  simp at e
  exact ⟨x, e, by unfold in64; omega⟩
theorem trodX_val {base n : Nat} {spare : Nat → Bool} {held : Bool} {c0 c1 c2 c3 : Value} {y : DataW H × List MemPlace} (h : DataW.trod enc Tryd.prog W base spare held n 27 [c0, c1, c2, c3] = some y) :
    ∃ (h : Bool) (p l b : Nat), c0 = .bool h ∧ c1 = .int .u64 p ∧ c2 = .int .u8 l ∧ c3 = .int .u8 b ∧ p < 18446744073709551616 ∧ l < 256 ∧ b < 256 := by
  cases n with
  | zero => simp [DataW.trod] at h
  | succ n =>
    obtain ⟨xs, n', _, _, _, hlen, hg⟩ := DataW.trod_struct Tryd.underlying27 h
    obtain ⟨y0, h0⟩ := trod_fldX hlen hg 0 rfl Tryd.cellsXB
    obtain ⟨y1, h1⟩ := trod_fldX hlen hg 1 rfl Tryd.cellsXU
    obtain ⟨y2, h2⟩ := trod_fldX hlen hg 2 rfl Tryd.cellsX8
    obtain ⟨y3, h3⟩ := trod_fldX hlen hg 3 rfl Tryd.cellsX8
    obtain ⟨b, rfl⟩ := trodX_bool h0
    obtain ⟨q, rfl, b1⟩ := trodX_u64 h1
    obtain ⟨l, rfl, b2⟩ := trodX_u8 h2
    obtain ⟨m, rfl, b3⟩ := trodX_u8 h3
    exact ⟨b, q, l, m, rfl, rfl, rfl, rfl, b1, b2, b3⟩
/-- api.Enc by value -/
theorem open_encArg {b0 : Nat} {v : Value} {d : DataW H} {p : List MemPlace} (hv : Value.okWide Tryd.prog W .any b0 48 v) (h : DataW.Trod enc Tryd.prog W 0 (fun _ => true) true 48 v d p) :
    ∃ (n la de : Int) (h : Bool) (p l b : Nat), v = .agg #[.int .i64 n, .int .i64 la, .int .i64 de, .bool h, .int .u64 p, .int .u8 l, .int .u8 b] ∧ in64 n ∧ in64 la ∧ in64 de ∧ p < 18446744073709551616 ∧ l < 256 ∧ b < 256 := by
  obtain ⟨cs, rfl, hsz⟩ := okWide_struct Tryd.underlying48 hv
  obtain ⟨l⟩ := cs
  match l, hsz.trans Tryd.cellsXE with
  | [c0, c1, c2, c3, c4, c5, c6], _ =>
    obtain ⟨fuel, hf⟩ := h
    obtain ⟨xs, n, _, _, _, hlen, hg⟩ := DataW.trod_struct Tryd.underlying48 (show DataW.trod enc Tryd.prog W 0 (fun _ => true) true fuel 48 [c0, c1, c2, c3, c4, c5, c6] = _ from hf)
    obtain ⟨y0, h0⟩ := trod_fldX hlen hg 0 rfl Tryd.cellsXI
    obtain ⟨y1, h1⟩ := trod_fldX hlen hg 1 rfl Tryd.cellsX64
    obtain ⟨y2, h2⟩ := trod_fldX hlen hg 2 rfl Tryd.cellsX64
    obtain ⟨y3, h3⟩ := trod_fldX hlen hg 3 rfl Tryd.cellsXV
    obtain ⟨a, rfl, b1⟩ := trodX_int h0
    obtain ⟨b, rfl, b2⟩ := trodX_i64 h1
    obtain ⟨c, rfl, b3⟩ := trodX_i64 h2
    obtain ⟨hh, q, l, m, rfl, rfl, rfl, rfl, b4, b5, b6⟩ := trodX_val h3
    exact ⟨a, b, c, hh, q, l, m, rfl, b1, b2, b3, b4, b5, b6⟩
/-- api.Sample by value -/
theorem open_smpE {b0 : Nat} {v : Value} {d : DataW H} {p : List MemPlace} (hv : Value.okWide Tryd.prog W .any b0 53 v) (h : DataW.Trod enc Tryd.prog W 0 (fun _ => true) true 53 v d p) :
    ∃ (t : Int) (u : Nat), v = .agg #[.int .i64 t, .int .u64 u] ∧ in64 t ∧ u < 18446744073709551616 := by
  obtain ⟨cs, rfl, hsz⟩ := okWide_struct Tryd.underlying53 hv
  obtain ⟨l⟩ := cs
  match l, hsz.trans Tryd.cellsXS with
  | [c0, c1], _ =>
    obtain ⟨fuel, hf⟩ := h
    obtain ⟨xs, n, _, _, _, hlen, hg⟩ := DataW.trod_struct Tryd.underlying53 (show DataW.trod enc Tryd.prog W 0 (fun _ => true) true fuel 53 [c0, c1] = _ from hf)
    obtain ⟨y0, h0⟩ := trod_fldX hlen hg 0 rfl Tryd.cellsX64
    obtain ⟨y1, h1⟩ := trod_fldX hlen hg 1 rfl Tryd.cellsXU
    obtain ⟨a, rfl, b1⟩ := trodX_i64 h0
    obtain ⟨b, rfl, b2⟩ := trodX_u64 h1
    exact ⟨a, b, rfl, b1, b2⟩
end

end Go.Proofs.YtgnppnjhecfjeaaDoor
