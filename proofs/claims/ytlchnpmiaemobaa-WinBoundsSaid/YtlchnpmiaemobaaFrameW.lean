/- Arguments of layer 13's statements: a place, calls. -/
import Derived.Test.YtlchnpmiaemobaaFrameS
import Derived.Test.YtlchnpmiaemobaaWin21
set_option linter.unusedSimpArgs false
set_option linter.unusedVariables false
namespace Go.Proofs.Ytlchnpmiaemobaa
open Go.Joins Go.ChangeShapes Go.WideShapes Go.RowKit Go.Deep
set_option maxRecDepth 100000

section
variable {H : Type} {ench : TypeId × Value → H} {W : World}
theorem Try.cellsU8 : Try.prog.cellsOf 5 = 1 := by kernel_rfl
theorem Try.cellsU32 : Try.prog.cellsOf 27 = 1 := by kernel_rfl
theorem Try.cellsInt : Try.prog.cellsOf 3 = 1 := by kernel_rfl
theorem Try.cellsPlace : Try.prog.cellsOf 29 = 3 := by kernel_rfl
theorem Try.cellsPiece : Try.prog.cellsOf 31 = 8 := by kernel_rfl
theorem Try.cellsOp13 : Try.prog.cellsOf 33 = 9 := by kernel_rfl
theorem trod_u32 {base n : Nat} {spare : Nat → Bool} {held : Bool} {c : Value} {y : DataW H × List MemPlace} (h : DataW.trod ench Try.prog W base spare held n 27 [c] = some y) : ∃ x : Nat, c = .int .u32 x ∧ x ≤ 4294967295 :=
  trod_nat Try.underlying27 (fun x hx => by have := bounds_u32 hx; omega) h
theorem trod_u8 {base n : Nat} {spare : Nat → Bool} {held : Bool} {c : Value} {y : DataW H × List MemPlace} (h : DataW.trod ench Try.prog W base spare held n 5 [c] = some y) : ∃ x : Nat, c = .int .u8 x ∧ x ≤ 255 :=
  trod_nat Try.underlying5 (fun x hx => by have := bounds_u8 hx; omega) h
theorem trod_place {base n : Nat} {spare : Nat → Bool} {held : Bool} {c d e : Value} {y : DataW H × List MemPlace} (h : DataW.trod ench Try.prog W base spare held n 29 [c, d, e] = some y) :
    ∃ a0 a1 a2 : Nat, c = .int .u32 a0 ∧ d = .int .u32 a1 ∧ e = .int .u32 a2 ∧ a0 ≤ 4294967295 ∧ a1 ≤ 4294967295 ∧ a2 ≤ 4294967295 := by
  obtain ⟨xs, m, _, _, _, hlen, hg⟩ := DataW.trod_struct Try.underlying29 h
  obtain ⟨y0, h0⟩ := trodR hlen hg 0 rfl Try.cellsU32
  obtain ⟨y1, h1⟩ := trodR hlen hg 1 rfl Try.cellsU32
  obtain ⟨y2, h2⟩ := trodR hlen hg 2 rfl Try.cellsU32
  obtain ⟨a0, rfl, b0⟩ := trod_u32 h0
  obtain ⟨a1, rfl, b1⟩ := trod_u32 h1
  obtain ⟨a2, rfl, b2⟩ := trod_u32 h2
  exact ⟨a0, a1, a2, rfl, rfl, rfl, b0, b1, b2⟩
theorem trod_piece {base n : Nat} {spare : Nat → Bool} {held : Bool} {c0 c1 c2 c3 c4 c5 c6 c7 : Value} {y : DataW H × List MemPlace} (h : DataW.trod ench Try.prog W base spare held n 31 [c0, c1, c2, c3, c4, c5, c6, c7] = some y) :
    ∃ p : PC, [c0, c1, c2, c3, c4, c5, c6, c7] = encP p ∧ OkP p := by
  obtain ⟨xs, m, _, _, _, hlen, hg⟩ := DataW.trod_struct Try.underlying31 h
  obtain ⟨y0, h0⟩ := trodR hlen hg 0 rfl Try.cellsU32
  obtain ⟨y1, h1⟩ := trodR hlen hg 1 rfl Try.cellsPlace
  obtain ⟨y2, h2⟩ := trodR hlen hg 2 rfl Try.cellsPlace
  obtain ⟨y3, h3⟩ := trodR hlen hg 3 rfl Try.cellsInt
  obtain ⟨se, rfl, -⟩ := trod_u32 h0
  obtain ⟨f0, f1, f2, rfl, rfl, rfl, -⟩ := trod_place h1
  obtain ⟨t0, t1, t2, rfl, rfl, rfl, b0, -, b2⟩ := trod_place h2
  obtain ⟨pn, rfl, -⟩ := trod_intR Try.underlying3 h3
  exact ⟨⟨se, f0, f1, f2, t0, t1, t2, pn⟩, rfl, b0, b2⟩
/-- a slice of calls -/
theorem open_ops13 {b0 : Nat} {v : Value} {d : DataW H} {p : List MemPlace} (hv : Value.okWide Try.prog W .any b0 22 v) (h : DataW.Trod ench Try.prog W 0 (fun _ => true) true 22 v d p) :
    ∃ (V : Option Addr) (c : Nat) (l : List OC), v = .slice V l.length c ∧ Rw W encO 9 V l ∧ l.length ≤ maxLen ∧ OkO l ∧ OkO2 l := by
  obtain ⟨V, c, l, h1, h2, -, h4, h5⟩ := open_rows (enc := encO) (sz := 9) (ok := fun o => o.kd ≤ 255 ∧ OkP o.p) Try.underlying22 Try.cellsOp13 (by decide) (fun _ => rfl) (fun fuel cs x hl ht => by
    match cs, hl with
    | [c0, c1, c2, c3, c4, c5, c6, c7, c8], _ =>
      obtain ⟨xs, m, _, _, _, hlen, hg⟩ := DataW.trod_struct Try.underlying33 ht
      obtain ⟨y0, h0⟩ := trodR hlen hg 0 rfl Try.cellsU8
      obtain ⟨y1, h1⟩ := trodR hlen hg 1 rfl Try.cellsPiece
      obtain ⟨kd, rfl, hk⟩ := trod_u8 h0
      obtain ⟨q, hq, ho⟩ := trod_piece (show DataW.trod ench Try.prog W 0 (fun _ => true) true _ 31 [c1, c2, c3, c4, c5, c6, c7, c8] = _ from h1)
      exact ⟨⟨kd, q⟩, by unfold encO; rw [← hq], hk, ho⟩) hv h
  exact ⟨V, c, l, h1, h2, h4, fun o ho => (h5 o ho).1, fun o ho => (h5 o ho).2⟩
/-- a place by value -/
theorem open_placeArg {b0 : Nat} {v : Value} {d : DataW H} {p : List MemPlace} (hv : Value.okWide Try.prog W .any b0 29 v) (h : DataW.Trod ench Try.prog W 0 (fun _ => true) true 29 v d p) :
    ∃ a0 a1 a2 : Nat, v = .agg #[.int .u32 a0, .int .u32 a1, .int .u32 a2] := by
  obtain ⟨cs, rfl, hsz⟩ := okWide_struct Try.underlying29 hv
  obtain ⟨l⟩ := cs
  match l, hsz.trans Try.cellsPlace with
  | [c0, c1, c2], _ =>
    obtain ⟨fuel, hf⟩ := h
    obtain ⟨a0, a1, a2, rfl, rfl, rfl, -⟩ := trod_place (show DataW.trod ench Try.prog W 0 (fun _ => true) true fuel 29 [c0, c1, c2] = _ from hf)
    exact ⟨a0, a1, a2, rfl⟩
end

end Go.Proofs.Ytlchnpmiaemobaa
