/- Arguments of layer 23's statements: spans. -/
import Derived.Test.YtfbnobhecfgahaaFrameS
import Derived.Test.YtfbnobhecfgahaaSp1
set_option linter.unusedSimpArgs false
set_option linter.unusedVariables false
namespace Go.Proofs.Ytfbnobhecfgahaa
open Go.Joins Go.ChangeShapes Go.WideShapes Go.RowKit Go.Deep
set_option maxRecDepth 100000

section
variable {H : Type} {ench : TypeId × Value → H} {W : World}
theorem Try.cellsI64 : Try.prog.cellsOf 2 = 1 := by kernel_rfl
theorem Try.cellsSpan : Try.prog.cellsOf 24 = 2 := by kernel_rfl
theorem trod_tm {base n : Nat} {spare : Nat → Bool} {held : Bool} {c : Value} {y : DataW H × List MemPlace} (h : DataW.trod ench Try.prog W base spare held n 2 [c] = some y) : ∃ x : Int, c = .int .i64 x ∧ In x := by
  obtain ⟨x, e, _, wx⟩ := DataW.trod_int Try.underlying2 h
  simp at e
  exact ⟨x, e, bounds_i64 wx⟩
theorem trod_span {base n : Nat} {spare : Nat → Bool} {held : Bool} {c d : Value} {y : DataW H × List MemPlace} (h : DataW.trod ench Try.prog W base spare held n 24 [c, d] = some y) :
    ∃ x : Sp, [c, d] = encS x ∧ In x.1 ∧ In x.2 := by
  obtain ⟨xs, m, _, _, _, hlen, hg⟩ := DataW.trod_struct Try.underlying24 h
  obtain ⟨y0, h0⟩ := trodR hlen hg 0 rfl Try.cellsI64
  obtain ⟨y1, h1⟩ := trodR hlen hg 1 rfl Try.cellsI64
  obtain ⟨a0, rfl, b0⟩ := trod_tm h0
  obtain ⟨a1, rfl, b1⟩ := trod_tm h1
  exact ⟨(a0, a1), rfl, b0, b1⟩
theorem open_spans {b0 : Nat} {v : Value} {d : DataW H} {p : List MemPlace} (hv : Value.okWide Try.prog W .any b0 22 v) (h : DataW.Trod ench Try.prog W 0 (fun _ => true) true 22 v d p) :
    ∃ (V : Option Addr) (c : Nat) (l : List Sp), v = .slice V l.length c ∧ Ps W V l ∧ InL l := by
  obtain ⟨V, c, l, h1, h2, -, h4, h5⟩ := open_rows (enc := encS) (sz := 2) (ok := fun x => In x.1 ∧ In x.2) Try.underlying22 Try.cellsSpan (by decide) (fun _ => rfl) (fun fuel cs x hl ht => by
    match cs, hl with
    | [c0, c1], _ => exact trod_span ht) hv h
  exact ⟨V, c, l, h1, h2, h5⟩
theorem open_spanArg {b0 : Nat} {v : Value} {d : DataW H} {p : List MemPlace} (hv : Value.okWide Try.prog W .any b0 24 v) (h : DataW.Trod ench Try.prog W 0 (fun _ => true) true 24 v d p) :
    ∃ x1 x2 : Int, v = .agg #[.int .i64 x1, .int .i64 x2] ∧ In x1 ∧ In x2 := by
  obtain ⟨cs, rfl, hsz⟩ := okWide_struct Try.underlying24 hv
  obtain ⟨l⟩ := cs
  match l, hsz.trans Try.cellsSpan with
  | [c0, c1], _ =>
    obtain ⟨fuel, hf⟩ := h
    obtain ⟨x, hx, b0, b1⟩ := trod_span (show DataW.trod ench Try.prog W 0 (fun _ => true) true fuel 24 [c0, c1] = _ from hf)
    exact ⟨x.1, x.2, by rw [hx]; rfl, b0, b1⟩
end

end Go.Proofs.Ytfbnobhecfgahaa
