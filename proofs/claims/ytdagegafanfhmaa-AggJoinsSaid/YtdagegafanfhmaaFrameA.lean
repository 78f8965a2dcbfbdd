/- An argument that is an aggregate, or a sample, by value. -/
import Derived.Test.YtdagegafanfhmaaFrame0
import Derived.Test.YtdagegafanfhmaaAgg1
import Derived.Lib.SmallJoins
import Derived.Deep.Fields
namespace Go.Proofs.Ytdagegafanfhmaa
open Go.Joins Go.ChangeShapes Go.WideShapes Go.RowKit Go.Deep

section
variable {H : Type} {enc : TypeId × Value → H} {W : World}
theorem trod_fld {P : Program} {base n : Nat} {spare : Nat → Bool} {held : Bool} {fs : Array Field} {cs : List Value} {xs : List (DataW H × List MemPlace)} (hlen : xs.length = fs.size)
    (hg : ∀ (i : Nat) (f : Field), fs[i]? = some f → DataW.trod enc P W base spare held n f.type ((cs.drop f.offset).take (P.cellsOf f.type)) = xs[i]?) (i : Nat) {ty : TypeId} {off k : Nat} (hf : fs[i]?.map (fun f => (f.type, f.offset)) = some (ty, off)) (hk : P.cellsOf ty = k) :
    ∃ y, DataW.trod enc P W base spare held n ty ((cs.drop off).take k) = some y := by
  obtain ⟨f, hff, e⟩ := Option.map_eq_some_iff.1 hf
  simp only [Prod.mk.injEq] at e
  obtain ⟨rfl, rfl⟩ := e
  subst hk
  have hi : i < xs.length := by rw [hlen]; exact (Array.getElem?_eq_some_iff.1 hff).1
  exact ⟨xs[i], (hg i f hff).trans (List.getElem?_eq_getElem hi)⟩

theorem Try.cellsU : Try.prog.cellsOf 34 = 1 := by kernel_rfl
theorem Try.cellsT : Try.prog.cellsOf 2 = 1 := by kernel_rfl
theorem Try.cellsS : Try.prog.cellsOf 48 = 2 := by kernel_rfl
theorem Try.cellsG : Try.prog.cellsOf 50 = 9 := by kernel_rfl

theorem trod_u64 {base n : Nat} {spare : Nat → Bool} {held : Bool} {c : Value} {y : DataW H × List MemPlace} (h : DataW.trod enc Try.prog W base spare held n 34 [c] = some y) : ∃ x : Nat, c = .int .u64 x ∧ x < 18446744073709551616 := by
  obtain ⟨x, e, _, wx⟩ := DataW.trod_int Try.underlying34 h
  have hb := bounds_u64 wx
  simp at e
  exact ⟨x.toNat, by rw [e, Int.toNat_of_nonneg hb.1], by omega⟩
theorem trod_i64 {base n : Nat} {spare : Nat → Bool} {held : Bool} {c : Value} {y : DataW H × List MemPlace} (h : DataW.trod enc Try.prog W base spare held n 2 [c] = some y) : ∃ x : Int, c = .int .i64 x ∧ (-9223372036854775808 ≤ x ∧ x ≤ 9223372036854775807) := by
  obtain ⟨x, e, _, wx⟩ := DataW.trod_int Try.underlying2 h
  simp at e
  exact ⟨x, e, bounds_i64 wx⟩
theorem trod_smp {base n : Nat} {spare : Nat → Bool} {held : Bool} {c d : Value} {y : DataW H × List MemPlace} (h : DataW.trod enc Try.prog W base spare held n 48 [c, d] = some y) :
    ∃ (t : Int) (v : Nat), c = .int .i64 t ∧ d = .int .u64 v ∧ (-9223372036854775808 ≤ t ∧ t ≤ 9223372036854775807) ∧ v < 18446744073709551616 := by
  obtain ⟨xs, m, _, _, _, hlen, hg⟩ := DataW.trod_struct Try.underlying48 h
  obtain ⟨y0, h0⟩ := trod_fld hlen hg 0 rfl Try.cellsT
  obtain ⟨y1, h1⟩ := trod_fld hlen hg 1 rfl Try.cellsU
  obtain ⟨t, e0, b0⟩ := trod_i64 h0
  obtain ⟨v, e1, b1⟩ := trod_u64 h1
  exact ⟨t, v, e0, e1, b0, b1⟩
/-- api.Sample by value -/
theorem open_smpArg {b0 : Nat} {v : Value} {d : DataW H} {p : List MemPlace} (hv : Value.okWide Try.prog W .any b0 48 v) (h : DataW.Trod enc Try.prog W 0 (fun _ => true) true 48 v d p) :
    ∃ (t : Int) (u : Nat), v = .agg #[.int .i64 t, .int .u64 u] ∧ (-9223372036854775808 ≤ t ∧ t ≤ 9223372036854775807) ∧ u < 18446744073709551616 := by
  obtain ⟨cs, rfl, hsz⟩ := okWide_struct Try.underlying48 hv
  obtain ⟨l⟩ := cs
  match l, hsz.trans Try.cellsS with
  | [c0, c1], _ =>
    obtain ⟨fuel, hf⟩ := h
    obtain ⟨t, u, rfl, rfl, hb, hu⟩ := trod_smp (show DataW.trod enc Try.prog W 0 (fun _ => true) true fuel 48 [c0, c1] = _ from hf)
    exact ⟨t, u, rfl, hb, hu⟩
/-- api.Agg by value -/
theorem open_aggArg {b0 : Nat} {v : Value} {d : DataW H} {p : List MemPlace} (hv : Value.okWide Try.prog W .any b0 50 v) (h : DataW.Trod enc Try.prog W 0 (fun _ => true) true 50 v d p) :
    ∃ a : AggD, v = .agg a.cells ∧ a.ok := by
  obtain ⟨cs, rfl, hsz⟩ := okWide_struct Try.underlying50 hv
  obtain ⟨l⟩ := cs
  match l, hsz.trans Try.cellsG with
  | [c0, c1, c2, c3, c4, c5, c6, c7, c8], _ =>
    obtain ⟨fuel, hf⟩ := h
    obtain ⟨xs, n, _, _, _, hlen, hg⟩ := DataW.trod_struct Try.underlying50 (show DataW.trod enc Try.prog W 0 (fun _ => true) true fuel 50 [c0, c1, c2, c3, c4, c5, c6, c7, c8] = _ from hf)
    obtain ⟨y0, h0⟩ := trod_fld hlen hg 0 rfl Try.cellsU
    obtain ⟨y1, h1⟩ := trod_fld hlen hg 1 rfl Try.cellsS
    obtain ⟨y2, h2⟩ := trod_fld hlen hg 2 rfl Try.cellsS
    obtain ⟨y3, h3⟩ := trod_fld hlen hg 3 rfl Try.cellsU
    obtain ⟨y4, h4⟩ := trod_fld hlen hg 4 rfl Try.cellsU
    obtain ⟨y5, h5⟩ := trod_fld hlen hg 5 rfl Try.cellsU
    obtain ⟨y6, h6⟩ := trod_fld hlen hg 6 rfl Try.cellsU
    obtain ⟨n0, rfl, b0⟩ := trod_u64 h0
    obtain ⟨ft, fv, rfl, rfl, b1, b2⟩ := trod_smp h1
    obtain ⟨lt, lv, rfl, rfl, b3, b4⟩ := trod_smp h2
    obtain ⟨mn, rfl, b5⟩ := trod_u64 h3
    obtain ⟨mx, rfl, b6⟩ := trod_u64 h4
    obtain ⟨hi, rfl, b7⟩ := trod_u64 h5
    obtain ⟨lo, rfl, b8⟩ := trod_u64 h6
    exact ⟨⟨n0, ft, fv, lt, lv, mn, mx, hi, lo⟩, rfl, b0, b1, b2, b3, b4, b5, b6, b7, b8⟩
end

end Go.Proofs.Ytdagegafanfhmaa
