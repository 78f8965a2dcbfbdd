/- Joined: FrameA. -/
import Derived.Test.YtiipmjdmmoaodaaGreatDoorQ15
import Derived.Test.YtiipmjdmmoaodaaGreatDoorQ8
import Derived.Laws.Externs
import Derived.Shelf.Spec.BitsCarry
import Derived.Outline
import Derived.Lib.SmallJoins
import Derived.Deep.Fields
set_option linter.unusedSimpArgs false
set_option linter.unusedVariables false
/- An argument that is an aggregate, or a sample, by value. -/
namespace Go.Proofs.YtiipmjdmmoaodaaGreatDoor
open Go.Joins Go.ChangeShapes Go.WideShapes Go.RowKit Go.Deep
set_option maxRecDepth 100000

section
variable {H : Type} {enc : TypeId × Value → H} {W : World}
theorem trod_fld {P : Program} {base n : Nat} {spare : Nat → Bool} {held : Bool} {fs : Array Field} {cs : List Value} {xs : List (DataW H × List MemPlace)} (hlen : xs.length = fs.size)
    (hg : ∀ (i : Nat) (f : Field), fs[i]? = some f → DataW.trod enc P W base spare held n f.type ((cs.drop f.offset).take (P.cellsOf f.type)) = xs[i]?) (i : Nat) {ty : TypeId} {off k : Nat} (hf : fs[i]?.map (fun f => (f.type, f.offset)) = some (ty, off)) (hk : P.cellsOf ty = k) :
    ∃ y, DataW.trod enc P W base spare held n ty ((cs.drop off).take k) = some y := by
  obtain ⟨f, hff, e⟩ := Option.map_eq_some_iff.1 hf
  simp only [Prod.mk.injEq] at e
  obtain ⟨rfl, rfl⟩ := e
  subst hk
  have hi : i < xs.length := by rw [hlen]; exact (Array.getElem?_eq_some_iff.1 hff).1
  exact ⟨xs[i], (hg i f hff).trans (List.getElem?_eq_getElem hi)⟩

theorem Tryz.cellsU : Tryz.prog.cellsOf 26 = 1 := by kernel_rfl
theorem Tryz.cellsT : Tryz.prog.cellsOf 2 = 1 := by kernel_rfl
theorem Tryz.cellsS : Tryz.prog.cellsOf 33 = 2 := by kernel_rfl
theorem trod_u64 {base n : Nat} {spare : Nat → Bool} {held : Bool} {c : Value} {y : DataW H × List MemPlace} (h : DataW.trod enc Tryz.prog W base spare held n 26 [c] = some y) : ∃ x : Nat, c = .int .u64 x ∧ x < 18446744073709551616 := by
  obtain ⟨x, e, _, wx⟩ := DataW.trod_int Tryz.underlying26 h
  have hb := bounds_u64 wx
  simp at e
  exact ⟨x.toNat, by rw [e, Int.toNat_of_nonneg hb.1], by omega⟩
theorem trod_i64 {base n : Nat} {spare : Nat → Bool} {held : Bool} {c : Value} {y : DataW H × List MemPlace} (h : DataW.trod enc Tryz.prog W base spare held n 2 [c] = some y) : ∃ x : Int, c = .int .i64 x ∧ (-9223372036854775808 ≤ x ∧ x ≤ 9223372036854775807) := by
  obtain ⟨x, e, _, wx⟩ := DataW.trod_int Tryz.underlying2 h
  simp at e
  exact ⟨x, e, bounds_i64 wx⟩
theorem trod_smp {base n : Nat} {spare : Nat → Bool} {held : Bool} {c d : Value} {y : DataW H × List MemPlace} (h : DataW.trod enc Tryz.prog W base spare held n 33 [c, d] = some y) :
    ∃ (t : Int) (v : Nat), c = .int .i64 t ∧ d = .int .u64 v ∧ (-9223372036854775808 ≤ t ∧ t ≤ 9223372036854775807) ∧ v < 18446744073709551616 := by
  obtain ⟨xs, m, _, _, _, hlen, hg⟩ := DataW.trod_struct Tryz.underlying33 h
  obtain ⟨y0, h0⟩ := trod_fld hlen hg 0 rfl Tryz.cellsT
  obtain ⟨y1, h1⟩ := trod_fld hlen hg 1 rfl Tryz.cellsU
  obtain ⟨t, e0, b0⟩ := trod_i64 h0
  obtain ⟨v, e1, b1⟩ := trod_u64 h1
  exact ⟨t, v, e0, e1, b0, b1⟩
/-- api.Sample by value -/
theorem open_smpArg {b0 : Nat} {v : Value} {d : DataW H} {p : List MemPlace} (hv : Value.okWide Tryz.prog W .any b0 33 v) (h : DataW.Trod enc Tryz.prog W 0 (fun _ => true) true 33 v d p) :
    ∃ (t : Int) (u : Nat), v = .agg #[.int .i64 t, .int .u64 u] ∧ (-9223372036854775808 ≤ t ∧ t ≤ 9223372036854775807) ∧ u < 18446744073709551616 := by
  obtain ⟨cs, rfl, hsz⟩ := okWide_struct Tryz.underlying33 hv
  obtain ⟨l⟩ := cs
  match l, hsz.trans Tryz.cellsS with
  | [c0, c1], _ =>
    obtain ⟨fuel, hf⟩ := h
    obtain ⟨t, u, rfl, rfl, hb, hu⟩ := trod_smp (show DataW.trod enc Tryz.prog W 0 (fun _ => true) true fuel 33 [c0, c1] = _ from hf)
    exact ⟨t, u, rfl, hb, hu⟩
end

end Go.Proofs.YtiipmjdmmoaodaaGreatDoor
