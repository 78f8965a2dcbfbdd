/- Joined: FrameX. -/
import Derived.Test.YtiipmjdmmoaodaaDoorQ15
import Derived.Test.YtiipmjdmmoaodaaDoorRows
import Derived.Test.YtiipmjdmmoaodaaDoorQ4
import Derived.LaidMore
import Derived.MakeChecks
import Derived.Lib.LaidTab
import Derived.Lib.SmallJoins
import Derived.Deep.Fields
import Derived.Stop.Joined
set_option linter.unusedSimpArgs false
set_option linter.unusedVariables false
/- Frames of layer 3's cards: what is known as an argument; the listed table's cells; the witness. -/
namespace Go.Proofs.YtiipmjdmmoaodaaDoor
open Go.Joins Go.ChangeShapes Go.WideShapes Go.RowKit Go.Deep
set_option maxRecDepth 100000

section
variable {H : Type} {enc : TypeId × Value → H} {W : World}
theorem trod_fldX {P : Program} {base n : Nat} {spare : Nat → Bool} {held : Bool} {fs : Array Field} {cs : List Value} {xs : List (DataW H × List MemPlace)} (hlen : xs.length = fs.size)
    (hg : ∀ (i : Nat) (f : Field), fs[i]? = some f → DataW.trod enc P W base spare held n f.type ((cs.drop f.offset).take (P.cellsOf f.type)) = xs[i]?) (i : Nat) {ty : TypeId} {off k : Nat} (hf : fs[i]?.map (fun f => (f.type, f.offset)) = some (ty, off)) (hk : P.cellsOf ty = k) :
    ∃ y, DataW.trod enc P W base spare held n ty ((cs.drop off).take k) = some y := by
  obtain ⟨f, hff, e⟩ := Option.map_eq_some_iff.1 hf
  simp only [Prod.mk.injEq] at e
  obtain ⟨rfl, rfl⟩ := e
  subst hk
  have hi : i < xs.length := by rw [hlen]; exact (Array.getElem?_eq_some_iff.1 hff).1
  exact ⟨xs[i], (hg i f hff).trans (List.getElem?_eq_getElem hi)⟩

theorem Tryd.cellsXU : Tryd.prog.cellsOf 40 = 1 := by kernel_rfl
theorem Tryd.cellsX8 : Tryd.prog.cellsOf 5 = 1 := by kernel_rfl
theorem Tryd.cellsXB : Tryd.prog.cellsOf 4 = 1 := by kernel_rfl
theorem Tryd.cellsXV : Tryd.prog.cellsOf 78 = 4 := by kernel_rfl

theorem trodX_u64 {base n : Nat} {spare : Nat → Bool} {held : Bool} {c : Value} {y : DataW H × List MemPlace} (h : DataW.trod enc Tryd.prog W base spare held n 40 [c] = some y) : ∃ x : Nat, c = .int .u64 x ∧ x < 18446744073709551616 := by
  obtain ⟨x, e, _, wx⟩ := DataW.trod_int Tryd.underlying40 h
  have hb := bounds_u64 wx
  simp at e
  exact ⟨x.toNat, by rw [e, Int.toNat_of_nonneg hb.1], by omega⟩
theorem trodX_u8 {base n : Nat} {spare : Nat → Bool} {held : Bool} {c : Value} {y : DataW H × List MemPlace} (h : DataW.trod enc Tryd.prog W base spare held n 5 [c] = some y) : ∃ x : Nat, c = .int .u8 x ∧ x < 256 := by
  obtain ⟨x, e, _, wx⟩ := DataW.trod_int Tryd.underlying5 h
  have hb := bounds_u8 wx
  simp at e
  exact ⟨x.toNat, by rw [e, Int.toNat_of_nonneg hb.1], by omega⟩
theorem trodX_bool {base n : Nat} {spare : Nat → Bool} {held : Bool} {c : Value} {y : DataW H × List MemPlace} (h : DataW.trod enc Tryd.prog W base spare held n 4 [c] = some y) : ∃ b : Bool, c = .bool b := by
  obtain ⟨b, e, _⟩ := DataW.trod_bool Tryd.underlying4 h
  simp at e
  exact ⟨b, e⟩
/-- api.Val by value -/
theorem open_valArg {b0 : Nat} {v : Value} {d : DataW H} {p : List MemPlace} (hv : Value.okWide Tryd.prog W .any b0 78 v) (h : DataW.Trod enc Tryd.prog W 0 (fun _ => true) true 78 v d p) :
    ∃ (h : Bool) (p l b : Nat), v = .agg #[.bool h, .int .u64 p, .int .u8 l, .int .u8 b] ∧ p < 18446744073709551616 ∧ l < 256 ∧ b < 256 := by
  obtain ⟨cs, rfl, hsz⟩ := okWide_struct Tryd.underlying78 hv
  obtain ⟨l⟩ := cs
  match l, hsz.trans Tryd.cellsXV with
  | [c0, c1, c2, c3], _ =>
    obtain ⟨fuel, hf⟩ := h
    obtain ⟨xs, n, _, _, _, hlen, hg⟩ := DataW.trod_struct Tryd.underlying78 (show DataW.trod enc Tryd.prog W 0 (fun _ => true) true fuel 78 [c0, c1, c2, c3] = _ from hf)
    obtain ⟨y0, h0⟩ := trod_fldX hlen hg 0 rfl Tryd.cellsXB
    obtain ⟨y1, h1⟩ := trod_fldX hlen hg 1 rfl Tryd.cellsXU
    obtain ⟨y2, h2⟩ := trod_fldX hlen hg 2 rfl Tryd.cellsX8
    obtain ⟨y3, h3⟩ := trod_fldX hlen hg 3 rfl Tryd.cellsX8
    obtain ⟨b, rfl⟩ := trodX_bool h0
    obtain ⟨q, rfl, b1⟩ := trodX_u64 h1
    obtain ⟨l, rfl, b2⟩ := trodX_u8 h2
    obtain ⟨m, rfl, b3⟩ := trodX_u8 h3
    exact ⟨b, q, l, m, rfl, b1, b2, b3⟩
end

set_option maxRecDepth 100000 in
/-- the door's own heap meets the condition -/
theorem door_metX (os : Os) (args : Array Value) : laidMetH Tryd.prog [("math/bits.deBruijn64tab", Rows.laid_math_bits_deBruijn64tab)] ((World.doorLaid Tryd.prog 14 os).forCall (fun _ _ => 0) ⟨#[], args, []⟩).memory :=
  laidMetH_of_parts3 (fuel := 8) (laidMet_of_run' 8 (by kernel_rfl) (by kernel_rfl)) (by kernel_rfl) (by kernel_rfl)

set_option maxRecDepth 100000 in
/-- what the condition gives the walks -/
theorem tab_of_laid {W : World} (h : laidMetH Tryd.prog [("math/bits.deBruijn64tab", Rows.laid_math_bits_deBruijn64tab)] W) : YtiipmjdmmoaodaaDoor.Tab W := by
  rw [MakeChecks.laidMetH_plain _ _ _ (by kernel_rfl)] at h
  have e : (Rows.laid_math_bits_deBruijn64tab : DataW Unit) = Lib.tabData .u8 (Lib.deBruijn64tab.map Int.ofNat) := by kernel_rfl
  rw [e] at h
  have hg : Tryd.prog.globalNamed "math/bits.deBruijn64tab" = some 0 := by kernel_rfl
  have h' := Lib.tabIs_of_head (t := 197) (e := 5) (n := 64) hg (by kernel_rfl) Tryd.underlying197 Tryd.underlying5 (by kernel_rfl) (by kernel_rfl) h
  intro j hj
  have := World.var?_cell hg h' j
  rw [this]
  simp only [List.map_map, List.getElem?_toArray, List.getElem?_map, List.getElem?_eq_getElem hj, Option.map_some, Function.comp, List.getD_eq_getElem?_getD, Option.getD_some]
  rfl

end Go.Proofs.YtiipmjdmmoaodaaDoor
