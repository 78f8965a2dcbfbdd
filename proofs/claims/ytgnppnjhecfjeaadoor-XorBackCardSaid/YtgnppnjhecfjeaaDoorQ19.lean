/- Joined: FrameU. -/
import Derived.Test.YtgnppnjhecfjeaaDoorQ10
import Derived.Test.YtgnppnjhecfjeaaDoorQ18
set_option linter.unusedSimpArgs false
set_option linter.unusedVariables false
/- The parameters of the statements, opened: slices of numbers of 64 bits. -/
namespace Go.Proofs.YtgnppnjhecfjeaaDoor
open Go.ChangeShapes Go.WideShapes Go.ChangeAt Go.RowKit Go.Joins
set_option maxRecDepth 100000

section
variable {H : Type} {enc : TypeId × Value → H} {W : World}

/-- a slice of uint64 -/
theorem open_u64l {b0 : Nat} {v : Value} {d : DataW H} {p : List MemPlace} (hv : Value.okWide Tryd.prog W .any b0 36 v) (h : DataW.Trod enc Tryd.prog W 0 (fun _ => true) true 36 v d p) :
    ∃ (V : Option Addr) (c : Nat) (l : List Nat), v = .slice V l.length c ∧ Us W V l ∧ l.length ≤ maxLen ∧ ∀ x ∈ l, x < 18446744073709551616 := by
  obtain ⟨a0, len0, cap0, rfl⟩ := okWide_slice Tryd.underlying36 hv
  obtain ⟨n, h⟩ := h
  obtain ⟨l, hl, hV, hm, hw⟩ := open_intsV Tryd.underlying36 Tryd.underlying25 (by kernel_rfl) h
  have hb : ∀ x ∈ l, 0 ≤ x ∧ x ≤ 18446744073709551615 := fun x hx => bounds_u64 (hw x hx)
  refine ⟨a0, cap0, l.map Int.toNat, by rw [List.length_map, hl], fun i x hi => ?_, by rw [List.length_map]; omega, fun x hx => ?_⟩
  · rw [List.getElem?_map] at hi
    obtain ⟨y, hy, rfl⟩ := Option.map_eq_some_iff.1 hi
    obtain ⟨p, o, hA, hc⟩ := hV i (.int .u64 y) (by rw [List.getElem?_map, hy]; rfl)
    refine ⟨p, o, hA, ?_⟩
    rw [hc, Int.toNat_of_nonneg (hb y (List.mem_of_getElem? hy)).1]
  · obtain ⟨y, hy, rfl⟩ := List.mem_map.1 hx
    have := hb y hy
    omega
end

end Go.Proofs.YtgnppnjhecfjeaaDoor
