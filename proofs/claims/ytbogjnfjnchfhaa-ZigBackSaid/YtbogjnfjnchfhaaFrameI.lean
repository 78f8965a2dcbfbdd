/- The parameters of the statements, opened: slices of numbers. -/
import Derived.Test.YtbogjnfjnchfhaaFrameV
namespace Go.Proofs.Ytbogjnfjnchfhaa
open Go.ChangeShapes Go.WideShapes Go.ChangeAt Go.RowKit Go.Joins

section
variable {H : Type} {enc : TypeId × Value → H} {W : World}

/-- a slice of int64 -/
theorem open_i64l {b0 : Nat} {v : Value} {d : DataW H} {p : List MemPlace} (hv : Value.okWide Try.prog W .any b0 40 v) (h : DataW.Trod enc Try.prog W 0 (fun _ => true) true 40 v d p) :
    ∃ (V : Option Addr) (c : Nat) (l : List Int), v = .slice V l.length c ∧ Vs W V (l.map (Value.int .i64)) ∧ l.length ≤ maxLen ∧ ∀ x ∈ l, -9223372036854775808 ≤ x ∧ x ≤ 9223372036854775807 := by
  obtain ⟨a0, len0, cap0, rfl⟩ := okWide_slice Try.underlying40 hv
  obtain ⟨n, h⟩ := h
  obtain ⟨l, hl, hV, hm, hw⟩ := open_intsV Try.underlying40 Try.underlying2 (by kernel_rfl) h
  exact ⟨a0, cap0, l, by rw [hl], hV, by omega, fun x hx => bounds_i64 (hw x hx)⟩
end

end Go.Proofs.Ytbogjnfjnchfhaa
