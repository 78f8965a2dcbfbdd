/- An argument that is a slice of bytes, with its cap's bound. -/
import Derived.Test.YtanenfbfcbkdhaaFrameY
namespace Go.Proofs.Ytanenfbfcbkdhaa
open Go.ChangeShapes Go.WideShapes Go.ChangeAt Go.RowKit Go.Joins
set_option maxRecDepth 100000
section
variable {H : Type} {enc : TypeId × Value → H} {W : World}

theorem open_bytesLArg {b0 : Nat} {v : Value} {d : DataW H} {p : List MemPlace} (hv : Value.okWide Try.prog W .any b0 22 v) (h : DataW.Trod enc Try.prog W 0 (fun _ => true) true 22 v d p) :
    ∃ (A : Option Addr) (c : Nat) (l : List UInt8), v = .slice A l.length c ∧ Bs W A l ∧ l.length ≤ c ∧ l.length ≤ maxLen := by
  obtain ⟨a, len, cap, rfl⟩ := okWide_slice Try.underlying22 hv
  obtain ⟨n, h⟩ := h
  have h2 := h
  obtain ⟨A, c, l, e, hl, hb⟩ := open_bytes h
  refine ⟨A, c, l, e, hb, ?_, hl⟩
  rcases open_ints Try.underlying22 Try.underlying5 (by kernel_rfl) h2 with ⟨hcs, _⟩ | ⟨a', len', cap', zs, hcs, _, hlc, hm, hz, _, hcell, _⟩
  · injection hcs with hcs _
    injection hcs with e1 e2 e3
    subst e1 e2 e3
    injection e with e1 e2 e3
    omega
  · injection hcs with hcs _
    injection hcs with e1 e2 e3
    subst e1 e2 e3
    injection e with e1 e2 e3
    omega
end
end Go.Proofs.Ytanenfbfcbkdhaa
