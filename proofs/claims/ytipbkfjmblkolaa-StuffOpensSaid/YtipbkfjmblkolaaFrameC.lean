/- An argument that is a slice of bytes, with its cap. -/
import Derived.Test.YtipbkfjmblkolaaFrameB
import Derived.Test.YtipbkfjmblkolaaStf3
namespace Go.Proofs.Ytipbkfjmblkolaa
open Go.ChangeShapes Go.WideShapes Go.ChangeAt Go.RowKit Go.Joins
section
variable {H : Type} {enc : TypeId × Value → H} {W : World}

set_option maxRecDepth 100000 in
theorem open_bytesCapArg {b0 : Nat} {v : Value} {d : DataW H} {p : List MemPlace} (hv : Value.okWide Try.prog W .any b0 22 v) (h : DataW.Trod enc Try.prog W 0 (fun _ => true) true 22 v d p) :
    ∃ (A : Option Addr) (c : Nat) (l : List UInt8), v = .slice A l.length c ∧ Bs W A l ∧ l.length ≤ c ∧ Fm A c := by
  obtain ⟨a, len, cap, rfl⟩ := okWide_slice Try.underlying22 hv
  obtain ⟨n, h⟩ := h
  have h2 := h
  obtain ⟨A, c, l, e, hl, hb⟩ := open_bytes h
  refine ⟨A, c, l, e, hb, ?_⟩
  rcases open_ints Try.underlying22 Try.underlying5 (by kernel_rfl) h2 with ⟨hcs, _⟩ | ⟨a', len', cap', zs, hcs, _, hlc, hm, hz, _, hcell, _⟩
  · injection hcs with hcs _
    injection hcs with e1 e2 e3
    subst e1 e2 e3
    injection e with e1 e2 e3
    subst e3
    exact ⟨by omega, .inl rfl⟩
  · injection hcs with hcs _
    injection hcs with e1 e2 e3
    subst e1 e2 e3
    injection e with e1 e2 e3
    subst e1 e2 e3
    refine ⟨hlc, ?_⟩
    rcases Nat.eq_zero_or_pos cap with h0 | h0
    · exact .inl h0
    · obtain ⟨p, o, spot⟩ := a'
      have hc0 := hcell 0 (by rw [hz, if_pos rfl]; exact h0)
      have hs : spot = none := by simpa [Addr.add] using World.cell?_spot hc0
      subst hs
      exact .inr ⟨p, o, rfl⟩
end
end Go.Proofs.Ytipbkfjmblkolaa
