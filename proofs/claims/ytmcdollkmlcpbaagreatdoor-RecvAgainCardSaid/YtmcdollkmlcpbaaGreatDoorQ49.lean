/- Joined: FrameRv. -/
import Derived.Test.YtmcdollkmlcpbaaGreatDoorQ48
import Derived.Test.YtmcdollkmlcpbaaGreatDoorQ44
set_option linter.unusedSimpArgs false
set_option linter.unusedVariables false
set_option linter.unusedSimpArgs false
set_option linter.unusedVariables false
namespace Go.Proofs.YtmcdollkmlcpbaaGreatDoor
open Go.Joins Go.ChangeShapes Go.WideShapes Go.RowKit Go.Deep
set_option maxRecDepth 100000
section
variable {H : Type} {ench : TypeId × Value → H} {W : World}
theorem open_frames {b0 : Nat} {v : Value} {d : DataW H} {p : List MemPlace} (hv : Value.okWide Tryz.prog W .any b0 23 v) (h : DataW.Trod ench Tryz.prog W 0 (fun _ => true) true 23 v d p) :
  ∃ (V : Option Addr) (c : Nat) (l : List FrE), v = .slice V l.length c ∧ Rw W encFrE 11 V l ∧ l.length ≤ maxLen ∧ ∀ x ∈ l, x.f.ok ∧ Bs W x.A x.f.l := by
 obtain ⟨V, c, l, h1, h2, -, h4, h5⟩ := open_rows (enc := encFrE) (sz := 11) (ok := fun x : FrE => x.f.ok ∧ Bs W x.A x.f.l) Tryz.underlying23 Tryz.fCellsF (by decide) (fun _ => rfl) (fun fuel cs x hl ht => by
  match cs, hl with
  | [c0, c1, c2, c3, c4, c5, c6, c7, c8, c9, c10], _ =>
   obtain ⟨A, cc, f, hf, hb, hl2, ho⟩ := ftrod_frame ht
   exact ⟨⟨f, A, cc⟩, hf, ho, hb⟩) hv h
 exact ⟨V, c, l, h1, h2, h4, h5⟩
end
end Go.Proofs.YtmcdollkmlcpbaaGreatDoor
