/- Joined: FrameSn. -/
import Derived.Test.YtnjcdihgaidlbaaGreatDoorQ23
import Derived.Test.YtnjcdihgaidlbaaGreatDoorQ52
set_option linter.unusedSimpArgs false
set_option linter.unusedVariables false
set_option linter.unusedSimpArgs false
set_option linter.unusedVariables false
namespace Go.Proofs.YtnjcdihgaidlbaaGreatDoor
open Go.Joins Go.ChangeShapes Go.WideShapes Go.RowKit Go.Deep
set_option maxRecDepth 100000
section
variable {H : Type} {ench : TypeId × Value → H} {W : World}
theorem Tryz.cfCellsOf : Tryz.prog.cellsOf 26 = 6 := by kernel_rfl
theorem open_cfg {b0 : Nat} {v : Value} {d : DataW H} {p : List MemPlace} (hv : Value.okWide Tryz.prog W .any b0 26 v) (h : DataW.Trod ench Tryz.prog W 0 (fun _ => true) true 26 v d p) :
  ∃ y : Cf, v = y.v := by
 obtain ⟨cs, rfl, hsz⟩ := okWide_struct Tryz.underlying26 hv
 obtain ⟨l⟩ := cs
 match l, hsz.trans Tryz.cfCellsOf with
 | [c0, c1, c2, c3, c4, c5], _ =>
  obtain ⟨fuel, hf⟩ := h
  obtain ⟨xs, m, _, _, _, hlen, hg⟩ := DataW.trod_struct Tryz.underlying26 (show DataW.trod ench Tryz.prog W 0 (fun _ => true) true fuel 26 [c0, c1, c2, c3, c4, c5] = _ from hf)
  obtain ⟨y0, h0⟩ := trodR hlen hg 0 rfl Tryz.fCellsI
  obtain ⟨y1, h1⟩ := trodR hlen hg 1 rfl Tryz.fCellsI
  obtain ⟨y2, h2⟩ := trodR hlen hg 2 rfl Tryz.fCellsI
  obtain ⟨y3, h3⟩ := trodR hlen hg 3 rfl Tryz.fCellsI
  obtain ⟨y4, h4⟩ := trodR hlen hg 4 rfl Tryz.fCellsI
  obtain ⟨y5, h5⟩ := trodR hlen hg 5 rfl Tryz.fCellsI
  obtain ⟨a0, rfl, -⟩ := ftrod_int h0
  obtain ⟨a1, rfl, -⟩ := ftrod_int h1
  obtain ⟨a2, rfl, -⟩ := ftrod_int h2
  obtain ⟨a3, rfl, -⟩ := ftrod_int h3
  obtain ⟨a4, rfl, -⟩ := ftrod_int h4
  obtain ⟨a5, rfl, -⟩ := ftrod_int h5
  exact ⟨⟨a0, a1, a2, a3, a4, a5⟩, rfl⟩
end
end Go.Proofs.YtnjcdihgaidlbaaGreatDoor
