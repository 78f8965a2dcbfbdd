/- Joined: FrameLf. -/
import Derived.Test.YtiliineopplinaaDoorQ22
import Derived.Test.YtiliineopplinaaDoorQ50
set_option linter.unusedSimpArgs false
set_option linter.unusedVariables false
/- Arguments of layer 26's statements: leaves. -/
set_option linter.unusedSimpArgs false
set_option linter.unusedVariables false
namespace Go.Proofs.YtiliineopplinaaDoor
open Go.Joins Go.ChangeShapes Go.WideShapes Go.RowKit Go.Deep
set_option maxRecDepth 100000

section
variable {H : Type} {ench : TypeId × Value → H} {W : World}
theorem Tryd.lfCellsOf : Tryd.prog.cellsOf 26 = 4 := by kernel_rfl
theorem open_leaves {b0 : Nat} {v : Value} {d : DataW H} {p : List MemPlace} (hv : Value.okWide Tryd.prog W .any b0 22 v) (h : DataW.Trod ench Tryd.prog W 0 (fun _ => true) true 22 v d p) :
    ∃ (V : Option Addr) (c : Nat) (l : List LfD), v = .slice V l.length c ∧ Rw W encLf 4 V l ∧ l.length ≤ maxLen ∧ ∀ x ∈ l, LfOk x := by
  obtain ⟨V, c, l, h1, h2, -, h4, h5⟩ := open_rows (enc := encLf) (sz := 4) (ok := fun o => LfOk o) Tryd.underlying22 Tryd.lfCellsOf (by decide) (fun _ => rfl) (fun fuel cs x hl ht => by
    match cs, hl with
    | [c0, c1, c2, c3], _ =>
      obtain ⟨xs, m, _, _, _, hlen, hg⟩ := DataW.trod_struct Tryd.underlying26 ht
      obtain ⟨y0, h0⟩ := trodR hlen hg 0 rfl Tryd.fCellsU32
      obtain ⟨y1, h1⟩ := trodR hlen hg 1 rfl Tryd.fCellsU32
      obtain ⟨y2, h2⟩ := trodR hlen hg 2 rfl Tryd.fCellsU32
      obtain ⟨y3, h3⟩ := trodR hlen hg 3 rfl Tryd.fCellsU64
      obtain ⟨a0, rfl, o0⟩ := ftrod_u32 h0
      obtain ⟨a1, rfl, o1⟩ := ftrod_u32 h1
      obtain ⟨a2, rfl, o2⟩ := ftrod_u32 h2
      obtain ⟨a3, rfl, o3⟩ := ftrod_u64 h3
      exact ⟨⟨a0, a1, a2, a3⟩, rfl, o0, o1, o2, o3⟩) hv h
  exact ⟨V, c, l, h1, h2, h4, h5⟩
theorem open_leafArg {b0 : Nat} {v : Value} {d : DataW H} {p : List MemPlace} (hv : Value.okWide Tryd.prog W .any b0 26 v) (h : DataW.Trod ench Tryd.prog W 0 (fun _ => true) true 26 v d p) :
    ∃ (y : LfD), v = .agg #[.int .u32 ((y.1 : Nat) : Int), .int .u32 ((y.2.1 : Nat) : Int), .int .u32 ((y.2.2.1 : Nat) : Int), .int .u64 ((y.2.2.2 : Nat) : Int)] ∧ LfOk y := by
  obtain ⟨cs, rfl, hsz⟩ := okWide_struct Tryd.underlying26 hv
  obtain ⟨l⟩ := cs
  match l, hsz.trans Tryd.lfCellsOf with
  | [c0, c1, c2, c3], _ =>
    obtain ⟨fuel, hf⟩ := h
    obtain ⟨xs, m, _, _, _, hlen, hg⟩ := DataW.trod_struct Tryd.underlying26 (show DataW.trod ench Tryd.prog W 0 (fun _ => true) true fuel 26 [c0, c1, c2, c3] = _ from hf)
    obtain ⟨y0, h0⟩ := trodR hlen hg 0 rfl Tryd.fCellsU32
    obtain ⟨y1, h1⟩ := trodR hlen hg 1 rfl Tryd.fCellsU32
    obtain ⟨y2, h2⟩ := trodR hlen hg 2 rfl Tryd.fCellsU32
    obtain ⟨y3, h3⟩ := trodR hlen hg 3 rfl Tryd.fCellsU64
    obtain ⟨a0, rfl, o0⟩ := ftrod_u32 h0
    obtain ⟨a1, rfl, o1⟩ := ftrod_u32 h1
    obtain ⟨a2, rfl, o2⟩ := ftrod_u32 h2
    obtain ⟨a3, rfl, o3⟩ := ftrod_u64 h3
    exact ⟨⟨a0, a1, a2, a3⟩, rfl, o0, o1, o2, o3⟩
end
end Go.Proofs.YtiliineopplinaaDoor
