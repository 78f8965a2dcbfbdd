/- A struct of nine cells, written whole. -/
import Derived.Test.YtdagegafanfhmaaUp
namespace Go.Proofs.Ytdagegafanfhmaa
open Go.RowKit

theorem Blk.set9 {w : World} {g : Nat} {t : TypeId} {b0 b1 b2 b3 b4 b5 b6 b7 b8 : Value} (h : Blk w g t #[b0, b1, b2, b3, b4, b5, b6, b7, b8]) (a0 a1 a2 a3 a4 a5 a6 a7 a8 : Value) :
    Blk (((((((((w.setCell ⟨g, 0, none⟩ a0).setCell ⟨g, 1, none⟩ a1).setCell ⟨g, 2, none⟩ a2).setCell ⟨g, 3, none⟩ a3).setCell ⟨g, 4, none⟩ a4).setCell ⟨g, 5, none⟩ a5).setCell ⟨g, 6, none⟩ a6).setCell ⟨g, 7, none⟩ a7).setCell ⟨g, 8, none⟩ a8) g t #[a0, a1, a2, a3, a4, a5, a6, a7, a8] := by
  have h0 : Blk _ g t #[a0, b1, b2, b3, b4, b5, b6, b7, b8] := h.set 0 a0
  have h1 : Blk _ g t #[a0, a1, b2, b3, b4, b5, b6, b7, b8] := h0.set 1 a1
  have h2 : Blk _ g t #[a0, a1, a2, b3, b4, b5, b6, b7, b8] := h1.set 2 a2
  have h3 : Blk _ g t #[a0, a1, a2, a3, b4, b5, b6, b7, b8] := h2.set 3 a3
  have h4 : Blk _ g t #[a0, a1, a2, a3, a4, b5, b6, b7, b8] := h3.set 4 a4
  have h5 : Blk _ g t #[a0, a1, a2, a3, a4, a5, b6, b7, b8] := h4.set 5 a5
  have h6 : Blk _ g t #[a0, a1, a2, a3, a4, a5, a6, b7, b8] := h5.set 6 a6
  have h7 : Blk _ g t #[a0, a1, a2, a3, a4, a5, a6, a7, b8] := h6.set 7 a7
  have h8 : Blk _ g t #[a0, a1, a2, a3, a4, a5, a6, a7, a8] := h7.set 8 a8
  exact h8
theorem below_set9 {w0 w : World} {B g : Nat} (h : Below B w0 w) (hg : B ≤ g) (a0 a1 a2 a3 a4 a5 a6 a7 a8 : Value) :
    Below B w0 (((((((((w.setCell ⟨g, 0, none⟩ a0).setCell ⟨g, 1, none⟩ a1).setCell ⟨g, 2, none⟩ a2).setCell ⟨g, 3, none⟩ a3).setCell ⟨g, 4, none⟩ a4).setCell ⟨g, 5, none⟩ a5).setCell ⟨g, 6, none⟩ a6).setCell ⟨g, 7, none⟩ a7).setCell ⟨g, 8, none⟩ a8) :=
  ((((((((h.setCell hg _).setCell hg _).setCell hg _).setCell hg _).setCell hg _).setCell hg _).setCell hg _).setCell hg _).setCell hg _

end Go.Proofs.Ytdagegafanfhmaa
