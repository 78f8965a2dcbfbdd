/- Joined: Chk9, Chk10. -/
import Derived.Test.YtiliineopplinaaDoorQ35
import Derived.Deep.RegionHeld3
import Derived.Test.YtiliineopplinaaDoorQ8
import Derived.Test.YtiliineopplinaaDoorQ20
import Derived.Test.YtiliineopplinaaDoorQ2
import Derived.Test.YtiliineopplinaaDoorQ5
import Derived.Test.YtiliineopplinaaDoorQ14
import Derived.Outline
import Derived.Test.YtiliineopplinaaDoorQ26
import Derived.Test.YtiliineopplinaaDoorQ10
set_option linter.unusedSimpArgs false
set_option linter.unusedVariables false
/- Layer 6: the program's Of. -/
namespace Go.Proofs.YtiliineopplinaaDoor
open Go.RowKit
set_option maxRecDepth 100000

/-- what is known, as cells -/
abbrev EC.cells (e : EC) : Array Value := #[.int .i64 e.n, .int .i64 e.last, .int .i64 e.delta, .bool e.val.has, .int .u64 e.val.prev, .int .u8 e.val.lead, .int .u8 e.val.width]
theorem OkC.small {n la de : Int} {h : Bool} {p L X : Nat} (k : OkC ⟨n, la, de, ⟨h, p, L, X⟩⟩) : L < 256 ∧ X < 256 := by
  have := k.val
  unfold soundX at this
  cases h <;> simp at this <;> omega

end Go.Proofs.YtiliineopplinaaDoor

/- Layer 6: the document's Of. -/
namespace Go.Proofs.YtiliineopplinaaDoor
open Go.RowKit
set_option maxRecDepth 100000

theorem codesC_le (l : List (Int × Nat)) (k : Nat) (hl : l.length ≤ 1000) (hi : InC l) : (codesC ec0 (l.take k)).length ≤ 146000 := by
  have h := rows_ok (l.take k) ec0 ok0 (Int.le_refl _) (by rw [List.length_take]; show (0 : Int) + _ ≤ _; omega) (fun s hs => hi s (List.mem_of_mem_take hs))
  have := h.2.2.1
  rw [List.length_take] at this
  omega

end Go.Proofs.YtiliineopplinaaDoor
