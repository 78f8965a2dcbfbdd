/- The small functions of layer 3: bandOf, behind, after; the program's and the document's Sound. -/
import Derived.Test.YtfooggamdbdniaaDoorFrt
import Derived.Test.YtfooggamdbdniaaDoorMathX
import Derived.Outline
namespace Go.Proofs.YtfooggamdbdniaaDoor
open Go.RowKit

set_option maxRecDepth 100000 in
theorem bandOf_any (h : Bool) (p l b : Nat) (w : World) (hl : l < 256) (hb : b < 256) :
    Calls Tryd.prog 18 #[.agg #[.bool h, .int .u64 p, .int .u8 l, .int .u8 b]] w fun e w' => e = .returned (.agg #[.int .i64 l, .int .i64 b]) ∧ Below w.heap.size w w' := by
  have e1 : IntKind.i64.wrap (l : Int) = (l : Int) := by rw [IntKind.wrap_i64]; omega
  have e2 : IntKind.i64.wrap (b : Int) = (b : Int) := by rw [IntKind.wrap_i64]; omega
  go_enter Tryd.func18, Tryd.ntmps18
  go_wp2
  exact bodyPost_ret (results_cell_row Tryd.results18 _ _ (w.heap.size + 1) 50 #[.int .i64 l, .int .i64 b] (0, 0) _ rfl (by have h := heap_alloc_new (w.alloc (.cells #[.bool h, .int .u64 p, .int .u8 l, .int .u8 b] 24)) (.cells #[.int .i64 l, .int .i64 b] 50); rw [World.size_alloc] at h; exact h) Tryd.underlying50 rfl (by kernel_rfl)) rfl ⟨rfl, below_alloc2 _ _ _⟩

set_option maxRecDepth 100000 in
theorem behind_any (l b : Int) (w : World) (hl : 0 ≤ l ∧ l ≤ 1000) (hb : 0 ≤ b ∧ b ≤ 1000) :
    Calls Tryd.prog 19 #[.agg #[.int .i64 l, .int .i64 b]] w fun e w' => e = .returned (.int .i64 (64 - l - b)) ∧ Below w.heap.size w w' := by
  obtain ⟨h1, h2⟩ := hl
  obtain ⟨h3, h4⟩ := hb
  go_enter Tryd.func19, Tryd.ntmps19
  go_wp2
  go_ret
  exact ⟨rfl, below_alloc _ _⟩

set_option maxRecDepth 100000 in
theorem after_any (l b v : Nat) (w : World) (hl : l < 256) (hb : b < 256) :
    Calls Tryd.prog 28 #[.agg #[.int .i64 l, .int .i64 b], .int .u64 v] w fun e w' => e = .returned (.agg #[.bool true, .int .u64 v, .int .u8 l, .int .u8 b]) ∧ Below w.heap.size w w' := by
  have e1 : IntKind.u8.wrap (l : Int) = (l : Int) := by rw [IntKind.wrap_u8]; omega
  have e2 : IntKind.u8.wrap (b : Int) = (b : Int) := by rw [IntKind.wrap_u8]; omega
  go_enter Tryd.func28, Tryd.ntmps28
  go_wp2
  exact bodyPost_ret (results_cell_row Tryd.results28 _ _ (w.heap.size + 1) 24 #[.bool true, .int .u64 v, .int .u8 l, .int .u8 b] (0, 0) _ rfl (by have h := heap_alloc_new (w.alloc (.cells #[.int .i64 l, .int .i64 b] 50)) (.cells #[.bool true, .int .u64 v, .int .u8 l, .int .u8 b] 24); rw [World.size_alloc] at h; exact h) Tryd.underlying24 rfl (by kernel_rfl)) rfl ⟨rfl, below_alloc2 _ _ _⟩

end Go.Proofs.YtfooggamdbdniaaDoor
