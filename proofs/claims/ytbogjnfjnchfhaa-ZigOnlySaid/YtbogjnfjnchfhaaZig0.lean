/- Contracts of package zig: rows. -/
import Derived.Test.YtbogjnfjnchfhaaOwn
import Derived.Test.YtbogjnfjnchfhaaMathZ
import Derived.Laws.Rows
namespace Go.Proofs.Ytbogjnfjnchfhaa
open Go.RowKit

def rowsV : Value := .agg #[.int .u64 0, .int .i64 1, .int .i64 0, .int .u64 2, .int .i64 2, .int .i64 7, .int .u64 6, .int .i64 3, .int .i64 9, .int .u64 14, .int .i64 4, .int .i64 12, .int .u64 30, .int .i64 5, .int .i64 32, .int .u64 31, .int .i64 5, .int .i64 64]

theorem rows_any (w : World) : Calls Try.prog 46 #[] w fun e w' => e = .returned rowsV ∧ Below w.heap.size w w' := by
  go_enter Try.func46, Try.ntmps46
  go_wp2
  exact bodyPost_ret (results_cell_row Try.results46 _ _ w.heap.size _ _ (0, 0) _ rfl (heap_alloc_new _ _) Try.underlying79 rfl (by kernel_rfl)) rfl ⟨rfl, below_alloc _ _⟩

theorem rows_at (k : Nat) (hk : k < 6) (w : World) : (Instr.index 79 rowsV (.int .i64 k)).run Try.prog w = .ok (.agg #[.int .u64 (zp k : Nat), .int .i64 (zl k : Nat), .int .i64 (zw k : Nat)]) w := by
  have h0 : ∀ w, (Instr.index 79 rowsV (.int .i64 (0 : Nat))).run Try.prog w = .ok (.agg #[.int .u64 (zp 0 : Nat), .int .i64 (zl 0 : Nat), .int .i64 (zw 0 : Nat)]) w := fun _ => by kernel_rfl
  have h1 : ∀ w, (Instr.index 79 rowsV (.int .i64 (1 : Nat))).run Try.prog w = .ok (.agg #[.int .u64 (zp 1 : Nat), .int .i64 (zl 1 : Nat), .int .i64 (zw 1 : Nat)]) w := fun _ => by kernel_rfl
  have h2 : ∀ w, (Instr.index 79 rowsV (.int .i64 (2 : Nat))).run Try.prog w = .ok (.agg #[.int .u64 (zp 2 : Nat), .int .i64 (zl 2 : Nat), .int .i64 (zw 2 : Nat)]) w := fun _ => by kernel_rfl
  have h3 : ∀ w, (Instr.index 79 rowsV (.int .i64 (3 : Nat))).run Try.prog w = .ok (.agg #[.int .u64 (zp 3 : Nat), .int .i64 (zl 3 : Nat), .int .i64 (zw 3 : Nat)]) w := fun _ => by kernel_rfl
  have h4 : ∀ w, (Instr.index 79 rowsV (.int .i64 (4 : Nat))).run Try.prog w = .ok (.agg #[.int .u64 (zp 4 : Nat), .int .i64 (zl 4 : Nat), .int .i64 (zw 4 : Nat)]) w := fun _ => by kernel_rfl
  have h5 : ∀ w, (Instr.index 79 rowsV (.int .i64 (5 : Nat))).run Try.prog w = .ok (.agg #[.int .u64 (zp 5 : Nat), .int .i64 (zl 5 : Nat), .int .i64 (zw 5 : Nat)]) w := fun _ => by kernel_rfl
  obtain rfl | rfl | rfl | rfl | rfl | rfl : k = 0 ∨ k = 1 ∨ k = 2 ∨ k = 3 ∨ k = 4 ∨ k = 5 := by omega
  · exact h0 w
  · exact h1 w
  · exact h2 w
  · exact h3 w
  · exact h4 w
  · exact h5 w

end Go.Proofs.Ytbogjnfjnchfhaa
