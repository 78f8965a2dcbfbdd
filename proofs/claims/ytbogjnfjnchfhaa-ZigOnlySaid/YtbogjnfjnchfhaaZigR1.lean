/- Contracts of the document's own functions of layer 2: numbers. -/
import Derived.Test.YtbogjnfjnchfhaaZig1
import Derived.Outline
namespace Go.Proofs.Ytbogjnfjnchfhaa
open Go.RowKit

theorem refFold_any (v : Int) (w : World) (hv : -9223372036854775808 ≤ v ∧ v ≤ 9223372036854775807) :
    Calls Try.prog 23 #[.int .i64 v] w fun e w' => e = .returned (.int .u64 (foldZ v : Nat)) ∧ w = w' := by
  by_cases h : 0 ≤ v
  · have e : foldZ v = 2 * v.toNat := by unfold foldZ; rw [if_pos h]
    rw [e]
    go_enter Try.func23, Try.ntmps23
    go_wp2
    go_ret
    exact ⟨ret_int (by first | omega | (simp only [IntKind.wrap_u64]; omega)), rfl⟩
  · have e : foldZ v = 2 * (-(v + 1)).toNat + 1 := by unfold foldZ; rw [if_neg h]
    rw [e]
    go_enter Try.func23, Try.ntmps23
    go_wp2
    go_ret
    exact ⟨ret_int (by first | omega | (simp only [IntKind.wrap_u64]; omega)), rfl⟩

theorem refUnfold_any (n : Nat) (w : World) (hn : n < 18446744073709551616) :
    Calls Try.prog 25 #[.int .u64 n] w fun e w' => e = .returned (.int .i64 (unfoldZ n)) ∧ w = w' := by
  by_cases h : n % 2 = 0
  · have e : unfoldZ n = ((n / 2 : Nat) : Int) := by unfold unfoldZ; rw [if_pos h]
    have hb : ((n : Int) % 2 == 0) = true := by rw [beq_iff_eq]; omega
    rw [e]
    clear h e
    go_enter Try.func25, Try.ntmps25
    go_wp2
    go_ret
    exact ⟨ret_int (by omega), rfl⟩
  · have e : unfoldZ n = -((n / 2 : Nat) : Int) - 1 := by unfold unfoldZ; rw [if_neg h]
    have hb : ((n : Int) % 2 == 0) = false := by rw [beq_eq_false_iff_ne]; omega
    rw [e]
    clear h e
    go_enter Try.func25, Try.ntmps25
    go_wp2
    go_ret
    exact ⟨ret_int (by omega), rfl⟩

theorem refRow_any (k : Nat) (w : World) (hk : k ≤ 5) :
    Calls Try.prog 41 #[.int .i64 k] w fun e w' => e = .returned (.tuple #[.int .i64 k, .int .i64 (zw k : Nat)]) ∧ Below w.heap.size w w' := by
  have hc : (w.alloc (.cells #[.int .i64 0, .int .i64 7, .int .i64 9, .int .i64 12, .int .i64 32, .int .i64 64] 3)).cell? ⟨w.heap.size, k, none⟩ = some (.int .i64 (zw k : Nat)) := by
    obtain rfl | rfl | rfl | rfl | rfl | rfl : k = 0 ∨ k = 1 ∨ k = 2 ∨ k = 3 ∨ k = 4 ∨ k = 5 := by omega
    all_goals exact box_cell _ _ _ _ _ rfl
  have hmin : min (k : Int) 5 = k := by omega
  go_enter Try.func41, Try.ntmps41
  go_wp2
  go_quiet (fail)
  go_wp2
  go_ret2
  exact ⟨rfl, below_drewN (below_alloc _ _) _⟩

theorem refFits_any (n k : Nat) (w : World) (hn : n < 18446744073709551616) (hk : k ≤ 5) :
    Calls Try.prog 40 #[.int .u64 n, .int .i64 k] w fun e w' => e = .returned (.bool (decide (n < 2 ^ zw k))) ∧ Below w.heap.size w w' := by
  have hzw := zw_le k
  have hwr : IntKind.u64.wrap (zw k : Int) = (zw k : Int) := wrap_big _ (by omega)
  by_cases h64 : zw k = 64
  · have hb : ((zw k : Int) == 64) = true := by rw [beq_iff_eq]; omega
    have hd : decide (n < 2 ^ zw k) = true := by rw [h64, decide_eq_true_eq]; omega
    rw [hd]
    clear hd h64
    go_enter Try.func40, Try.ntmps40
    go_wp2_with fail
    refine Calls.mono (refRow_any k _ hk) ?_
    rintro e w1 ⟨rfl, hb1⟩
    go_wp2
    go_ret
    exact ⟨rfl, hb1⟩
  · have hb : ((zw k : Int) == 64) = false := by rw [beq_eq_false_iff_ne]; omega
    have hd : ((n : Int) / 2 ^ zw k == 0) = decide (n < 2 ^ zw k) := by
      have h2 := Nat.two_pow_pos (zw k)
      rw [nat_shr, Bool.eq_iff_iff, beq_iff_eq, decide_eq_true_eq]
      constructor
      · intro h
        have h3 : n / 2 ^ zw k = 0 := by omega
        rw [Nat.div_eq_zero_iff] at h3
        omega
      · intro h; rw [Nat.div_eq_of_lt h]; rfl
    clear h64
    go_enter Try.func40, Try.ntmps40
    go_wp2_with fail
    refine Calls.mono (refRow_any k _ hk) ?_
    rintro e w1 ⟨rfl, hb1⟩
    go_wp2
    go_ret
    exact ⟨rfl, hb1⟩

end Go.Proofs.Ytbogjnfjnchfhaa
