/- Joined: Zig1, ZigR1. -/
import Derived.Test.YtgnppnjhecfjeaaDoorQ6
import Derived.Test.YtgnppnjhecfjeaaDoorQ1
import Derived.Laws.Bits64
import Derived.Laws.Bits64b
import Derived.Outline
set_option linter.unusedSimpArgs false
set_option linter.unusedVariables false
/- Contracts of package zig: Fold, Unfold, rows, fitting. -/
namespace Go.Proofs.YtgnppnjhecfjeaaDoor
open Go.RowKit

theorem xor_ones (x : Nat) (h : x < 18446744073709551616) : x ^^^ 18446744073709551615 = 18446744073709551615 - x := by
  apply Nat.eq_of_testBit_eq
  intro i
  rw [Nat.testBit_xor, show (18446744073709551615 : Nat) - x = 2 ^ 64 - (x + 1) by omega, Nat.testBit_two_pow_sub_succ (show x < 2 ^ 64 by omega), show (18446744073709551615 : Nat) = 2 ^ 64 - 1 from rfl, Nat.testBit_two_pow_sub_one]
  by_cases hi : i < 64
  · simp [hi]
  · rw [Nat.testBit_lt_two_pow (Nat.lt_of_lt_of_le (show x < 2 ^ 64 by omega) (Nat.pow_le_pow_right (by decide) (by omega)))]
    simp [hi]

theorem fold_val (v : Int) (hv : -9223372036854775808 ≤ v ∧ v ≤ 9223372036854775807) :
    bits .xor .u64 (IntKind.u64.wrap (IntKind.u64.wrap v * 2)) (IntKind.u64.wrap (v / 9223372036854775808)) = (foldZ v : Int) := by
  unfold foldZ
  simp only [IntKind.wrap_u64]
  split
  · rename_i h
    obtain ⟨n, rfl⟩ := Int.eq_ofNat_of_zero_le h
    rw [show ((n : Int) % 18446744073709551616 * 2 % 18446744073709551616) = ((2 * n : Nat) : Int) by omega, show ((n : Int) / 9223372036854775808 % 18446744073709551616) = ((0 : Nat) : Int) by omega,
      bits_xor_u64_nat _ _ (by omega) (by omega), Nat.xor_zero]
    omega
  · rename_i h
    obtain ⟨n, hn⟩ := Int.eq_ofNat_of_zero_le (show 0 ≤ -(v + 1) by omega)
    obtain rfl : v = -(n : Int) - 1 := by omega
    rw [show ((-(n : Int) - 1) % 18446744073709551616 * 2 % 18446744073709551616) = ((18446744073709551615 - (2 * n + 1) : Nat) : Int) by omega,
      show ((-(n : Int) - 1) / 9223372036854775808 % 18446744073709551616) = ((18446744073709551615 : Nat) : Int) by omega,
      bits_xor_u64_nat _ _ (by omega) (by omega), xor_ones _ (by omega)]
    omega

theorem fold_any (v : Int) (w : World) (hv : -9223372036854775808 ≤ v ∧ v ≤ 9223372036854775807) :
    Calls Tryd.prog 85 #[.int .i64 v] w fun e w' => e = .returned (.int .u64 (foldZ v : Nat)) ∧ w = w' := by
  have H := Lib.hid (fold_val v hv)
  go_enter Tryd.func85, Tryd.ntmps85
  go_wp2
  go_ret
  exact ⟨ret_int H.out, rfl⟩

theorem i64_xor_neg (a : Nat) (ha : a < 9223372036854775808) : bits .xor .i64 (a : Int) (-1) = -1 - (a : Int) := by
  show IntKind.i64.wrap ((BitVec.ofInt 64 (a : Int) ^^^ BitVec.ofInt 64 (-1)).toNat : Int) = _
  have h1 : BitVec.ofInt 64 (-1) = BitVec.allOnes 64 := by decide
  rw [h1, BitVec.xor_allOnes, BitVec.toNat_not, ofInt_u64 a (by omega)]
  simp [IntKind.wrap, IntKind.bits, IntKind.signed]
  omega
theorem i64_xor_zero (a : Nat) (ha : a < 9223372036854775808) : bits .xor .i64 (a : Int) 0 = (a : Int) := by
  show IntKind.i64.wrap ((BitVec.ofInt 64 (a : Int) ^^^ BitVec.ofInt 64 0).toNat : Int) = _
  have h1 : BitVec.ofInt 64 0 = 0#64 := by decide
  rw [h1, BitVec.xor_zero, ofInt_u64 a (by omega)]
  simp [IntKind.wrap, IntKind.bits, IntKind.signed]
  omega
theorem unfold_val (n : Nat) (hn : n < 18446744073709551616) : bits .xor .i64 ((n : Int) / 2) (wrap64 (-wrap64 (bits .and .u64 (n : Int) 1))) = unfoldZ n := by
  have h1 := bits_and_u64_nat n 1 hn (by omega)
  rw [Nat.and_one_is_mod] at h1
  have h2 : bits .and .u64 (n : Int) 1 = ((n % 2 : Nat) : Int) := h1
  rw [h2, show ((n : Int) / 2) = ((n / 2 : Nat) : Int) by omega]
  unfold unfoldZ
  split
  · rename_i h
    rw [h, show wrap64 (-wrap64 ((0 : Nat) : Int)) = 0 from by rw [IntWalk.wrap64_in ((0 : Nat) : Int) ⟨by omega, by omega⟩, IntWalk.wrap64_in _ ⟨by omega, by omega⟩]; rfl, i64_xor_zero _ (by omega)]
  · rename_i h
    rw [show n % 2 = 1 by omega, show wrap64 (-wrap64 ((1 : Nat) : Int)) = -1 from by rw [IntWalk.wrap64_in ((1 : Nat) : Int) ⟨by omega, by omega⟩, IntWalk.wrap64_in _ ⟨by omega, by omega⟩]; rfl, i64_xor_neg _ (by omega)]
    omega

theorem unfold_any (n : Nat) (w : World) (hn : n < 18446744073709551616) :
    Calls Tryd.prog 91 #[.int .u64 n] w fun e w' => e = .returned (.int .i64 (unfoldZ n)) ∧ w = w' := by
  have H := Lib.hid (unfold_val n hn)
  go_enter Tryd.func91, Tryd.ntmps91
  go_wp2
  go_ret
  exact ⟨ret_int H.out, rfl⟩

end Go.Proofs.YtgnppnjhecfjeaaDoor

/- Contracts of the document's own functions of layer 2: numbers. -/
namespace Go.Proofs.YtgnppnjhecfjeaaDoor
open Go.RowKit

theorem refFold_any (v : Int) (w : World) (hv : -9223372036854775808 ≤ v ∧ v ≤ 9223372036854775807) :
    Calls Tryd.prog 74 #[.int .i64 v] w fun e w' => e = .returned (.int .u64 (foldZ v : Nat)) ∧ w = w' := by
  by_cases h : 0 ≤ v
  · have e : foldZ v = 2 * v.toNat := by unfold foldZ; rw [if_pos h]
    rw [e]
    go_enter Tryd.func74, Tryd.ntmps74
    go_wp2
    go_ret
    exact ⟨ret_int (by first | omega | (simp only [IntKind.wrap_u64]; omega)), rfl⟩
  · have e : foldZ v = 2 * (-(v + 1)).toNat + 1 := by unfold foldZ; rw [if_neg h]
    rw [e]
    go_enter Tryd.func74, Tryd.ntmps74
    go_wp2
    go_ret
    exact ⟨ret_int (by first | omega | (simp only [IntKind.wrap_u64]; omega)), rfl⟩

theorem refUnfold_any (n : Nat) (w : World) (hn : n < 18446744073709551616) :
    Calls Tryd.prog 79 #[.int .u64 n] w fun e w' => e = .returned (.int .i64 (unfoldZ n)) ∧ w = w' := by
  by_cases h : n % 2 = 0
  · have e : unfoldZ n = ((n / 2 : Nat) : Int) := by unfold unfoldZ; rw [if_pos h]
    have hb : ((n : Int) % 2 == 0) = true := by rw [beq_iff_eq]; omega
    rw [e]
    clear h e
    go_enter Tryd.func79, Tryd.ntmps79
    go_wp2
    go_ret
    exact ⟨ret_int (by omega), rfl⟩
  · have e : unfoldZ n = -((n / 2 : Nat) : Int) - 1 := by unfold unfoldZ; rw [if_neg h]
    have hb : ((n : Int) % 2 == 0) = false := by rw [beq_eq_false_iff_ne]; omega
    rw [e]
    clear h e
    go_enter Tryd.func79, Tryd.ntmps79
    go_wp2
    go_ret
    exact ⟨ret_int (by omega), rfl⟩

theorem refRow_any (k : Nat) (w : World) (hk : k ≤ 5) :
    Calls Tryd.prog 76 #[.int .i64 k] w fun e w' => e = .returned (.tuple #[.int .i64 k, .int .i64 (zw k : Nat)]) ∧ Below w.heap.size w w' := by
  have hc : (w.alloc (.cells #[.int .i64 0, .int .i64 7, .int .i64 9, .int .i64 12, .int .i64 32, .int .i64 64] 3)).cell? ⟨w.heap.size, k, none⟩ = some (.int .i64 (zw k : Nat)) := by
    obtain rfl | rfl | rfl | rfl | rfl | rfl : k = 0 ∨ k = 1 ∨ k = 2 ∨ k = 3 ∨ k = 4 ∨ k = 5 := by omega
    all_goals exact box_cell _ _ _ _ _ rfl
  have hmin : min (k : Int) 5 = k := by omega
  go_enter Tryd.func76, Tryd.ntmps76
  go_wp2
  go_quiet (fail)
  go_wp2
  go_ret2
  exact ⟨rfl, below_drewN (below_alloc _ _) _⟩

theorem refFits_any (n k : Nat) (w : World) (hn : n < 18446744073709551616) (hk : k ≤ 5) :
    Calls Tryd.prog 75 #[.int .u64 n, .int .i64 k] w fun e w' => e = .returned (.bool (decide (n < 2 ^ zw k))) ∧ Below w.heap.size w w' := by
  have hzw := zw_le k
  have hwr : IntKind.u64.wrap (zw k : Int) = (zw k : Int) := wrap_big _ (by omega)
  by_cases h64 : zw k = 64
  · have hb : ((zw k : Int) == 64) = true := by rw [beq_iff_eq]; omega
    have hd : decide (n < 2 ^ zw k) = true := by rw [h64, decide_eq_true_eq]; omega
    rw [hd]
    clear hd h64
    go_enter Tryd.func75, Tryd.ntmps75
    go_wp2_with fail
    refine Calls.mono (refRow_any k _ hk) ?_
    rintro e w1 ⟨rfl, hb1⟩
    go_wp2
    go_ret
    exact ⟨rfl, hb1⟩
  · have hb : ((zw k : Int) == 64) = false := by rw [beq_eq_false_iff_ne]; omega
    have hd : ((n : Int) / 2 ^ zw k == 0) = decide (n < 2 ^ zw k) := by
      have h2 := Nat.two_pow_pos (zw k)
      rw [nat_shr, Bool.eq_iff_iff, beq_iff_eq, decide_eq_true_eq]
      constructor
      · intro h
        have h3 : n / 2 ^ zw k = 0 := by omega
        rw [Nat.div_eq_zero_iff] at h3
        omega
      · intro h; rw [Nat.div_eq_of_lt h]; rfl
    clear h64
    go_enter Tryd.func75, Tryd.ntmps75
    go_wp2_with fail
    refine Calls.mono (refRow_any k _ hk) ?_
    rintro e w1 ⟨rfl, hb1⟩
    go_wp2
    go_ret
    exact ⟨rfl, hb1⟩

end Go.Proofs.YtgnppnjhecfjeaaDoor
