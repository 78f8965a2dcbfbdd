/- Joined: Zig1. -/
import Derived.Test.YtnjcdihgaidlbaaGreatDoorQ8
import Derived.Test.YtnjcdihgaidlbaaGreatDoorQ1
import Derived.Laws.Bits64
import Derived.Laws.Bits64b
import Derived.Outline
set_option linter.unusedSimpArgs false
set_option linter.unusedVariables false
namespace Go.Proofs.YtnjcdihgaidlbaaGreatDoor
open Go.RowKit
theorem xor_ones (x : Nat) (h : x < 18446744073709551616) : x ^^^ 18446744073709551615 = 18446744073709551615 - x := by
 apply Nat.eq_of_testBit_eq
 intro i
 rw [Nat.testBit_xor, show (18446744073709551615 : Nat) - x = 2 ^ 64 - (x + 1) by omega, Nat.testBit_two_pow_sub_succ (show x < 2 ^ 64 by omega), show (18446744073709551615 : Nat) = 2 ^ 64 - 1 from rfl, Nat.testBit_two_pow_sub_one]
 by_cases hi : i < 64
 ·simp [hi]
 ·rw [Nat.testBit_lt_two_pow (Nat.lt_of_lt_of_le (show x < 2 ^ 64 by omega) (Nat.pow_le_pow_right (by decide) (by omega)))]
  simp [hi]
theorem fold_val (v : Int) (hv : -9223372036854775808 ≤ v ∧ v ≤ 9223372036854775807) :
  bits .xor .u64 (IntKind.u64.wrap (IntKind.u64.wrap v * 2)) (IntKind.u64.wrap (v / 9223372036854775808)) = (foldZ v : Int) := by
 unfold foldZ
 simp only [IntKind.wrap_u64]
 split
 ·rename_i h
  obtain ⟨n, rfl⟩ := Int.eq_ofNat_of_zero_le h
  rw [show ((n : Int) % 18446744073709551616 * 2 % 18446744073709551616) = ((2 * n : Nat) : Int) by omega, show ((n : Int) / 9223372036854775808 % 18446744073709551616) = ((0 : Nat) : Int) by omega,
   bits_xor_u64_nat _ _ (by omega) (by omega), Nat.xor_zero]
  omega
 ·rename_i h
  obtain ⟨n, hn⟩ := Int.eq_ofNat_of_zero_le (show 0 ≤ -(v + 1) by omega)
  obtain rfl : v = -(n : Int) - 1 := by omega
  rw [show ((-(n : Int) - 1) % 18446744073709551616 * 2 % 18446744073709551616) = ((18446744073709551615 - (2 * n + 1) : Nat) : Int) by omega,
   show ((-(n : Int) - 1) / 9223372036854775808 % 18446744073709551616) = ((18446744073709551615 : Nat) : Int) by omega,
   bits_xor_u64_nat _ _ (by omega) (by omega), xor_ones _ (by omega)]
  omega
theorem fold_any (v : Int) (w : World) (hv : -9223372036854775808 ≤ v ∧ v ≤ 9223372036854775807) :
  Calls Tryz.prog 119 #[.int .i64 v] w fun e w' => e = .returned (.int .u64 (foldZ v : Nat)) ∧ w = w' := by
 have H := Lib.hid (fold_val v hv)
 go_enter Tryz.func119, Tryz.ntmps119
 go_wp2
 go_ret
 exact ⟨ret_int H.out, rfl⟩
end Go.Proofs.YtnjcdihgaidlbaaGreatDoor
