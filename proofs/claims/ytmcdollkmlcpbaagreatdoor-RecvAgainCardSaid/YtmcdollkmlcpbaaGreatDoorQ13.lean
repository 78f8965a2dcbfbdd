/- Joined: ClB, Zig1. -/
import Derived.Test.YtmcdollkmlcpbaaGreatDoorQ8
import Derived.Test.YtmcdollkmlcpbaaGreatDoorQ7
import Derived.Lib.SliceRun
import Derived.Test.YtmcdollkmlcpbaaGreatDoorQ1
import Derived.Laws.Bits64
import Derived.Laws.Bits64b
import Derived.Outline
set_option linter.unusedSimpArgs false
set_option linter.unusedVariables false
set_option linter.unusedSimpArgs false
set_option linter.unusedVariables false
namespace Go.Proofs.YtmcdollkmlcpbaaGreatDoor
open Go.RowKit
set_option maxRecDepth 100000
theorem clone_bytes (ad : Addr) (c : Nat) (l : List UInt8) (w : World) (hA : Bs w (some ad) l) (hL : l.length ≤ 100000) :
  Calls Tryz.prog 46 #[.slice (some ad) l.length c] w fun e w' => ∃ A' c', e = .returned (.slice A' l.length c') ∧ Hid (OwnB w' w.heap.size (.slice A' l.length c') l ∧ Below w.heap.size w w') := by
 have HA := Lib.hid hA
 have HO := Lib.hid (own_built w [] (base := w.heap.size) (Nat.le_refl _) (by simp))
 have hnil : (binOp .eql 31 (.slice (some ad) l.length c) (.slice none 0 0)).run Tryz.prog w = .ok (.bool false) w := Go.Lib.run_eql_slice_nil w _ _ _ _ _ _ _ (by rfl)
 clear hA
 go_enter Tryz.func46, Tryz.ntmps46
 go_wp2_with (at_builtin; go_must (refine appAll _ rfl (.tmp 5) (.tmp 6) rfl w.heap.size _ [] rfl HO.out (some ad) c l rfl (HA.out.below (below_alloc w _)) (by simp; omega) (by simp) ?_); intro A2 c2 w2 hown2 hb2)
 go_ret
 simp only [List.length_nil, Nat.zero_add, List.nil_append] at hown2 ⊢
 exact ⟨A2, c2, rfl, Lib.hid ⟨hown2, ((Below.refl w.heap.size w).alloc (Nat.le_refl _) _).trans hb2⟩⟩
end Go.Proofs.YtmcdollkmlcpbaaGreatDoor
namespace Go.Proofs.YtmcdollkmlcpbaaGreatDoor
open Go.RowKit
theorem xor_ones (x : Nat) (h : x < 18446744073709551616) : x ^^^ 18446744073709551615 = 18446744073709551615 - x := by
 apply Nat.eq_of_testBit_eq
 intro i
 rw [Nat.testBit_xor, show (18446744073709551615 : Nat) - x = 2 ^ 64 - (x + 1) by omega, Nat.testBit_two_pow_sub_succ (show x < 2 ^ 64 by omega), show (18446744073709551615 : Nat) = 2 ^ 64 - 1 from rfl, Nat.testBit_two_pow_sub_one]
 by_cases hi : i < 64
 ·simp [hi]
 ·rw [Nat.testBit_lt_two_pow (Nat.lt_of_lt_of_le (show x < 2 ^ 64 by omega) (Nat.pow_le_pow_right (by decide) (by omega)))]
  simp [hi]
theorem fold_val (v : Int) (hv : -9223372036854775808 ≤ v ∧ v ≤ 9223372036854775807) :
  bits .xor .u64 (IntKind.u64.wrap (IntKind.u64.wrap v * 2)) (IntKind.u64.wrap (v / 9223372036854775808)) = (foldZ v : Int) := by
 unfold foldZ
 simp only [IntKind.wrap_u64]
 split
 ·rename_i h
  obtain ⟨n, rfl⟩ := Int.eq_ofNat_of_zero_le h
  rw [show ((n : Int) % 18446744073709551616 * 2 % 18446744073709551616) = ((2 * n : Nat) : Int) by omega, show ((n : Int) / 9223372036854775808 % 18446744073709551616) = ((0 : Nat) : Int) by omega,
   bits_xor_u64_nat _ _ (by omega) (by omega), Nat.xor_zero]
  omega
 ·rename_i h
  obtain ⟨n, hn⟩ := Int.eq_ofNat_of_zero_le (show 0 ≤ -(v + 1) by omega)
  obtain rfl : v = -(n : Int) - 1 := by omega
  rw [show ((-(n : Int) - 1) % 18446744073709551616 * 2 % 18446744073709551616) = ((18446744073709551615 - (2 * n + 1) : Nat) : Int) by omega,
   show ((-(n : Int) - 1) / 9223372036854775808 % 18446744073709551616) = ((18446744073709551615 : Nat) : Int) by omega,
   bits_xor_u64_nat _ _ (by omega) (by omega), xor_ones _ (by omega)]
  omega
theorem fold_any (v : Int) (w : World) (hv : -9223372036854775808 ≤ v ∧ v ≤ 9223372036854775807) :
  Calls Tryz.prog 108 #[.int .i64 v] w fun e w' => e = .returned (.int .u64 (foldZ v : Nat)) ∧ w = w' := by
 have H := Lib.hid (fold_val v hv)
 go_enter Tryz.func108, Tryz.ntmps108
 go_wp2
 go_ret
 exact ⟨ret_int H.out, rfl⟩
theorem i64_xor_neg (a : Nat) (ha : a < 9223372036854775808) : bits .xor .i64 (a : Int) (-1) = -1 - (a : Int) := by
 show IntKind.i64.wrap ((BitVec.ofInt 64 (a : Int) ^^^ BitVec.ofInt 64 (-1)).toNat : Int) = _
 have h1 : BitVec.ofInt 64 (-1) = BitVec.allOnes 64 := by decide
 rw [h1, BitVec.xor_allOnes, BitVec.toNat_not, ofInt_u64 a (by omega)]
 simp [IntKind.wrap, IntKind.bits, IntKind.signed]
 omega
theorem i64_xor_zero (a : Nat) (ha : a < 9223372036854775808) : bits .xor .i64 (a : Int) 0 = (a : Int) := by
 show IntKind.i64.wrap ((BitVec.ofInt 64 (a : Int) ^^^ BitVec.ofInt 64 0).toNat : Int) = _
 have h1 : BitVec.ofInt 64 0 = 0#64 := by decide
 rw [h1, BitVec.xor_zero, ofInt_u64 a (by omega)]
 simp [IntKind.wrap, IntKind.bits, IntKind.signed]
 omega
theorem unfold_val (n : Nat) (hn : n < 18446744073709551616) : bits .xor .i64 ((n : Int) / 2) (wrap64 (-wrap64 (bits .and .u64 (n : Int) 1))) = unfoldZ n := by
 have h1 := bits_and_u64_nat n 1 hn (by omega)
 rw [Nat.and_one_is_mod] at h1
 have h2 : bits .and .u64 (n : Int) 1 = ((n % 2 : Nat) : Int) := h1
 rw [h2, show ((n : Int) / 2) = ((n / 2 : Nat) : Int) by omega]
 unfold unfoldZ
 split
 ·rename_i h
  rw [h, show wrap64 (-wrap64 ((0 : Nat) : Int)) = 0 from by rw [IntWalk.wrap64_in ((0 : Nat) : Int) ⟨by omega, by omega⟩, IntWalk.wrap64_in _ ⟨by omega, by omega⟩]; rfl, i64_xor_zero _ (by omega)]
 ·rename_i h
  rw [show n % 2 = 1 by omega, show wrap64 (-wrap64 ((1 : Nat) : Int)) = -1 from by rw [IntWalk.wrap64_in ((1 : Nat) : Int) ⟨by omega, by omega⟩, IntWalk.wrap64_in _ ⟨by omega, by omega⟩]; rfl, i64_xor_neg _ (by omega)]
  omega
theorem unfold_any (n : Nat) (w : World) (hn : n < 18446744073709551616) :
  Calls Tryz.prog 113 #[.int .u64 n] w fun e w' => e = .returned (.int .i64 (unfoldZ n)) ∧ w = w' := by
 have H := Lib.hid (unfold_val n hn)
 go_enter Tryz.func113, Tryz.ntmps113
 go_wp2
 go_ret
 exact ⟨ret_int H.out, rfl⟩
end Go.Proofs.YtmcdollkmlcpbaaGreatDoor
