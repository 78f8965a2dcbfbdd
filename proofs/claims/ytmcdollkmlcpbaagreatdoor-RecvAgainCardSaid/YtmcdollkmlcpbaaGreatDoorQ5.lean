/- Joined: Roll1. -/
import Derived.Test.YtmcdollkmlcpbaaGreatDoorQ4
import Derived.Laws.Bits64b
import Derived.Laws.MathBits
import Derived.Test.YtmcdollkmlcpbaaGreatDoorQ1
set_option linter.unusedSimpArgs false
set_option linter.unusedVariables false
namespace Go.Proofs.YtmcdollkmlcpbaaGreatDoor
open Go.RowKit
theorem ret_int2 {k j : IntKind} {a b c d : Int} (h : a = b) (h2 : c = d) : Ending.returned (.tuple #[.int k a, .int j c]) = .returned (.tuple #[.int k b, .int j d]) := by rw [h, h2]
theorem mul64_any (a b : Nat) (w : World) (ha : a < 18446744073709551616) (hb : b < 18446744073709551616) :
  Calls Tryz.prog 105 #[.int .u64 a, .int .u64 b] w fun e w' => e = .returned (.tuple #[.int .u64 ((a * b / 18446744073709551616 : Nat) : Int), .int .u64 ((a * b % 18446744073709551616 : Nat) : Int)]) ∧ w = w' := by
 have m1 := and_low32 a (by omega) (by omega)
 have m2 := and_low32 b (by omega) (by omega)
 have m3 := mul64_arith a b (by omega) (by omega) (by omega) (by omega)
 have m4 := fun z : Int => and_low32 (z % 18446744073709551616) (by omega) (by omega)
 have hi : ((a * b / 18446744073709551616 : Nat) : Int) = (a : Int) * b / 18446744073709551616 := by rw [Int.natCast_ediv, Int.natCast_mul]; rfl
 have lo : ((a * b % 18446744073709551616 : Nat) : Int) = (a : Int) * b % 18446744073709551616 := by rw [Int.natCast_emod, Int.natCast_mul]; rfl
 have M1 := Lib.hid m1
 have M2 := Lib.hid m2
 have M3 := Lib.hid m3
 have M4 := Lib.hid m4
 rw [hi, lo]
 clear m1 m2 m3 m4 hi lo
 go_enter Tryz.func105, Tryz.ntmps105
 go_wp2
 go_ret2
 refine ⟨ret_int2 ?_ ?_, rfl⟩
 ·simp only [IntKind.wrap_u64]
  rw [M1.out, M2.out, M4.out]
  exact M3.out
 ·simp only [IntKind.wrap_u64]
theorem rem_math (h l a : Nat) (hl : l < 18446744073709551616) : (l % 2305843009213693952 + (h * 8 + l / 2305843009213693952) + a) % 2305843009213693951 = (h * 18446744073709551616 + l + a) % 2305843009213693951 := by omega
theorem remainder_any (h l a : Nat) (w : World) (hh : h < 288230376151711744) (hl : l < 18446744073709551616) (ha : a < 2305843009213693951) :
  Calls Tryz.prog 106 #[.int .u64 h, .int .u64 l, .int .u64 a] w fun e w' => e = .returned (.int .u64 (((h * 18446744073709551616 + l + a) % 2305843009213693951 : Nat) : Int)) ∧ w = w' := by
 have k1 : bits .and .u64 (l : Int) 2305843009213693951 = ((l % 2305843009213693952 : Nat) : Int) := by
  have h1 := bits_and_u64_nat l 2305843009213693951 hl (by omega)
  rwa [show l &&& 2305843009213693951 = l % 2305843009213693952 from Nat.and_two_pow_sub_one_eq_mod l 61] at h1
 have k2 : bits .or .u64 ((h : Int) * 8) ((l : Int) / 2305843009213693952) = ((h * 8 + l / 2305843009213693952 : Nat) : Int) := by
  have h1 := or_big (h * 8) (l / 2305843009213693952) (by omega) (by omega)
  rw [show (h * 8 ||| l / 2305843009213693952) = h * 8 + l / 2305843009213693952 from by
   have := Nat.two_pow_add_eq_or_of_lt (i := 3) (show l / 2305843009213693952 < 2 ^ 3 by omega) h
   rw [Nat.mul_comm h 8]; exact this.symm] at h1
  rw [← h1]
  rw [Int.natCast_mul, Int.natCast_ediv]; rfl
 have k3 := rem_math h l a hl
 have K1 := Lib.hid k1
 have K2 := Lib.hid k2
 have K3 := Lib.hid k3
 clear k1 k2 k3
 go_enter Tryz.func106, Tryz.ntmps106
 go_wp2
 go_ret
 refine ⟨ret_int ?_, rfl⟩
 simp only [IntKind.wrap_u64]
 rw [K1.out, K2.out, ← K3.out, Int.tmod_eq_emod_of_nonneg (by omega)]
 have b1 : l % 2305843009213693952 < 2305843009213693952 := Nat.mod_lt _ (by decide)
 have b2 : h * 8 + l / 2305843009213693952 < 2305843009213693960 := by omega
 generalize l % 2305843009213693952 = X at b1 ⊢
 generalize h * 8 + l / 2305843009213693952 = Y at b2 ⊢
 rw [Int.emod_eq_of_lt (a := (X : Int) + Y) (by omega) (by omega), Int.emod_eq_of_lt (a := (X : Int) + Y + a) (by omega) (by omega)]
 omega
theorem mul64_E (a b : Nat) (w : World) (ha : a < 18446744073709551616) (hb : b < 18446744073709551616) :
  Calls Tryz.prog 105 #[.int .u64 a, .int .u64 b] w fun e w' => ∃ H L : Nat, Hid (H * 18446744073709551616 + L = a * b) ∧ L < 18446744073709551616 ∧ e = .returned (.tuple #[.int .u64 H, .int .u64 L]) ∧ w = w' :=
 (mul64_any a b w ha hb).mono fun e w' ⟨he, hw⟩ => ⟨_, _, Lib.hid (by have := Nat.div_add_mod (a * b) 18446744073709551616; omega), Nat.mod_lt _ (by decide), he, hw⟩
theorem step_any (s a : Nat) (w : World) (hs : s < 18446744073709551616) (ha : a < 2305843009213693951) :
  Calls Tryz.prog 89 #[.int .u64 s, .int .u64 a] w fun e w' => e = .returned (.int .u64 (stepR s a : Nat)) ∧ w = w' := by
 go_enter Tryz.func89, Tryz.ntmps89
 go_wp2_with fail
 refine Calls.mono (mul64_E s 1000000007 _ hs (by omega)) ?_
 rintro e w1 ⟨H, L, HL, hL, rfl, rfl⟩
 have h1 : H < 288230376151711744 := by have := HL.out; omega
 have h3 : (H * 18446744073709551616 + L + a) % 2305843009213693951 = stepR s a := by rw [stepR_val, HL.out]
 have H3 := Lib.hid h3
 clear h3
 go_wp2_with fail
 refine Calls.mono (remainder_any _ _ a _ h1 hL ha) ?_
 rw [H3.out]
 rintro e w1 ⟨rfl, rfl⟩
 go_wp2
 go_ret
 exact ⟨rfl, rfl⟩
end Go.Proofs.YtmcdollkmlcpbaaGreatDoor
