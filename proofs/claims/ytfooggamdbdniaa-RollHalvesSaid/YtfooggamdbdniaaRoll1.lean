/- Contracts of package roll and of the document's own functions of layer 5: numbers. -/
import Derived.Test.YtfooggamdbdniaaBase
import Derived.Laws.Bits64b
import Derived.Laws.MathBits
import Derived.Test.YtfooggamdbdniaaMathR
namespace Go.Proofs.Ytfooggamdbdniaa
open Go.RowKit

theorem ret_int2 {k j : IntKind} {a b c d : Int} (h : a = b) (h2 : c = d) : Ending.returned (.tuple #[.int k a, .int j c]) = .returned (.tuple #[.int k b, .int j d]) := by rw [h, h2]
theorem nat_mul (a b : Nat) : (a : Int) * (b : Int) = ((a * b : Nat) : Int) := (Int.natCast_mul a b).symm

theorem mul64_any (a b : Nat) (w : World) (ha : a < 18446744073709551616) (hb : b < 18446744073709551616) :
    Calls Try.prog 21 #[.int .u64 a, .int .u64 b] w fun e w' => e = .returned (.tuple #[.int .u64 ((a * b / 18446744073709551616 : Nat) : Int), .int .u64 ((a * b % 18446744073709551616 : Nat) : Int)]) ∧ w = w' := by
  have m1 := and_low32 a (by omega) (by omega)
  have m2 := and_low32 b (by omega) (by omega)
  have m3 := mul64_arith a b (by omega) (by omega) (by omega) (by omega)
  have m4 := fun z : Int => and_low32 (z % 18446744073709551616) (by omega) (by omega)
  have hi : ((a * b / 18446744073709551616 : Nat) : Int) = (a : Int) * b / 18446744073709551616 := by rw [Int.natCast_ediv, Int.natCast_mul]; rfl
  have lo : ((a * b % 18446744073709551616 : Nat) : Int) = (a : Int) * b % 18446744073709551616 := by rw [Int.natCast_emod, Int.natCast_mul]; rfl
  have M1 := Lib.hid m1
  have M2 := Lib.hid m2
  have M3 := Lib.hid m3
  have M4 := Lib.hid m4
  rw [hi, lo]
  clear m1 m2 m3 m4 hi lo
  go_enter Try.func21, Try.ntmps21
  go_wp2
  go_ret2
  refine ⟨ret_int2 ?_ ?_, rfl⟩
  · simp only [IntKind.wrap_u64]
    rw [M1.out, M2.out, M4.out]
    exact M3.out
  · simp only [IntKind.wrap_u64]

/-- modulo 2^61 - 1: two words, and an addend -/
theorem rem_math (h l a : Nat) (hl : l < 18446744073709551616) : (l % 2305843009213693952 + (h * 8 + l / 2305843009213693952) + a) % 2305843009213693951 = (h * 18446744073709551616 + l + a) % 2305843009213693951 := by omega

theorem remainder_any (h l a : Nat) (w : World) (hh : h < 288230376151711744) (hl : l < 18446744073709551616) (ha : a < 2305843009213693951) :
    Calls Try.prog 23 #[.int .u64 h, .int .u64 l, .int .u64 a] w fun e w' => e = .returned (.int .u64 (((h * 18446744073709551616 + l + a) % 2305843009213693951 : Nat) : Int)) ∧ w = w' := by
  have k1 : bits .and .u64 (l : Int) 2305843009213693951 = ((l % 2305843009213693952 : Nat) : Int) := by
    have h1 := bits_and_u64_nat l 2305843009213693951 hl (by omega)
    rwa [show l &&& 2305843009213693951 = l % 2305843009213693952 from Nat.and_two_pow_sub_one_eq_mod l 61] at h1
  have k2 : bits .or .u64 ((h : Int) * 8) ((l : Int) / 2305843009213693952) = ((h * 8 + l / 2305843009213693952 : Nat) : Int) := by
    have h1 := or_big (h * 8) (l / 2305843009213693952) (by omega) (by omega)
    rw [show (h * 8 ||| l / 2305843009213693952) = h * 8 + l / 2305843009213693952 from by
      have := Nat.two_pow_add_eq_or_of_lt (i := 3) (show l / 2305843009213693952 < 2 ^ 3 by omega) h
      rw [Nat.mul_comm h 8]; exact this.symm] at h1
    rw [← h1]
    rw [Int.natCast_mul, Int.natCast_ediv]; rfl
  have k3 := rem_math h l a hl
  have K1 := Lib.hid k1
  have K2 := Lib.hid k2
  have K3 := Lib.hid k3
  clear k1 k2 k3
  go_enter Try.func23, Try.ntmps23
  go_wp2
  go_ret
  refine ⟨ret_int ?_, rfl⟩
  simp only [IntKind.wrap_u64]
  rw [K1.out, K2.out, ← K3.out, Int.tmod_eq_emod_of_nonneg (by omega)]
  have b1 : l % 2305843009213693952 < 2305843009213693952 := Nat.mod_lt _ (by decide)
  have b2 : h * 8 + l / 2305843009213693952 < 2305843009213693960 := by omega
  generalize l % 2305843009213693952 = X at b1 ⊢
  generalize h * 8 + l / 2305843009213693952 = Y at b2 ⊢
  rw [Int.emod_eq_of_lt (a := (X : Int) + Y) (by omega) (by omega), Int.emod_eq_of_lt (a := (X : Int) + Y + a) (by omega) (by omega)]
  omega

theorem mul64_E (a b : Nat) (w : World) (ha : a < 18446744073709551616) (hb : b < 18446744073709551616) :
    Calls Try.prog 21 #[.int .u64 a, .int .u64 b] w fun e w' => ∃ H L : Nat, Hid (H * 18446744073709551616 + L = a * b) ∧ L < 18446744073709551616 ∧ e = .returned (.tuple #[.int .u64 H, .int .u64 L]) ∧ w = w' :=
  (mul64_any a b w ha hb).mono fun e w' ⟨he, hw⟩ => ⟨_, _, Lib.hid (by have := Nat.div_add_mod (a * b) 18446744073709551616; omega), Nat.mod_lt _ (by decide), he, hw⟩

theorem step_any (s a : Nat) (w : World) (hs : s < 18446744073709551616) (ha : a < 2305843009213693951) :
    Calls Try.prog 19 #[.int .u64 s, .int .u64 a] w fun e w' => e = .returned (.int .u64 (stepR s a : Nat)) ∧ w = w' := by
  go_enter Try.func19, Try.ntmps19
  go_wp2_with fail
  refine Calls.mono (mul64_E s 1000000007 _ hs (by omega)) ?_
  rintro e w1 ⟨H, L, HL, hL, rfl, rfl⟩
  have h1 : H < 288230376151711744 := by have := HL.out; omega
  have h3 : (H * 18446744073709551616 + L + a) % 2305843009213693951 = stepR s a := by rw [stepR_val, HL.out]
  have H3 := Lib.hid h3
  clear h3
  go_wp2_with fail
  refine Calls.mono (remainder_any _ _ a _ h1 hL ha) ?_
  rw [H3.out]
  rintro e w1 ⟨rfl, rfl⟩
  go_wp2
  go_ret
  exact ⟨rfl, rfl⟩

theorem product_any (a b : Nat) (w : World) (ha : a < 2305843009213693951) (hb : b < 2305843009213693951) :
    Calls Try.prog 27 #[.int .u64 a, .int .u64 b] w fun e w' => e = .returned (.int .u64 ((a * b % 2305843009213693951 : Nat) : Int)) ∧ w = w' := by
  have hab : a * b ≤ 2305843009213693950 * 2305843009213693950 := Nat.mul_le_mul (by omega) (by omega)
  obtain ⟨Z, hZ⟩ : ∃ Z, Z = a * b % 2305843009213693951 := ⟨_, rfl⟩
  rw [← hZ]
  have HZ := Lib.hid hZ
  have HAB := Lib.hid hab
  clear hZ hab
  go_enter Try.func27, Try.ntmps27
  go_wp2_with fail
  refine Calls.mono (mul64_E a b _ (by omega) (by omega)) ?_
  rintro e w1 ⟨H, L, HL, hL, rfl, rfl⟩
  have h1 : H < 288230376151711744 := by have := HL.out; have := HAB.out; omega
  have h3 : (H * 18446744073709551616 + L + 0) % 2305843009213693951 = Z := by rw [HZ.out, HL.out, Nat.add_zero]
  have H3 := Lib.hid h3
  clear h3
  go_wp2_with fail
  refine Calls.mono (remainder_any _ _ 0 _ h1 hL (by omega)) ?_
  rw [H3.out]
  rintro e w1 ⟨rfl, rfl⟩
  go_wp2
  go_ret
  exact ⟨rfl, rfl⟩

theorem product_E (a b : Nat) (w : World) (ha : a < 2305843009213693951) (hb : b < 2305843009213693951) :
    Calls Try.prog 27 #[.int .u64 a, .int .u64 b] w fun e w' => ∃ Z : Nat, Hid (Z = a * b % 2305843009213693951) ∧ Z < 2305843009213693951 ∧ e = .returned (.int .u64 Z) ∧ w = w' :=
  (product_any a b w ha hb).mono fun e w' ⟨he, hw⟩ => ⟨_, rfl, Nat.mod_lt _ (by decide), he, hw⟩

theorem and_one_i64 (n : Nat) (h : n < 9223372036854775808) : bits .and .i64 (n : Int) 1 = ((n % 2 : Nat) : Int) := by
  have h1 := (bits_nat .i64 63 (by decide) (fun n h0 h1 => by simp only [IntKind.wrap_i64]; omega) n 1 h (by omega)).1
  rw [Nat.and_one_is_mod] at h1
  exact h1

theorem power_any (n : Int) (w : World) (hn : -9223372036854775808 ≤ n ∧ n ≤ 9223372036854775807) :
    Calls Try.prog 22 #[.int .i64 n] w fun e w' => e = .returned (.int .u64 ((1000000007 ^ n.toNat % 2305843009213693951 : Nat) : Int)) ∧ w = w' := by
  obtain ⟨Y, hY⟩ : ∃ Y, Y = 1000000007 ^ n.toNat % 2305843009213693951 := ⟨_, rfl⟩
  rw [← hY]
  have HY := Lib.hid hY
  clear hY
  go_enter Try.func22, Try.ntmps22
  go_wp2
  go_loop [0, 3, 4] (fun i p q => ∃ (m : Int) (a b : Nat), m ≤ n ∧ i = .int .i64 m ∧ p = .int .u64 a ∧ q = .int .u64 b ∧ a < 2305843009213693951 ∧ b < 2305843009213693951 ∧ Hid (a * b ^ m.toNat % 2305843009213693951 = Y)) (fun i _ _ => (intOf i).toNat)
  case atStart => exact ⟨n, 1, 1000000007, Int.le_refl _, rfl, rfl, rfl, by omega, by omega, Lib.hid (by rw [Nat.one_mul, HY.out])⟩
  case round =>
    obtain ⟨m, a, b, hm, rfl, rfl, rfl, ha, hb, HI⟩ := hrel
    by_cases h0 : 0 < m
    · obtain ⟨k, rfl⟩ := Int.eq_ofNat_of_zero_le (show 0 ≤ m by omega)
      have hk := and_one_i64 k (by omega)
      by_cases h2 : k % 2 = 1
      · rw [h2] at hk
        have H2 := Lib.hid h2
        clear h2
        go_wp2_with fail
        refine Calls.mono (product_E a b _ ha hb) ?_
        rintro e w1 ⟨U, HU, hU, rfl, rfl⟩
        go_wp2_with fail
        refine Calls.mono (product_E b b _ hb hb) ?_
        rintro e w1 ⟨V, HV, hV, rfl, rfl⟩
        go_wp2
        go_round
        case measure => simp [intOf]; omega
        case rel => exact ⟨(k : Int) / 2, _, _, by omega, rfl, rfl, rfl, hU, hV, Lib.hid (by
          have h := HI.out
          rw [← h, HU.out, HV.out, Int.toNat_natCast, show ((k : Int) / 2).toNat = k / 2 by omega]
          exact pw_odd a b k _ H2.out)⟩
      · have h3 : k % 2 = 0 := by omega
        rw [h3] at hk
        have H3 := Lib.hid h3
        clear h2 h3
        go_wp2_with fail
        refine Calls.mono (product_E b b _ hb hb) ?_
        rintro e w1 ⟨V, HV, hV, rfl, rfl⟩
        go_wp2
        go_round
        case measure => simp [intOf]; omega
        case rel => exact ⟨(k : Int) / 2, a, _, by omega, rfl, rfl, rfl, ha, hV, Lib.hid (by
          have h := HI.out
          rw [← h, HV.out, Int.toNat_natCast, show ((k : Int) / 2).toNat = k / 2 by omega]
          exact pw_even a b k _ H3.out)⟩
    · have e : a = Y := by
        have h := HI.out
        rw [show m.toNat = 0 by omega, Nat.pow_zero, Nat.mul_one, Nat.mod_eq_of_lt ha] at h
        exact h
      have E := Lib.hid e
      clear e
      go_wp2
      go_ret
      exact ⟨ret_int (by rw [E.out]), rfl⟩

theorem join_num (a b : Nat) (n : Int) (w : World) (ha : a < 18446744073709551616) (hb : b < 18446744073709551616) (hn : -9223372036854775808 ≤ n ∧ n ≤ 9223372036854775807) :
    Calls Try.prog 11 #[.int .u64 a, .int .u64 b, .int .i64 n] w fun e w' => e = .returned (.int .u64 (joinR a b n.toNat : Nat)) ∧ w = w' := by
  obtain ⟨Y, hY⟩ : ∃ Y, Y = 1000000007 ^ n.toNat % 2305843009213693951 := ⟨_, rfl⟩
  have hYl : Y < 2305843009213693951 := by rw [hY]; exact Nat.mod_lt _ (by decide)
  obtain ⟨X, hX⟩ : ∃ X, X = a % 2305843009213693951 := ⟨_, rfl⟩
  obtain ⟨Z, hZ⟩ : ∃ Z, Z = b % 2305843009213693951 := ⟨_, rfl⟩
  have hXl : X < 2305843009213693951 := by rw [hX]; exact Nat.mod_lt _ (by decide)
  have hZl : Z < 2305843009213693951 := by rw [hZ]; exact Nat.mod_lt _ (by decide)
  have hXY : X * Y ≤ 2305843009213693950 * 2305843009213693950 := Nat.mul_le_mul (by omega) (by omega)
  have h3 : (X * Y + Z) % 2305843009213693951 = joinR a b n.toNat := by
    rw [hX, hY, hZ]
    unfold joinR joinG
    rw [Nat.add_mod, ← Nat.mul_mod, Nat.mod_mod, ← Nat.add_mod]
  have HXY := Lib.hid hXY
  clear hXY
  have eX : (a : Int) % 2305843009213693951 = (X : Int) := by omega
  have eZ : (b : Int) % 2305843009213693951 = (Z : Int) := by omega
  have H3 := Lib.hid h3
  have HX := Lib.hid eX
  have HZ := Lib.hid eZ
  have HY := Lib.hid hY
  clear h3 eX eZ hX hY hZ
  go_enter Try.func11, Try.ntmps11
  go_wp2_with fail
  refine Calls.mono (power_any n _ hn) ?_
  rw [← HY.out]
  rintro e w1 ⟨rfl, rfl⟩
  go_wp2_with fail
  rw [HX.out]
  refine Calls.mono (mul64_E X Y _ (by omega) (by omega)) ?_
  rintro e w1 ⟨H, L, HL, hL, rfl, rfl⟩
  have h1 : H < 288230376151711744 := by have := HL.out; have := HXY.out; omega
  have h4 : (H * 18446744073709551616 + L + Z) % 2305843009213693951 = joinR a b n.toNat := by rw [HL.out, H3.out]
  have H4 := Lib.hid h4
  clear h4
  go_wp2_with fail
  rw [HZ.out]
  refine Calls.mono (remainder_any _ _ Z _ h1 hL hZl) ?_
  rw [H4.out]
  rintro e w1 ⟨rfl, rfl⟩
  go_wp2
  go_ret
  exact ⟨rfl, rfl⟩

end Go.Proofs.Ytfooggamdbdniaa
