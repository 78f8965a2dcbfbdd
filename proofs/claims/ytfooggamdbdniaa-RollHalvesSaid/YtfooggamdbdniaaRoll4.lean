/- The statements of layer 5: the walks. -/
import Derived.Test.YtfooggamdbdniaaRoll3
namespace Go.Proofs.Ytfooggamdbdniaa
open Go.RowKit

theorem bs_one (w : World) (t : TypeId) (b : UInt8) : Bs (w.alloc (.cells #[bv b] t)) (some ⟨w.heap.size, 0, none⟩) [b] := fun i x h => by
  match i, h with
  | 0, h => simp at h; subst h; exact ⟨_, 0, rfl, box_cell _ _ _ _ _ rfl⟩

theorem known5_any (w : World) : Calls Try.prog 8 #[] w fun e w' => e = .returned (.bool true) ∧ Below w.heap.size w w' := by
  have e1 : moreSpec 0 [128] 2 = (2000000015, 0) := by decide +kernel
  have e2 : joinR 2 1 1 = 2000000015 := by decide +kernel
  have E1 := Lib.hid e1
  have E2 := Lib.hid e2
  clear e1 e2
  go_enter Try.func8, Try.ntmps8
  go_wp2_with fail
  refine Calls.mono (of_any _ _ [128] 2 _ (bs_one w _ 128) (by decide) (by decide)) ?_
  rw [E1.out]
  rintro e w1 ⟨rfl, hb1⟩
  have t1 := go1 (w := w) hb1
  go_wp2_with fail
  refine Calls.mono (join_num 2 1 1 _ (by decide) (by decide) (by decide)) ?_
  rw [show (1 : Int).toNat = 1 from rfl, E2.out]
  rintro e w2 ⟨rfl, rfl⟩
  go_wp2
  go_ret
  exact ⟨rfl, t1⟩

theorem rollNexts_walk (s t : Nat) (one : Bool) (n : Int) (w : World) (hs : (s : Int) ≤ 18446744073709551615) (ht : (t : Int) ≤ 18446744073709551615) (hn : -9223372036854775808 ≤ n ∧ n ≤ 9223372036854775807) :
    Calls Try.prog 3 #[.int .u64 s, .int .u64 t, .bool one, .int .i64 n] w fun e w' => e = .returned (.bool true) ∧ Below w.heap.size w w' := by
  go_enter Try.func3, Try.ntmps3
  go_wp2_with fail
  refine Calls.mono (known5_any _) ?_
  rintro e w1 ⟨rfl, hb1⟩
  go_wp2_with (first
    | (go_at_call 9; refine Calls.mono (next_any s one _ (by omega)) ?_; rintro e w2 ⟨rfl, rfl⟩)
    | (go_at_call 10; refine Calls.mono (refNext_any s one _ (by omega)) ?_; rintro e w2 ⟨rfl, rfl⟩)
    | (go_at_call 11; refine Calls.mono (join_num s t n _ (by omega) (by omega) hn) ?_; rintro e w2 ⟨rfl, rfl⟩)
    | (go_at_call 12; refine Calls.mono (refJoin_num s t n _ (by omega) (by omega) hn) ?_; rintro e w2 ⟨rfl, rfl⟩))
  go_ret
  exact ⟨by simp, hb1⟩

theorem nextX (s : Nat) (b : Bool) (w : World) (hs : s < 18446744073709551616) :
    Calls Try.prog 9 #[.int .u64 s, .bool b] w fun e w' => ∃ Z : Nat, Hid (Z = stepR s (1 + b2n b)) ∧ Z < 2305843009213693951 ∧ e = .returned (.int .u64 Z) ∧ w = w' :=
  (next_any s b w hs).mono fun e w' ⟨he, hw⟩ => ⟨_, rfl, stepR_lt _ _, he, hw⟩
theorem joinX (a b : Nat) (n : Int) (w : World) (ha : a < 18446744073709551616) (hb : b < 18446744073709551616) (hn : -9223372036854775808 ≤ n ∧ n ≤ 9223372036854775807) :
    Calls Try.prog 11 #[.int .u64 a, .int .u64 b, .int .i64 n] w fun e w' => ∃ Z : Nat, Hid (Z = joinR a b n.toNat) ∧ Z < 2305843009213693951 ∧ e = .returned (.int .u64 Z) ∧ w = w' :=
  (join_num a b n w ha hb hn).mono fun e w' ⟨he, hw⟩ => ⟨_, rfl, joinR_lt _ _ _, he, hw⟩

set_option maxHeartbeats 1000000 in
theorem rollTurns_walk (s t : Nat) (one : Bool) (w : World) (hs : (s : Int) ≤ 18446744073709551615) (ht : (t : Int) ≤ 18446744073709551615) :
    Calls Try.prog 6 #[.int .u64 s, .int .u64 t, .bool one] w fun e w' => e = .returned (.bool true) ∧ Below w.heap.size w w' := by
  obtain ⟨X, hX⟩ : ∃ X, X = s % 2305843009213693951 := ⟨_, rfl⟩
  obtain ⟨Y, hY⟩ : ∃ Y, Y = t % 2305843009213693951 := ⟨_, rfl⟩
  have hXl : X < 2305843009213693951 := by rw [hX]; exact Nat.mod_lt _ (by decide)
  have hYl : Y < 2305843009213693951 := by rw [hY]; exact Nat.mod_lt _ (by decide)
  have eX : (s : Int) % 2305843009213693951 = (X : Int) := by omega
  have eY : (t : Int) % 2305843009213693951 = (Y : Int) := by omega
  have HX := Lib.hid hX
  have HeX := Lib.hid eX
  have HeY := Lib.hid eY
  clear hX hY eX eY
  go_enter Try.func6, Try.ntmps6
  go_wp2_with fail
  rw [HeX.out, HeY.out]
  refine Calls.mono (known5_any _) ?_
  rintro e w1 ⟨rfl, hb1⟩
  go_wp2_with fail
  refine Calls.mono (nextX X true _ (by omega)) ?_
  rintro e w2 ⟨Z1, HZ1, hZ1, rfl, rfl⟩
  go_wp2_with fail
  refine Calls.mono (nextX X false _ (by omega)) ?_
  rintro e w2 ⟨Z2, HZ2, hZ2, rfl, rfl⟩
  have f1 : ((Z1 : Int) != Z2) = true := by
    rw [bne_iff_ne]; intro h
    have h1 := step_apart X
    rw [show (2 : Nat) = 1 + b2n true from rfl, ← HZ1.out, show (1 : Nat) = 1 + b2n false from rfl, ← HZ2.out] at h1
    omega
  go_wp2_with fail
  refine Calls.mono (nextX X one _ (by omega)) ?_
  rintro e w2 ⟨Z3, HZ3, hZ3, rfl, rfl⟩
  go_wp2_with fail
  refine Calls.mono (nextX Y one _ (by omega)) ?_
  rintro e w2 ⟨Z4, HZ4, hZ4, rfl, rfl⟩
  have f2 : (((Z3 : Int) == Z4) == ((X : Int) == Y)) = true := by
    rw [beq_iff_eq, Bool.eq_iff_iff, beq_iff_eq, beq_iff_eq]
    constructor
    · intro h
      have h2 := fac_inv X Y (1 + b2n one) hXl hYl (by rw [← HZ3.out, ← HZ4.out]; omega)
      rw [h2]
    · intro h
      have h2 : X = Y := by omega
      subst h2
      rw [HZ3.out, HZ4.out]
  go_wp2_with fail
  refine Calls.mono (nextX s one _ (by omega)) ?_
  rintro e w2 ⟨Z5, HZ5, hZ5, rfl, rfl⟩
  go_wp2_with fail
  refine Calls.mono (nextX X one _ (by omega)) ?_
  rintro e w2 ⟨Z6, HZ6, hZ6, rfl, rfl⟩
  have f3 : ((Z5 : Int) == Z6) = true := by
    rw [beq_iff_eq, turns_eq HZ5.out HZ6.out HX.out]
  go_wp2_with fail
  refine Calls.mono (nextX s one _ (by omega)) ?_
  rintro e w2 ⟨Z7, HZ7, hZ7, rfl, rfl⟩
  have f4 : decide ((Z7 : Int) < 2305843009213693951) = true := decide_eq_true (by omega)
  go_wp2
  go_ret
  exact ⟨by simp, hb1⟩

set_option maxHeartbeats 1000000 in
theorem rollJoins_walk (a b c : Nat) (n k : Nat) (w : World) (ha : (a : Int) ≤ 18446744073709551615) (hb : (b : Int) ≤ 18446744073709551615) (hc : (c : Int) ≤ 18446744073709551615) (hn : (n : Int) ≤ 65535) (hk : (k : Int) ≤ 65535) :
    Calls Try.prog 7 #[.int .u64 a, .int .u64 b, .int .u64 c, .int .u16 n, .int .u16 k] w fun e w' => e = .returned (.bool true) ∧ Below w.heap.size w w' := by
  go_enter Try.func7, Try.ntmps7
  go_wp2_with fail
  refine Calls.mono (joinX a b _ _ (by omega) (by omega) (by omega)) ?_
  rintro e w2 ⟨Z1, HZ1, hZ1, rfl, rfl⟩
  go_wp2_with fail
  refine Calls.mono (joinX Z1 c _ _ (by omega) (by omega) (by omega)) ?_
  rintro e w2 ⟨Z2, HZ2, hZ2, rfl, rfl⟩
  go_wp2_with fail
  refine Calls.mono (joinX b c _ _ (by omega) (by omega) (by omega)) ?_
  rintro e w2 ⟨Z3, HZ3, hZ3, rfl, rfl⟩
  go_wp2_with fail
  refine Calls.mono (joinX a Z3 _ _ (by omega) (by omega) (by omega)) ?_
  rintro e w2 ⟨Z4, HZ4, hZ4, rfl, rfl⟩
  have f1 : ((Z2 : Int) == Z4) = true := by
    rw [beq_iff_eq, HZ2.out, HZ1.out, HZ4.out, HZ3.out, show ((n : Int) + k).toNat = n + k by omega, Int.toNat_natCast, Int.toNat_natCast]
    congr 1
    exact joinG_assoc _ _ a b c n k
  go_wp2_with fail
  refine Calls.mono (known5_any _) ?_
  rintro e w1 ⟨rfl, hb1⟩
  go_wp2_with fail
  refine Calls.mono (joinX a 0 _ _ (by omega) (by omega) (by omega)) ?_
  rintro e w2 ⟨Z5, HZ5, hZ5, rfl, rfl⟩
  have f2 : ((Z5 : Int) == (a : Int) % 2305843009213693951) = true := by
    have h := joinG_zero 2305843009213693951 1000000007 a
    rw [beq_iff_eq, HZ5.out, show (0 : Int).toNat = 0 from rfl, show joinR a 0 0 = a % 2305843009213693951 from h]
    omega
  go_wp2
  go_ret
  exact ⟨rfl, hb1⟩

end Go.Proofs.Ytfooggamdbdniaa
