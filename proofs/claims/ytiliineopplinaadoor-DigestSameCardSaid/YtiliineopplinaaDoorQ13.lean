/- Joined: Roll2, Roll3. -/
import Derived.Test.YtiliineopplinaaDoorQ6
import Derived.Test.YtiliineopplinaaDoorQ8
import Derived.Test.YtiliineopplinaaDoorQ5
set_option linter.unusedSimpArgs false
set_option linter.unusedVariables false
/- Contracts of package roll: Next, More, Of. -/
namespace Go.Proofs.YtiliineopplinaaDoor
open Go.RowKit

theorem step_of (s a : Nat) (d : Int) (w : World) (hd : d = a) (hs : s < 18446744073709551616) (ha : a < 2305843009213693951) :
    Calls Tryd.prog 35 #[.int .u64 s, .int .u64 d] w fun e w' => e = .returned (.int .u64 (stepR s a : Nat)) ∧ w = w' := by subst hd; exact step_any s a w hs ha

theorem bitl_step (l : List UInt8) (k : Nat) (s : Nat) : stepR (moreR s (bitl l k)) (1 + b2n (bt l k)) = moreR s (bitl l (k + 1)) := by
  rw [bitl_succ]; exact (moreG_snoc _ _ s _ _).symm
theorem bit_valR (l : List UInt8) (k : Nat) (h : k / 8 < l.length) : bits .and .u8 (((l[k / 8]).toNat : Int) / 2 ^ (7 - k % 8)) 1 = (b2n (bt l k) : Int) := by
  rw [nat_shr, and_one_u8 _ (by have := (l[k / 8]).toNat_lt; exact Nat.lt_of_le_of_lt (Nat.div_le_self _ _) this), shr_bit]
  simp [bt, h]

set_option maxHeartbeats 1000000 in
theorem more_ok (A : Option Addr) (c : Nat) (l : List UInt8) (n s : Nat) (w : World) (hb : Bs w A l) (hl : l.length ≤ 1099511627776) (hs : soundB l n = true) (h64 : s < 18446744073709551616) :
    Calls Tryd.prog 17 #[.int .u64 s, .agg #[.slice A l.length c, .int .i64 n]] w fun e w' =>
      e = .returned (.tuple #[.int .u64 (moreR s (bitl l n) : Nat), .int .u16 0]) ∧ Below w.heap.size w w' := by
  obtain ⟨m, hm, hm8, -⟩ := sound_nat hs
  obtain rfl : n = m := by omega
  obtain ⟨X, hX⟩ : ∃ X, X = moreR s (bitl l 0) := ⟨_, rfl⟩
  have eX : (s : Int) % 2305843009213693951 = (X : Int) := by
    rw [hX, show moreR s (bitl l 0) = s % 2305843009213693951 from rfl]; omega
  have HS := Lib.hid hs
  have HX := Lib.hid hX
  have HE := Lib.hid eX
  clear hs hm eX hX
  go_enter Tryd.func17, Tryd.ntmps17
  have kA := keepA
  go_wp2_with fail
  refine Calls.mono (sound_any A c l n _ hb.up (by omega) (by unfold maxLen; omega)) ?_
  rw [HS.out]
  rintro e w1 ⟨rfl, hb1⟩
  have x1 := boxN hb1
  have t1 := go1 (w := w) hb1
  replace hb := hb.go hb1
  go_wp2_with fail
  go_loopw [0, 14] (fun q i wr => ∃ k : Nat, k ≤ n ∧ i = .int .i64 k ∧ q = .int .u64 (moreR s (bitl l k) : Nat) ∧ w1 = wr) (fun _ i _ => n - (intOf i).toNat)
  case atStart => exact ⟨0, Nat.zero_le _, rfl, by rw [HE.out, HX.out], rfl⟩
  case round =>
    obtain ⟨k, hk, rfl, rfl, rfl⟩ := hrel
    by_cases hlt : k < n
    · have hidx : k / 8 < l.length := by omega
      obtain ⟨p, o, rfl, hpl, hc⟩ := hb.at_ (show 0 < l.length by omega)
      have hck := hc _ hidx
      have hbv := bit_valR l k hidx
      have hbn := b2n_le (bt l k)
      have hml := moreR_lt s (bitl l k)
      clear hc
      have hst := bitl_step l k s
      have HST := Lib.hid hst
      clear hst
      go_wp2_with fail
      refine Calls.mono (step_of _ (1 + b2n (bt l k)) _ _ (by omega) (by omega) (by omega)) ?_
      rw [HST.out]
      rintro e w2 ⟨rfl, rfl⟩
      go_wp2
      go_roundw
      case measure => simp [intOf]; omega
      case rel => exact ⟨k + 1, by omega, by go_num, rfl, trivial⟩
    · obtain rfl : k = n := by omega
      go_wp2
      go_ret2
      exact ⟨rfl, t1⟩

theorem more_err (A : Option Addr) (c : Nat) (l : List UInt8) (n : Int) (s : Nat) (w : World) (hb : Bs w A l) (hl : l.length ≤ 1099511627776) (hn : -9223372036854775808 ≤ n ∧ n ≤ 9223372036854775807) (hs : soundB l n = false) :
    Calls Tryd.prog 17 #[.int .u64 s, .agg #[.slice A l.length c, .int .i64 n]] w fun e w' =>
      e = .returned (.tuple #[.int .u64 0, .int .u16 11]) ∧ Below w.heap.size w w' := by
  have HS := Lib.hid hs
  clear hs
  go_enter Tryd.func17, Tryd.ntmps17
  go_wp2_with fail
  refine Calls.mono (sound_any A c l n _ hb.up hn (by unfold maxLen; omega)) ?_
  rw [HS.out]
  rintro e w1 ⟨rfl, hb1⟩
  have t1 := go1 (w := w) hb1
  go_wp2
  go_ret2
  exact ⟨rfl, t1⟩

/-- what More answers -/
def moreSpec (s : Nat) (l : List UInt8) (n : Int) : Nat × Nat := if soundB l n = true then (moreR s (bitl l n.toNat), 0) else (0, 11)
theorem more_any (A : Option Addr) (c : Nat) (l : List UInt8) (n : Int) (s : Nat) (w : World) (hb : Bs w A l) (hl : l.length ≤ 1099511627776) (hn : -9223372036854775808 ≤ n ∧ n ≤ 9223372036854775807) (h64 : s < 18446744073709551616) :
    Calls Tryd.prog 17 #[.int .u64 s, .agg #[.slice A l.length c, .int .i64 n]] w fun e w' =>
      e = .returned (.tuple #[.int .u64 (moreSpec s l n).1, .int .u16 (moreSpec s l n).2]) ∧ Below w.heap.size w w' := by
  unfold moreSpec
  split
  · rename_i h
    obtain ⟨m, rfl, -, -⟩ := sound_nat h
    exact more_ok A c l m s w hb hl h h64
  · rename_i h
    exact more_err A c l n s w hb hl hn (by simpa using h)

theorem of_any (A : Option Addr) (c : Nat) (l : List UInt8) (n : Int) (w : World) (hb : Bs w A l) (hl : l.length ≤ 1099511627776) (hn : -9223372036854775808 ≤ n ∧ n ≤ 9223372036854775807) :
    Calls Tryd.prog 40 #[.agg #[.slice A l.length c, .int .i64 n]] w fun e w' =>
      e = .returned (.tuple #[.int .u64 (moreSpec 0 l n).1, .int .u16 (moreSpec 0 l n).2]) ∧ Below w.heap.size w w' := by
  go_enter Tryd.func40, Tryd.ntmps40
  go_wp2_with fail
  refine Calls.mono (more_any A c l n 0 _ hb.up hl hn (by omega)) ?_
  rintro e w1 ⟨rfl, hb1⟩
  have t1 := go1 (w := w) hb1
  go_wp2
  go_ret2
  exact ⟨rfl, t1⟩

end Go.Proofs.YtiliineopplinaaDoor

/- Contracts of the document's own functions of layer 5. -/
namespace Go.Proofs.YtiliineopplinaaDoor
open Go.RowKit

theorem bit_u64 (b k : Nat) (h : b < 18446744073709551616) : bits .and .u64 ((b : Int) / 2 ^ k) 1 = ((b / 2 ^ k % 2 : Nat) : Int) := by
  have h1 : b / 2 ^ k < 18446744073709551616 := Nat.lt_of_le_of_lt (Nat.div_le_self _ _) h
  have h2 := bits_and_u64_nat (b / 2 ^ k) 1 h1 (by omega)
  rw [Nat.and_one_is_mod] at h2
  rw [nat_shr]
  exact h2

set_option maxHeartbeats 1000000 in
theorem times_any (a b : Nat) (w : World) (ha : a < 18446744073709551616) (hb : b < 18446744073709551616) :
    Calls Tryd.prog 18 #[.int .u64 a, .int .u64 b] w fun e w' => ∃ Z : Nat, Hid (Z = a * b % 2305843009213693951) ∧ Z < 2305843009213693951 ∧ e = .returned (.int .u64 Z) ∧ w = w' := by
  obtain ⟨X, hX⟩ : ∃ X, X = a * 2 ^ 0 % 2305843009213693951 := ⟨_, rfl⟩
  have eX : (a : Int) % 2305843009213693951 = (X : Int) := by omega
  have HX := Lib.hid hX
  have HE := Lib.hid eX
  clear eX hX
  go_enter Tryd.func18, Tryd.ntmps18
  go_wp2
  go_loop [0, 5, 6] (fun p q i => ∃ k A Z : Nat, k ≤ 64 ∧ i = .int .i64 k ∧ p = .int .u64 A ∧ q = .int .u64 Z ∧ A < 2305843009213693951 ∧ Z < 2305843009213693951 ∧ Hid (A = a * 2 ^ k % 2305843009213693951) ∧ Hid (Z = a * (b % 2 ^ k) % 2305843009213693951)) (fun _ _ i => 64 - (intOf i).toNat)
  case atStart => exact ⟨0, X, 0, by omega, rfl, by rw [HE.out], rfl, by rw [HX.out]; exact Nat.mod_lt _ (by decide), by omega, HX, Lib.hid (by rw [Nat.pow_zero, Nat.mod_one]; rfl)⟩
  case round =>
    obtain ⟨k, A, Z, hk, rfl, rfl, rfl, hA, hZ, HA, HZ⟩ := hrel
    by_cases hlt : k < 64
    · have hbit := bit_u64 b k hb
      have h2 : b / 2 ^ k % 2 < 2 := Nat.mod_lt _ (by decide)
      have hst := times_step a b k 2305843009213693951
      have hdb := double_step a k 2305843009213693951
      rw [← HA.out, ← HZ.out] at hst
      rw [← HA.out] at hdb
      obtain ⟨B, hB⟩ : ∃ B, B = b / 2 ^ k % 2 := ⟨_, rfl⟩
      rw [← hB] at hbit h2 hst
      have HST := Lib.hid hst
      have HDB := Lib.hid hdb
      clear hB hst hdb
      have hAA : (A + A) % 2305843009213693951 < 2305843009213693951 := Nat.mod_lt _ (by decide)
      by_cases h1 : B = 1
      · subst h1
        have hZA : (Z + A) % 2305843009213693951 < 2305843009213693951 := Nat.mod_lt _ (by decide)
        go_wp2
        go_round
        case measure => simp [intOf]; omega
        case rel => exact ⟨k + 1, (A + A) % 2305843009213693951, (Z + A) % 2305843009213693951, by omega, by go_num, by go_num, by go_num, hAA, hZA, HDB, Lib.hid (by have := HST.out; rwa [Nat.one_mul] at this)⟩
      · obtain rfl : B = 0 := by omega
        go_wp2
        go_round
        case measure => simp [intOf]; omega
        case rel => exact ⟨k + 1, (A + A) % 2305843009213693951, Z, by omega, by go_num, by go_num, rfl, hAA, hZ, HDB, Lib.hid (by have := HST.out; rwa [Nat.zero_mul, Nat.add_zero, Nat.mod_eq_of_lt hZ] at this)⟩
    · obtain rfl : k = 64 := by omega
      have HZ2 : Hid (Z = a * b % 2305843009213693951) := Lib.hid (by rw [HZ.out, Nat.mod_eq_of_lt (a := b) hb])
      clear HZ
      go_wp2
      go_ret
      exact ⟨Z, HZ2, hZ, rfl, rfl⟩

set_option maxHeartbeats 1000000 in
theorem refJoin_num (a b : Nat) (n : Int) (w : World) (ha : a < 18446744073709551616) (hb : b < 18446744073709551616) (hn : -9223372036854775808 ≤ n ∧ n ≤ 9223372036854775807) :
    Calls Tryd.prog 8 #[.int .u64 a, .int .u64 b, .int .i64 n] w fun e w' => e = .returned (.int .u64 (joinR a b n.toNat : Nat)) ∧ w = w' := by
  obtain ⟨X, hX⟩ : ∃ X, X = a % 2305843009213693951 := ⟨_, rfl⟩
  have hXl : X < 2305843009213693951 := by rw [hX]; exact Nat.mod_lt _ (by decide)
  have eX : (a : Int) % 2305843009213693951 = (X : Int) := by omega
  obtain ⟨Y, hY⟩ : ∃ Y, Y = X * 1000000007 ^ n.toNat % 2305843009213693951 := ⟨_, rfl⟩
  have hYl : Y < 2305843009213693951 := by rw [hY]; exact Nat.mod_lt _ (by decide)
  have h3 : (Y + b % 2305843009213693951) % 2305843009213693951 = joinR a b n.toNat := by
    rw [hY, hX]
    unfold joinR joinG
    rw [← Nat.add_mod, Nat.add_mod, Nat.mul_mod, Nat.mod_mod, ← Nat.mul_mod, ← Nat.add_mod]
  have HX := Lib.hid eX
  have HY := Lib.hid hY
  have H3 := Lib.hid h3
  clear hX eX hY h3
  go_enter Tryd.func8, Tryd.ntmps8
  go_wp2
  go_loop [0, 2, 7] (fun p i q => ∃ (m : Int) (x y : Nat), m ≤ n ∧ -9223372036854775808 ≤ m ∧ i = .int .i64 m ∧ p = .int .u64 x ∧ q = .int .u64 y ∧ x < 2305843009213693951 ∧ y < 2305843009213693951 ∧ Hid (x * y ^ m.toNat % 2305843009213693951 = Y)) (fun _ i _ => (intOf i).toNat)
  case atStart => exact ⟨n, X, 1000000007, Int.le_refl _, hn.1, rfl, by rw [HX.out], rfl, hXl, by omega, Lib.hid HY.out.symm⟩
  case round =>
    obtain ⟨m, x, y, hm, hm2, rfl, rfl, rfl, hx, hy, HI⟩ := hrel
    by_cases h0 : 0 < m
    · obtain ⟨k, rfl⟩ := Int.eq_ofNat_of_zero_le (show 0 ≤ m by omega)
      by_cases h2 : k % 2 = 1
      · have hk : ((k : Int) % 2 == 1) = true := by rw [beq_iff_eq]; omega
        have H2 := Lib.hid h2
        clear h2
        go_wp2_with fail
        refine Calls.mono (times_any x y _ (by omega) (by omega)) ?_
        rintro e w1 ⟨U, HU, hU, rfl, rfl⟩
        go_wp2_with fail
        refine Calls.mono (times_any y y _ (by omega) (by omega)) ?_
        rintro e w1 ⟨V, HV, hV, rfl, rfl⟩
        go_wp2
        go_round
        case measure => simp [intOf]; omega
        case rel => exact ⟨(k : Int) / 2, _, _, by omega, by omega, rfl, rfl, rfl, hU, hV, Lib.hid (by
          have h := HI.out
          rw [← h, HU.out, HV.out, Int.toNat_natCast, show ((k : Int) / 2).toNat = k / 2 by omega]
          exact pw_odd x y k _ H2.out)⟩
      · have hk : ((k : Int) % 2 == 1) = false := by rw [beq_eq_false_iff_ne]; omega
        have H3 : Hid (k % 2 = 0) := Lib.hid (by omega)
        clear h2
        go_wp2_with fail
        refine Calls.mono (times_any y y _ (by omega) (by omega)) ?_
        rintro e w1 ⟨V, HV, hV, rfl, rfl⟩
        go_wp2
        go_round
        case measure => simp [intOf]; omega
        case rel => exact ⟨(k : Int) / 2, x, _, by omega, by omega, rfl, rfl, rfl, hx, hV, Lib.hid (by
          have h := HI.out
          rw [← h, HV.out, Int.toNat_natCast, show ((k : Int) / 2).toNat = k / 2 by omega]
          exact pw_even x y k _ H3.out)⟩
    · have e : x = Y := by
        have h := HI.out
        rw [show m.toNat = 0 by omega, Nat.pow_zero, Nat.mul_one, Nat.mod_eq_of_lt hx] at h
        exact h
      subst e
      go_wp2
      go_ret
      exact ⟨ret_int (by rw [← H3.out]; omega), rfl⟩

end Go.Proofs.YtiliineopplinaaDoor
