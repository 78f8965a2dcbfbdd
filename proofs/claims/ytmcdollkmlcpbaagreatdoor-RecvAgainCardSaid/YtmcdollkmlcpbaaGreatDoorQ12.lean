/- Joined: Roll2. -/
import Derived.Test.YtmcdollkmlcpbaaGreatDoorQ5
import Derived.Test.YtmcdollkmlcpbaaGreatDoorQ7
import Derived.Test.YtmcdollkmlcpbaaGreatDoorQ4
set_option linter.unusedSimpArgs false
set_option linter.unusedVariables false
namespace Go.Proofs.YtmcdollkmlcpbaaGreatDoor
open Go.RowKit
theorem step_of (s a : Nat) (d : Int) (w : World) (hd : d = a) (hs : s < 18446744073709551616) (ha : a < 2305843009213693951) :
  Calls Tryz.prog 89 #[.int .u64 s, .int .u64 d] w fun e w' => e = .returned (.int .u64 (stepR s a : Nat)) ∧ w = w' := by subst hd; exact step_any s a w hs ha
theorem bitl_step (l : List UInt8) (k : Nat) (s : Nat) : stepR (moreR s (bitl l k)) (1 + b2n (bt l k)) = moreR s (bitl l (k + 1)) := by
 rw [bitl_succ]; exact (moreG_snoc _ _ s _ _).symm
theorem bit_valR (l : List UInt8) (k : Nat) (h : k / 8 < l.length) : bits .and .u8 (((l[k / 8]).toNat : Int) / 2 ^ (7 - k % 8)) 1 = (b2n (bt l k) : Int) := by
 rw [nat_shr, and_one_u8 _ (by have := (l[k / 8]).toNat_lt; exact Nat.lt_of_le_of_lt (Nat.div_le_self _ _) this), shr_bit]
 simp [bt, h]
set_option maxHeartbeats 1000000 in
theorem more_ok (A : Option Addr) (c : Nat) (l : List UInt8) (n s : Nat) (w : World) (hb : Bs w A l) (hl : l.length ≤ 1099511627776) (hs : soundB l n = true) (h64 : s < 18446744073709551616) :
  Calls Tryz.prog 70 #[.int .u64 s, .agg #[.slice A l.length c, .int .i64 n]] w fun e w' =>
   e = .returned (.tuple #[.int .u64 (moreR s (bitl l n) : Nat), .int .u16 0]) ∧ Below w.heap.size w w' := by
 obtain ⟨m, hm, hm8, -⟩ := sound_nat hs
 obtain rfl : n = m := by omega
 obtain ⟨X, hX⟩ : ∃ X, X = moreR s (bitl l 0) := ⟨_, rfl⟩
 have eX : (s : Int) % 2305843009213693951 = (X : Int) := by
  rw [hX, show moreR s (bitl l 0) = s % 2305843009213693951 from rfl]; omega
 have HS := Lib.hid hs
 have HX := Lib.hid hX
 have HE := Lib.hid eX
 clear hs hm eX hX
 go_enter Tryz.func70, Tryz.ntmps70
 have kA := keepA
 go_wp2_with fail
 refine Calls.mono (sound_any A c l n _ hb.up (by omega) (by unfold maxLen; omega)) ?_
 rw [HS.out]
 rintro e w1 ⟨rfl, hb1⟩
 have x1 := boxN hb1
 have t1 := go1 (w := w) hb1
 replace hb := hb.go hb1
 go_wp2_with fail
 go_loopw [0, 14] (fun q i wr => ∃ k : Nat, k ≤ n ∧ i = .int .i64 k ∧ q = .int .u64 (moreR s (bitl l k) : Nat) ∧ w1 = wr) (fun _ i _ => n - (intOf i).toNat)
 case atStart => exact ⟨0, Nat.zero_le _, rfl, by rw [HE.out, HX.out], rfl⟩
 case round =>
  obtain ⟨k, hk, rfl, rfl, rfl⟩ := hrel
  by_cases hlt : k < n
  ·have hidx : k / 8 < l.length := by omega
   obtain ⟨p, o, rfl, hpl, hc⟩ := hb.at_ (show 0 < l.length by omega)
   have hck := hc _ hidx
   have hbv := bit_valR l k hidx
   have hbn := b2n_le (bt l k)
   have hml := moreR_lt s (bitl l k)
   clear hc
   have hst := bitl_step l k s
   have HST := Lib.hid hst
   clear hst
   go_wp2_with fail
   refine Calls.mono (step_of _ (1 + b2n (bt l k)) _ _ (by omega) (by omega) (by omega)) ?_
   rw [HST.out]
   rintro e w2 ⟨rfl, rfl⟩
   go_wp2
   go_roundw
   case measure => simp [intOf]; omega
   case rel => exact ⟨k + 1, by omega, by go_num, rfl, trivial⟩
  ·obtain rfl : k = n := by omega
   go_wp2
   go_ret2
   exact ⟨rfl, t1⟩
theorem more_err (A : Option Addr) (c : Nat) (l : List UInt8) (n : Int) (s : Nat) (w : World) (hb : Bs w A l) (hl : l.length ≤ 1099511627776) (hn : -9223372036854775808 ≤ n ∧ n ≤ 9223372036854775807) (hs : soundB l n = false) :
  Calls Tryz.prog 70 #[.int .u64 s, .agg #[.slice A l.length c, .int .i64 n]] w fun e w' =>
   e = .returned (.tuple #[.int .u64 0, .int .u16 11]) ∧ Below w.heap.size w w' := by
 have HS := Lib.hid hs
 clear hs
 go_enter Tryz.func70, Tryz.ntmps70
 go_wp2_with fail
 refine Calls.mono (sound_any A c l n _ hb.up hn (by unfold maxLen; omega)) ?_
 rw [HS.out]
 rintro e w1 ⟨rfl, hb1⟩
 have t1 := go1 (w := w) hb1
 go_wp2
 go_ret2
 exact ⟨rfl, t1⟩
def moreSpec (s : Nat) (l : List UInt8) (n : Int) : Nat × Nat := if soundB l n = true then (moreR s (bitl l n.toNat), 0) else (0, 11)
theorem more_any (A : Option Addr) (c : Nat) (l : List UInt8) (n : Int) (s : Nat) (w : World) (hb : Bs w A l) (hl : l.length ≤ 1099511627776) (hn : -9223372036854775808 ≤ n ∧ n ≤ 9223372036854775807) (h64 : s < 18446744073709551616) :
  Calls Tryz.prog 70 #[.int .u64 s, .agg #[.slice A l.length c, .int .i64 n]] w fun e w' =>
   e = .returned (.tuple #[.int .u64 (moreSpec s l n).1, .int .u16 (moreSpec s l n).2]) ∧ Below w.heap.size w w' := by
 unfold moreSpec
 split
 ·rename_i h
  obtain ⟨m, rfl, -, -⟩ := sound_nat h
  exact more_ok A c l m s w hb hl h h64
 ·rename_i h
  exact more_err A c l n s w hb hl hn (by simpa using h)
theorem of_any (A : Option Addr) (c : Nat) (l : List UInt8) (n : Int) (w : World) (hb : Bs w A l) (hl : l.length ≤ 1099511627776) (hn : -9223372036854775808 ≤ n ∧ n ≤ 9223372036854775807) :
  Calls Tryz.prog 53 #[.agg #[.slice A l.length c, .int .i64 n]] w fun e w' =>
   e = .returned (.tuple #[.int .u64 (moreSpec 0 l n).1, .int .u16 (moreSpec 0 l n).2]) ∧ Below w.heap.size w w' := by
 go_enter Tryz.func53, Tryz.ntmps53
 go_wp2_with fail
 refine Calls.mono (more_any A c l n 0 _ hb.up hl hn (by omega)) ?_
 rintro e w1 ⟨rfl, hb1⟩
 have t1 := go1 (w := w) hb1
 go_wp2
 go_ret2
 exact ⟨rfl, t1⟩
end Go.Proofs.YtmcdollkmlcpbaaGreatDoor
