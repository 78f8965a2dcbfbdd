/- Contracts of the document's own functions of layer 1: Get. -/
import Derived.Test.YtfooggamdbdniaaDoorRef4
namespace Go.Proofs.YtfooggamdbdniaaDoor
open Go.RowKit

theorem numB_bound (l : List UInt8) (a t : Nat) (ht : t ≤ 64) : numB (cutl l a t) < 18446744073709551616 := by
  have h := numB_lt (cutl l a t)
  rw [cutl_length] at h
  exact Nat.lt_of_lt_of_le h (Nat.pow_le_pow_right (by decide) ht : 2 ^ t ≤ 2 ^ 64)
theorem numB_bound' (l : List UInt8) (a t : Nat) (ht : t < 64) : numB (cutl l a t) < 9223372036854775808 := by
  have h := numB_lt (cutl l a t)
  rw [cutl_length] at h
  exact Nat.lt_of_lt_of_le h (Nat.pow_le_pow_right (by decide) (show t ≤ 63 by omega) : 2 ^ t ≤ 2 ^ 63)

set_option maxHeartbeats 1000000 in
theorem refGet_ok (A : Option Addr) (c : Nat) (l : List UInt8) (n a d : Nat) (w : World) (hb : Bs w A l) (hl : l.length ≤ 1099511627776) (hs : soundB l n = true) (hd : d ≤ 64) (had : a + d ≤ n) :
    Calls Tryd.prog 40 #[.agg #[.slice A l.length c, .int .i64 n], .int .i64 a, .int .i64 d] w fun e w' => e = .returned (.tuple #[.int .u64 (numB (cutl l a d)), .int .i64 0]) ∧ Below w.heap.size w w' := by
  have hb0 := hb.below (below_alloc w (.cells #[.slice A l.length c, .int .i64 n] 29))
  obtain ⟨m, hm, hm8, -⟩ := sound_nat hs
  obtain rfl : m = n := by omega
  have HS := Lib.hid hs
  clear hs hm
  have hd0 : decide ((d : Int) < 0) = false := by simp
  have h64 : ¬ (64 : Int) < d := by omega
  have h1 : decide ((a : Int) < 0) = false := by simp
  have h2 : decide (m < a) = false := by simp; omega
  have h3 : ¬ (m : Int) - a < d := by omega
  go_enter Tryd.func40, Tryd.ntmps40
  go_wp2_with fail
  refine (refSound_any A c l m _ hb0 (by omega) hl).mono ?_
  rw [HS.out]
  rintro e w1 ⟨rfl, hb1⟩
  obtain ⟨c0, c1, hsz, _, _⟩ := kept1 hb1 (by simp)
  go_wp2_with fail
  go_loopw [9, 10] (fun v i wr => ∃ t : Nat, t ≤ d ∧ i = .int .i64 ((a + t : Nat) : Int) ∧ v = .int .u64 (numB (cutl l a t)) ∧ Below (w.heap.size + 1) (w.alloc (.cells #[.slice A l.length c, .int .i64 m] 29)) wr)
    (fun _ i _ => a + d - (intOf i).toNat)
  case atStart => exact ⟨0, Nat.zero_le _, rfl, rfl, by simpa using hb1⟩
  case round =>
    obtain ⟨t, ht, rfl, rfl, hbel⟩ := hrel
    clear c0 c1 hsz
    obtain ⟨c0, c1, hsz, _, _⟩ := kept1 hbel (by omega)
    have hBs : Bs wr A l := hb0.below (by simpa using hbel)
    have hB := numB_bound l a t (by omega)
    by_cases hlt : t < d
    · have hB' := numB_bound' l a t (by omega)
      have hltI : ((a + t : Nat) : Int) < (a : Int) + d := by omega
      have hbit := b2n_le (bt l (a + t))
      have hu := b2u_toNat (bt l (a + t))
      have hs' : numB (cutl l a (t + 1)) = 2 * numB (cutl l a t) + b2n (bt l (a + t)) := by rw [cutl_succ, numB_snoc]
      generalize numB (cutl l a t) = N at *
      have HS' := Lib.hid hs'
      clear hs'
      obtain ⟨x, hx⟩ : ∃ x : UInt8, x = b2u (bt l (a + t)) := ⟨_, rfl⟩
      rw [← hx] at hu
      have hx1 : x.toNat ≤ 1 := by omega
      have HX := Lib.hid hx
      have HU := Lib.hid hu
      clear hx hu
      go_wp2_with (go_at_call 30; refine (refBit_any A c l m (a + t) _ hBs (by omega) (by unfold maxLen; omega)).mono ?_; rw [← HX.out]; rintro e w2 ⟨rfl, hb2⟩)
      go_roundw
      case measure => simp [intOf]; omega
      case rel => exact ⟨t + 1, by omega, by go_num, by rw [HS'.out, ← HU.out]; go_num, hbel.trans (hb2.mono hsz)⟩
    · obtain rfl : t = d := by omega
      have hltI : ¬ ((a + t : Nat) : Int) < (a : Int) + t := by omega
      go_wp2
      go_ret2
      exact ⟨rfl, (below_alloc _ _).trans (hbel.mono (by omega))⟩

end Go.Proofs.YtfooggamdbdniaaDoor
