/- The statement BitPieces: the walk. -/
import Derived.Test.YtgjaopphfahhcaaLaw4
namespace Go.Proofs.Ytgjaopphfahhcaa
open Go.RowKit

set_option maxHeartbeats 2000000 in
theorem bitPieces_walk (A : Option Addr) (c : Nat) (l : List UInt8) (n : Int) (v b k : Nat) (w : World) (hb : Bs w A l) (hn : -9223372036854775808 ≤ n ∧ n ≤ 9223372036854775807) (hl : l.length ≤ maxLen)
    (hv : (v : Int) ≤ 18446744073709551615) (hb8 : (b : Int) ≤ 255) (hk8 : (k : Int) ≤ 255) :
    Calls Try.prog 11 #[.agg #[.slice A l.length c, .int .i64 n], .int .u64 v, .int .u8 b, .int .u8 k] w fun e w' => e = .returned (.bool true) ∧ Below w.heap.size w w' := by
  unfold maxLen at hl
  by_cases h : 1500 < l.length
  · have hI : (1500 : Int) < l.length := by omega
    go_enter Try.func11, Try.ntmps11
    go_wp2_with (go_at_call 12; refine (known_any _).mono ?_; rintro e w1 ⟨rfl, hb1⟩)
    go_ret
    exact ⟨rfl, (below_alloc _ _).trans (hb1.mono (by simp))⟩
  · have hI : ¬ (1500 : Int) < l.length := by omega
    have hb0 := hb.below (below_alloc w (.cells #[.slice A l.length c, .int .i64 n] 24))
    obtain ⟨D, hD⟩ : ∃ D : Int, D = (b : Int) % 65 := ⟨_, rfl⟩
    obtain ⟨E, hE⟩ : ∃ E : Int, E = (k : Int) % (D + 1) := ⟨_, rfl⟩
    have hD1 : 0 ≤ D ∧ D ≤ 64 := by omega
    have hE1 : 0 ≤ E ∧ E ≤ D := by have h1 := Int.emod_nonneg k (show D + 1 ≠ 0 by omega); have h2 := Int.emod_lt_of_pos k (show 0 < D + 1 by omega); omega
    have key : ∀ q, decide (E < 64) = q → Calls Try.prog 11 #[.agg #[.slice A l.length c, .int .i64 n], .int .u64 v, .int .u8 b, .int .u8 k] w fun e w' => e = .returned (.bool true) ∧ Below w.heap.size w w' := by
      intro q hq
      have hE2 : 0 ≤ (k : Int) % ((b : Int) % 65 + 1) ∧ (k : Int) % ((b : Int) % 65 + 1) ≤ (b : Int) % 65 := by rw [← hD, ← hE]; exact hE1
      have hE3 : 0 ≤ (k : Int) % (D + 1) ∧ (k : Int) % (D + 1) ≤ D := by rw [← hE]; exact hE1
      have HE := Lib.hid hE
      have HD := Lib.hid hD
      rw [hE, hD] at hq
      clear hE hD
      have hH : ∀ x : Nat, 0 ≤ (v : Int) / 2 ^ x ∧ (v : Int) / 2 ^ x < 18446744073709551616 := fun x => by
        have h0 : (0 : Int) < 2 ^ x := Int.pow_pos (by decide)
        exact ⟨Int.ediv_nonneg (by omega) (by omega), Int.lt_of_le_of_lt (Int.ediv_le_self _ (by omega)) (by omega)⟩
      have HH := Lib.hid hH
      clear hH
      go_enter Try.func11, Try.ntmps11
      cases q
      all_goals
        have kA := keepA
        go_wp2_with fail
        refine (known_any _).mono ?_
        rintro e w1 ⟨rfl, hb1⟩
        have x1 := boxN hb1
        have t1 := on1 (below_alloc _ _) hb1
        go_wp2_with fail
        refine (some_E A c l n _ (hb0.below hb1) hn (by omega)).mono ?_
        rintro e w2 ⟨L, A2, c2, hLl, rfl, hB2, hb2⟩
        have t2 := on1 t1 hb2
        go_wp2_with fail
        rw [← HD.out]
        refine (put_E A2 c2 L _ D _ (hB2.below (below_alloc _ _)) (by omega) hD1 (by omega)).mono ?_
        rintro e w3 ⟨M1, A3, c3, HM1, hM1l, rfl, hB3, hb3⟩
        have y3 := boxN hb3
        have t3 := on2 t2 hb3
        replace hB2 := (hB2.below (below_alloc _ _)).below hb3
        go_wp2_with fail
        rw [← HE.out]
        refine (put_E A2 c2 L _ (D - E) _ (hB2.below (below_alloc _ _)) ?_ (by omega) (by omega)).mono ?_
        · first | exact HH.out _ | omega
        rintro e w4 ⟨M2, A4, c4, HM2, hM2l, rfl, hB4, hb4⟩
        have a4 := boxN hb4
        have t4 := on2 t3 hb4
        replace hB3 := (hB3.below (below_alloc _ _)).below hb4
        clear x1 y3
        go_wp2_with fail
        refine (put_E A4 c4 M2 _ E _ (hB4.below (below_alloc _ _)) (by omega) (by omega) (by omega)).mono ?_
        rintro e w5 ⟨M3, A5, c5, HM3, hM3l, rfl, hB5, hb5⟩
        have a5 := box2 hb5 a4
        have t5 := on2 t4 hb5
        replace hB3 := (hB3.below (below_alloc _ _)).below hb5
        clear a4
        go_wp2_with fail
        refine (same_M A3 A5 c3 c5 M1 M3 _ (hB3.below (below_alloc _ _)) (hB5.below (below_alloc _ _))).mono ?_
        rintro e w6 ⟨rfl, hb6⟩
        have t6 := on2 t5 hb6
        go_wp2
        go_ret
        refine ⟨ret_bool ?_, t6⟩
      · rw [← HD.out, ← HE.out] at hq
        have hq' : ¬ E < 64 := by simpa using hq
        obtain rfl : E = D := by omega
        rw [decide_eq_true_eq, HM1.out, HM3.out, HM2.out, show (E - E).toNat = 0 by omega, valB_zero, List.append_nil]
      · have hx : E.toNat = k % (b % 65 + 1) := by
          rw [HE.out, HD.out, show (k : Int) % ((b : Int) % 65 + 1) = ((k % (b % 65 + 1) : Nat) : Int) from rfl, Int.toNat_natCast]
        rw [decide_eq_true_eq, HM1.out, HM3.out, HM2.out, ← hx, nat_shr, Int.toNat_natCast, Int.toNat_natCast, List.append_assoc, valB_split v D.toNat E.toNat (by omega), show (D - E).toNat = D.toNat - E.toNat by omega]
    exact key _ rfl

end Go.Proofs.Ytgjaopphfahhcaa
