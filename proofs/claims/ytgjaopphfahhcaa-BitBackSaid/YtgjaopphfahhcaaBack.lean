/- The statement BitBack: the walk. -/
import Derived.Test.YtgjaopphfahhcaaLaw4
namespace Go.Proofs.Ytgjaopphfahhcaa
open Go.RowKit

theorem back_num (L M : List Bool) (v : Nat) (D : Int) (hD : 0 ≤ D) (hM : M = L ++ valB (v : Int).toNat D.toNat) : numB ((M.drop ((L.length : Int)).toNat).take D.toNat) = v % 2 ^ D.toNat := by
  rw [hM, Int.toNat_natCast, Int.toNat_natCast, List.drop_left, List.take_of_length_le (by rw [valB_length]; exact Nat.le_refl _), numB_valB]
theorem back_same (L M : List Bool) (v : Nat) (D F E : Int) (hF : 0 ≤ F) (hE : 0 ≤ E) (h : F + E ≤ L.length) (hM : M = L ++ valB (v : Int).toNat D.toNat) : numB ((M.drop F.toNat).take E.toNat) = numB ((L.drop F.toNat).take E.toNat) := by
  rw [hM, List.drop_append_of_le_length (by omega), List.take_append_of_le_length (by rw [List.length_drop]; omega)]

set_option maxHeartbeats 2000000 in
theorem bitBack_walk (A : Option Addr) (c : Nat) (l : List UInt8) (n : Int) (v b a k : Nat) (w : World) (hb : Bs w A l) (hn : -9223372036854775808 ≤ n ∧ n ≤ 9223372036854775807) (hl : l.length ≤ maxLen)
    (hv : (v : Int) ≤ 18446744073709551615) (hb8 : (b : Int) ≤ 255) (ha8 : (a : Int) ≤ 255) (hk8 : (k : Int) ≤ 255) :
    Calls Try.prog 9 #[.agg #[.slice A l.length c, .int .i64 n], .int .u64 v, .int .u8 b, .int .u8 a, .int .u8 k] w fun e w' => e = .returned (.bool true) ∧ Below w.heap.size w w' := by
  unfold maxLen at hl
  by_cases h : 1500 < l.length
  · have hI : (1500 : Int) < l.length := by omega
    go_enter Try.func9, Try.ntmps9
    go_wp2_with (go_at_call 12; refine (known_any _).mono ?_; rintro e w1 ⟨rfl, hb1⟩)
    go_ret
    exact ⟨rfl, on1 (below_alloc _ _) hb1⟩
  · have hI : ¬ (1500 : Int) < l.length := by omega
    have hb0 := hb.below (below_alloc w (.cells #[.slice A l.length c, .int .i64 n] 24))
    have hD1 : 0 ≤ (b : Int) % 65 ∧ (b : Int) % 65 ≤ 64 := by omega
    obtain ⟨K, hK⟩ : ∃ K : Nat, K = 2 ^ (b % 65) := ⟨_, rfl⟩
    have hK0 : 0 < K := by rw [hK]; exact Nat.two_pow_pos _
    have hw1 : IntKind.u64.wrap ((b : Int) % 65) = (b : Int) % 65 := wrap_big (b % 65) (by omega)
    have hw2 : (b : Int) % 65 < 64 → IntKind.u64.wrap (2 ^ ((b : Int) % 65).toNat) = (K : Int) := fun hq => by
      have e : (2 : Int) ^ ((b : Int) % 65).toNat = (K : Int) := by
        rw [show ((b : Int) % 65).toNat = b % 65 by omega, hK, Int.natCast_pow]; rfl
      rw [e, wrap_big]
      rw [hK]
      exact Nat.pow_lt_pow_right (by decide) (show b % 65 < 64 by omega)
    have hw3 : (b : Int) % 65 < 64 → IntKind.u64.wrap (2 ^ (b % 65)) = (K : Int) := fun hq => by
      have := hw2 hq; rwa [show ((b : Int) % 65).toNat = b % 65 by omega] at this
    have HK := Lib.hid hK
    clear hK
    have hKI : (1 : Int) ≤ (K : Int) := by omega
    have key : ∀ q, decide ((b : Int) % 65 < 64) = q → Calls Try.prog 9 #[.agg #[.slice A l.length c, .int .i64 n], .int .u64 v, .int .u8 b, .int .u8 a, .int .u8 k] w fun e w' => e = .returned (.bool true) ∧ Below w.heap.size w w' := by
      intro q hq
      go_enter Try.func9, Try.ntmps9
      cases q
      all_goals
        try have hw4 := hw2 (by simpa using hq)
        try have hw5 := hw3 (by simpa using hq)
        clear hw2 hw3
        have kA := keepA
        go_wp2_with fail
        refine (known_any _).mono ?_
        rintro e w1 ⟨rfl, hb1⟩
        have x1 := boxN hb1
        have t1 := on1 (below_alloc _ _) hb1
        go_wp2_with fail
        refine (some_E A c l n _ (hb0.below hb1) hn (by omega)).mono ?_
        rintro e w2 ⟨L, A2, c2, hLl, rfl, hB2, hb2⟩
        clear x1
        have t2 := on1 t1 hb2
        obtain ⟨F, hF⟩ : ∃ F : Int, F = (a : Int) % ((L.length : Int) + 1) := ⟨_, rfl⟩
        have hF1 : 0 ≤ F ∧ F ≤ L.length := by have h1 := Int.emod_nonneg a (show ((L.length : Int) + 1) ≠ 0 by omega); have h2 := Int.emod_lt_of_pos a (show 0 < ((L.length : Int) + 1) by omega); omega
        have hF2 : 0 ≤ (a : Int) % ((L.length : Int) + 1) ∧ (a : Int) % ((L.length : Int) + 1) ≤ L.length := by rw [← hF]; exact hF1
        have HF := Lib.hid hF
        clear hF
        go_wp2_with fail
        refine (put_E A2 c2 L _ _ _ (hB2.below (below_alloc _ _)) (by omega) hD1 (by omega)).mono ?_
        rintro e w3 ⟨M, A3, c3, HM, hMl, rfl, hB3, hb3⟩
        have y3 := boxN hb3
        have t3 := on2 t2 hb3
        replace hB2 := (hB2.below (below_alloc _ _)).below hb3
        have hMlen : (L.length : Int) + (b : Int) % 65 = M.length := by rw [HM.out, List.length_append, valB_length]; omega
        have HML := Lib.hid hMlen
        have hML1 : (L.length : Int) + (b : Int) % 65 ≤ M.length := by omega
        clear hMlen
        go_wp2_with fail
        refine (get_E A3 c3 M _ _ _ (hB3.below (below_alloc _ _)) (by omega) hD1 (by omega) (by omega)).mono ?_
        rintro e w4 ⟨N1, HN1, rfl, hb4⟩
        have y4 := box2 hb4 y3
        have z4 := boxN hb4
        have t4 := on2 t3 hb4
        replace hB2 := (hB2.below (below_alloc _ _)).below hb4
        replace hB3 := (hB3.below (below_alloc _ _)).below hb4
        clear y3
        have key2 : ∀ q2, decide ((k : Int) % 65 ≤ (L.length : Int) - (a : Int) % ((L.length : Int) + 1)) = q2 → True := fun _ _ => trivial
        clear key2
        by_cases hm : (k : Int) % 65 ≤ (L.length : Int) - (a : Int) % ((L.length : Int) + 1)
        all_goals
          go_wp2_with fail
          refine (get_E A2 c2 L _ _ _ hB2 (by omega) (by omega) (by omega) (by omega)).mono ?_
          rintro e w5 ⟨N2, HN2, rfl, hb5⟩
          have y5 := box1 hb5 y4
          have z5 := box1 hb5 z4
          have t5 := on1 t4 hb5
          replace hB3 := hB3.below hb5
          clear y4 z4
          go_wp2_with fail
          refine (get_E A3 c3 M _ _ _ hB3 (by omega) (by omega) (by omega) (by omega)).mono ?_
          rintro e w6 ⟨N3, HN3, rfl, hb6⟩
          have y6 := box1 hb6 y5
          have z6 := box1 hb6 z5
          have t6 := on1 t5 hb6
          replace hB3 := hB3.below hb6
          clear y5 z5
          have e1 : N1 = v % 2 ^ ((b : Int) % 65).toNat := by rw [HN1.out]; exact back_num L M v _ (by omega) HM.out
          have e2 : N3 = N2 := by rw [HN3.out, HN2.out]; exact back_same L M v _ _ _ (by omega) (by omega) (by omega) HM.out
          have f2 : ((N2 : Int) == (N3 : Int)) = true := beq_iff_eq.2 (by omega)
          have f3 : ((M.length : Int) == (L.length : Int) + (b : Int) % 65) = true := beq_iff_eq.2 (by have := HML.out; omega)
          have E1 := Lib.hid e1
          clear e1 e2
      · have hq' : ¬ (b : Int) % 65 < 64 := by simpa using hq
        have f1 : ((N1 : Int) == (v : Int)) = true := beq_iff_eq.2 (by
          have := E1.out
          rw [show ((b : Int) % 65).toNat = 64 by omega, Nat.mod_eq_of_lt (show v < 2 ^ 64 by omega)] at this
          omega)
        clear hq'
        go_wp2_with (go_at_call 17; refine (soundM A3 c3 M _ hB3 (by omega)).mono ?_; rintro e w7 ⟨rfl, hb7⟩)
        go_ret
        exact ⟨rfl, on1 t6 hb7⟩
      · have hq' : ¬ (b : Int) % 65 < 64 := by simpa using hq
        have f1 : ((N1 : Int) == (v : Int)) = true := beq_iff_eq.2 (by
          have := E1.out
          rw [show ((b : Int) % 65).toNat = 64 by omega, Nat.mod_eq_of_lt (show v < 2 ^ 64 by omega)] at this
          omega)
        clear hq'
        go_wp2_with (go_at_call 17; refine (soundM A3 c3 M _ hB3 (by omega)).mono ?_; rintro e w7 ⟨rfl, hb7⟩)
        go_ret
        exact ⟨rfl, on1 t6 hb7⟩
      · have f1 : ((N1 : Int) == (v : Int) % (K : Int)) = true := beq_iff_eq.2 (by
          have := E1.out
          rw [show ((b : Int) % 65).toNat = b % 65 by omega, ← HK.out] at this
          rw [show (v : Int) % (K : Int) = ((v % K : Nat) : Int) from rfl]
          omega)
        go_wp2_with (go_at_call 17; refine (soundM A3 c3 M _ hB3 (by omega)).mono ?_; rintro e w7 ⟨rfl, hb7⟩)
        go_ret
        exact ⟨rfl, on1 t6 hb7⟩
      · have f1 : ((N1 : Int) == (v : Int) % (K : Int)) = true := beq_iff_eq.2 (by
          have := E1.out
          rw [show ((b : Int) % 65).toNat = b % 65 by omega, ← HK.out] at this
          rw [show (v : Int) % (K : Int) = ((v % K : Nat) : Int) from rfl]
          omega)
        go_wp2_with (go_at_call 17; refine (soundM A3 c3 M _ hB3 (by omega)).mono ?_; rintro e w7 ⟨rfl, hb7⟩)
        go_ret
        exact ⟨rfl, on1 t6 hb7⟩
    exact key _ rfl

end Go.Proofs.Ytgjaopphfahhcaa
