/- The statement BitApart: the walk. -/
import Derived.Test.YtgjaopphfahhcaaLaw4
namespace Go.Proofs.Ytgjaopphfahhcaa
open Go.RowKit

set_option maxHeartbeats 2000000 in
theorem bitApart_walk (A A' : Option Addr) (c c' : Nat) (l l' : List UInt8) (n n' : Int) (v u b : Nat) (w : World) (hb : Bs w A l) (hn : -9223372036854775808 ≤ n ∧ n ≤ 9223372036854775807) (hl : l.length ≤ maxLen)
    (hb' : Bs w A' l') (hn' : -9223372036854775808 ≤ n' ∧ n' ≤ 9223372036854775807) (hl' : l'.length ≤ maxLen) (hv : (v : Int) ≤ 18446744073709551615) (hu : (u : Int) ≤ 18446744073709551615) (hb8 : (b : Int) ≤ 255) :
    Calls Try.prog 3 #[.agg #[.slice A l.length c, .int .i64 n], .agg #[.slice A' l'.length c', .int .i64 n'], .int .u64 v, .int .u64 u, .int .u8 b] w fun e w' => e = .returned (.bool true) ∧ Below w.heap.size w w' := by
  unfold maxLen at hl hl'
  by_cases h : 1500 < l.length ∨ 1500 < l'.length
  · by_cases h1 : 1500 < l.length
    · have hI : (1500 : Int) < l.length := by omega
      clear h h1
      go_enter Try.func3, Try.ntmps3
      go_wp2_with (go_at_call 12; refine (known_any _).mono ?_; rintro e w1 ⟨rfl, hb1⟩)
      go_ret
      exact ⟨rfl, on1 (below_alloc2 _ _ _) hb1⟩
    · have hI : ¬ (1500 : Int) < l.length := by omega
      have hI' : (1500 : Int) < l'.length := by omega
      clear h h1
      go_enter Try.func3, Try.ntmps3
      go_wp2_with (go_at_call 12; refine (known_any _).mono ?_; rintro e w1 ⟨rfl, hb1⟩)
      go_ret
      exact ⟨rfl, on1 (below_alloc2 _ _ _) hb1⟩
  · have hI : ¬ (1500 : Int) < l.length := by omega
    have hI' : ¬ (1500 : Int) < l'.length := by omega
    have hD1 : 0 ≤ (b : Int) % 65 ∧ (b : Int) % 65 ≤ 64 := by omega
    have hb0 := hb.below (below_alloc2 w (.cells #[.slice A l.length c, .int .i64 n] 24) (.cells #[.slice A' l'.length c', .int .i64 n'] 24))
    have hb0' := hb'.below (below_alloc2 w (.cells #[.slice A l.length c, .int .i64 n] 24) (.cells #[.slice A' l'.length c', .int .i64 n'] 24))
    have key : ∀ q, decide ((b : Int) % 65 < 64) = q → Calls Try.prog 3 #[.agg #[.slice A l.length c, .int .i64 n], .agg #[.slice A' l'.length c', .int .i64 n'], .int .u64 v, .int .u64 u, .int .u8 b] w fun e w' => e = .returned (.bool true) ∧ Below w.heap.size w w' := by
      intro q hq
      go_enter Try.func3, Try.ntmps3
      cases q
      all_goals
        have kA := keepA
        go_wp2_with fail
        refine (known_any _).mono ?_
        rintro e w1 ⟨rfl, hb1⟩
        obtain ⟨x0, x1, y0, y1, -, -, -⟩ := kept2 hb1 (by simp)
        have t1 := on1 (below_alloc2 _ _ _) hb1
        go_wp2_with fail
        refine (some_E A c l n _ (hb0.below hb1) hn (by omega)).mono ?_
        rintro e w2 ⟨L, A2, c2, hLl, rfl, hB2, hb2⟩
        have y2 := box1 hb2 ⟨y0, y1⟩
        clear x0 x1 y0 y1
        have t2 := on1 t1 hb2
        go_wp2_with fail
        refine (some_E A' c' l' n' _ (((hb0'.below hb1).below hb2).below (below_alloc _ _)) hn' (by omega)).mono ?_
        rintro e w3 ⟨L', A3, c3, hLl', rfl, hB3, hb3⟩
        have a3 := boxN hb3
        have t3 := on2 t2 hb3
        replace hB2 := (hB2.below (below_alloc _ _)).below hb3
        clear y2
        go_wp2_with fail
        refine (put_E A2 c2 L _ _ _ (hB2.below (below_alloc _ _)) (by omega) hD1 (by omega)).mono ?_
        rintro e w4 ⟨P, A4, c4, HP, hPl, rfl, hB4, hb4⟩
        have a4 := box2 hb4 a3
        have b4 := boxN hb4
        have t4 := on2 t3 hb4
        replace hB2 := (hB2.below (below_alloc _ _)).below hb4
        replace hB3 := (hB3.below (below_alloc _ _)).below hb4
        clear a3
        go_wp2_with fail
        refine (put_E A3 c3 L' _ _ _ (hB3.below (below_alloc _ _)) (by omega) hD1 (by omega)).mono ?_
        rintro e w5 ⟨Q, A5, c5, HQ, hQl, rfl, hB5, hb5⟩
        have a5 := box2 hb5 a4
        have b5 := box2 hb5 b4
        have p5 := boxN hb5
        have t5 := on2 t4 hb5
        replace hB2 := (hB2.below (below_alloc _ _)).below hb5
        replace hB3 := (hB3.below (below_alloc _ _)).below hb5
        replace hB4 := (hB4.below (below_alloc _ _)).below hb5
        clear a4 b4
        go_wp2_with fail
        refine (put_E A2 c2 L _ _ _ (hB2.below (below_alloc _ _)) (by omega) hD1 (by omega)).mono ?_
        rintro e w6 ⟨R, A6, c6, HR, hRl, rfl, hB6, hb6⟩
        have a6 := box2 hb6 a5
        have b6 := box2 hb6 b5
        have p6 := box2 hb6 p5
        have q6 := boxN hb6
        have t6 := on2 t5 hb6
        replace hB2 := (hB2.below (below_alloc _ _)).below hb6
        replace hB3 := (hB3.below (below_alloc _ _)).below hb6
        replace hB4 := (hB4.below (below_alloc _ _)).below hb6
        replace hB5 := (hB5.below (below_alloc _ _)).below hb6
        clear a5 b5 p5
        have z6 : (w6.alloc (.cells #[.slice A6 (pack R).length c6, .int .i64 R.length] 24)).cell? ⟨w6.heap.size, 0, none⟩ = some (.slice A6 (pack R).length c6) := box_cell _ _ _ _ _ rfl
        have z7 : (w6.alloc (.cells #[.slice A6 (pack R).length c6, .int .i64 R.length] 24)).cell? ⟨w6.heap.size, 1, none⟩ = some (.int .i64 R.length) := box_cell _ _ _ _ _ rfl
        have a7 := boxA (.cells #[.slice A6 (pack R).length c6, .int .i64 R.length] 24) a6
        have b7 := boxA (.cells #[.slice A6 (pack R).length c6, .int .i64 R.length] 24) b6
        have p7 := boxA (.cells #[.slice A6 (pack R).length c6, .int .i64 R.length] 24) p6
        have q7 := boxA (.cells #[.slice A6 (pack R).length c6, .int .i64 R.length] 24) q6
        have hp := plus_cell (w6.alloc (.cells #[.slice A6 (pack R).length c6, .int .i64 R.length] 24))
        have hE : (decide (P = Q) == decide (L = L')) = true := by rw [HP.out, HQ.out]; simp
        clear a6 b6 p6 q6
        replace hB2 := hB2.below (below_alloc w6 (.cells #[.slice A6 (pack R).length c6, .int .i64 R.length] 24))
        replace hB3 := hB3.below (below_alloc w6 (.cells #[.slice A6 (pack R).length c6, .int .i64 R.length] 24))
        replace hB4 := hB4.below (below_alloc w6 (.cells #[.slice A6 (pack R).length c6, .int .i64 R.length] 24))
        replace hB5 := hB5.below (below_alloc w6 (.cells #[.slice A6 (pack R).length c6, .int .i64 R.length] 24))
        replace hB6 := hB6.below (below_alloc w6 (.cells #[.slice A6 (pack R).length c6, .int .i64 R.length] 24))
        go_wp2_with fail
      · clear kA
        refine wp_region_ext (by kernel_rfl) (by kernel_rfl) ?_
        repeat (go_big_quiet_step ((go_at_call 15; first
          | with_reducible exact ext_of (same_M A4 A5 c4 c5 P Q _ (hB4.below (plus_below _ _)) (hB5.below (plus_below _ _)))
          | with_reducible exact ext_of (same_M A2 A3 c2 c3 L L' _ (hB2.below (plus_below _ _)) (hB3.below (plus_below _ _)))
          | with_reducible exact ext_of (same_M A4 A6 c4 c6 P R _ (hB4.below (plus_below _ _)) (hB6.below (plus_below _ _))))))
        refine wpQuiet_nil ?_
        rintro w7 ⟨x, rfl⟩
        go_wp2
        go_ret
        refine ⟨ret_bool ?_, on1 (on1 t6 (below_alloc w6 _)) (plus_below _ _)⟩
        have hq' : ¬ (b : Int) % 65 < 64 := by simpa using hq
        have e64 : (b : Int) % 65 = 64 := by omega
        rw [HP.out, HR.out, e64]
        simp only [Int.toNat_natCast]
        have e1 := valB_eq_iff v u 64
        rw [Nat.mod_eq_of_lt (show v < 2 ^ 64 by omega), Nat.mod_eq_of_lt (show u < 2 ^ 64 by omega)] at e1
        have e2 : (decide (L ++ valB v (Int.toNat 64) = L ++ valB u (Int.toNat 64))) = decide (v = u) := by
          rw [Bool.eq_iff_iff, decide_eq_true_eq, decide_eq_true_eq, List.append_cancel_left_eq]
          exact e1
        have e3 : ((v : Int) == (u : Int)) = decide (v = u) := by
          rw [Bool.eq_iff_iff, beq_iff_eq, decide_eq_true_eq]; omega
        rw [e2, e3]; simp
      · clear kA
        have hq' : (b : Int) % 65 < 64 := by simpa using hq
        obtain ⟨K, hK⟩ : ∃ K : Nat, K = 2 ^ (b % 65) := ⟨_, rfl⟩
        have hK0 : 0 < K := by rw [hK]; exact Nat.two_pow_pos _
        have hw1 : IntKind.u64.wrap ((b : Int) % 65) = (b : Int) % 65 := wrap_big (b % 65) (by omega)
        have hw2 : IntKind.u64.wrap (2 ^ ((b : Int) % 65).toNat) = (K : Int) := by
          have e : (2 : Int) ^ ((b : Int) % 65).toNat = (K : Int) := by
            rw [show ((b : Int) % 65).toNat = b % 65 by omega, hK, Int.natCast_pow]; rfl
          rw [e, wrap_big]
          rw [hK]
          exact Nat.pow_lt_pow_right (by decide) (show b % 65 < 64 by omega)
        have HK := Lib.hid hK
        clear hK
        have hKI : (1 : Int) ≤ (K : Int) := by omega
        go_quiet (fail)
        clear hp hw1 hw2
        have hE2 : Bs (World.drewN (w6.alloc (.cells #[.slice A6 (pack R).length c6, .int .i64 R.length] 24)) nq) A2 (pack L) := hB2
        have hE3 : Bs (World.drewN (w6.alloc (.cells #[.slice A6 (pack R).length c6, .int .i64 R.length] 24)) nq) A3 (pack L') := hB3
        have hE4 : Bs (World.drewN (w6.alloc (.cells #[.slice A6 (pack R).length c6, .int .i64 R.length] 24)) nq) A4 (pack P) := hB4
        have hE5 : Bs (World.drewN (w6.alloc (.cells #[.slice A6 (pack R).length c6, .int .i64 R.length] 24)) nq) A5 (pack Q) := hB5
        have hE6 : Bs (World.drewN (w6.alloc (.cells #[.slice A6 (pack R).length c6, .int .i64 R.length] 24)) nq) A6 (pack R) := hB6
        have hp := plus_cell ((w6.alloc (.cells #[.slice A6 (pack R).length c6, .int .i64 R.length] 24)).drewN nq)
        have hbel := below_drewN (on1 t6 (below_alloc w6 (.cells #[.slice A6 (pack R).length c6, .int .i64 R.length] 24))) nq
        go_wp2_with fail
        refine wp_region_ext (by kernel_rfl) (by kernel_rfl) ?_
        repeat (go_big_quiet_step ((go_at_call 15; first
          | with_reducible exact ext_of (same_M A4 A5 c4 c5 P Q _ (hE4.below (plus_below _ _)) (hE5.below (plus_below _ _)))
          | with_reducible exact ext_of (same_M A2 A3 c2 c3 L L' _ (hE2.below (plus_below _ _)) (hE3.below (plus_below _ _)))
          | with_reducible exact ext_of (same_M A4 A6 c4 c6 P R _ (hE4.below (plus_below _ _)) (hE6.below (plus_below _ _))))))
        refine wpQuiet_nil ?_
        rintro w7 ⟨x, rfl⟩
        go_wp2
        go_ret
        refine ⟨ret_bool ?_, on1 hbel (plus_below _ _)⟩
        have e0 : ((b : Int) % 65).toNat = b % 65 := by omega
        rw [HP.out, HR.out, e0]
        simp only [Int.toNat_natCast]
        have e1 := valB_eq_iff v u (b % 65)
        rw [← HK.out] at e1
        have e2 : (decide (L ++ valB v (b % 65) = L ++ valB u (b % 65))) = decide (v % K = u % K) := by
          rw [Bool.eq_iff_iff, decide_eq_true_eq, decide_eq_true_eq, List.append_cancel_left_eq]
          exact e1
        have e3 : ((v : Int) % (K : Int) == (u : Int) % (K : Int)) = decide (v % K = u % K) := by
          rw [Bool.eq_iff_iff, beq_iff_eq, decide_eq_true_eq, show (v : Int) % (K : Int) = ((v % K : Nat) : Int) from rfl, show (u : Int) % (K : Int) = ((u % K : Nat) : Int) from rfl]
          omega
        rw [e2, e3]; simp
    exact key _ rfl

end Go.Proofs.Ytgjaopphfahhcaa
