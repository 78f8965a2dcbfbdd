/- Layer 14: walk of TimerLate. -/
import Derived.Test.YtgadedpcekiljaaTm10
set_option linter.unusedSimpArgs false
set_option linter.unusedVariables false
namespace Go.Proofs.Ytgadedpcekiljaa
open Go.RowKit
set_option maxRecDepth 100000

theorem late_due {x d t T : Nat} {M M' : List (Nat × Nat × Nat)} (h : One x d t M) (hk : ∀ k, lookM M' k = (lookM M k).map (dueC T d)) : One x ((d + T * 2 ^ (min (t + 1) 4)) % 18446744073709551616) (min (t + 1) 4) M' := by
  have h1 := h.due hk
  unfold dueC almD at h1
  rw [if_pos (Nat.le_refl _)] at h1
  exact h1
theorem late_not {x d t T n : Nat} {M M' : List (Nat × Nat × Nat)} (h : One x d t M) (hn : n < d) (hk : ∀ k, lookM M' k = (lookM M k).map (dueC T n)) : One x d t M' := by
  have h1 := h.due hk
  unfold dueC at h1
  rw [if_neg (by simp only; omega)] at h1
  exact h1
set_option maxHeartbeats 8000000 in
theorem late_walk (m0 m1 m2 m3 : Nat) (b0 : m0 < 65536) (b1 : m1 < 4294967296) (b2 : m2 < 4294967296) (b3 : m3 < 256) (w : World) :
    Calls Try.prog 5 #[.int .u16 (m0 : Nat), .int .u32 (m1 : Nat), .int .u32 (m2 : Nat), .int .u8 (m3 : Nat)] w fun e w' => e = .returned (.bool true) ∧ Below w.heap.size w w' := by
  obtain ⟨tt, htt⟩ : ∃ t, t = m0 % 1000 := ⟨_, rfl⟩
  have f0 : (m0 : Int) % 1000 = (tt : Int) := by omega
  have htt9 : tt ≤ 999 := by omega
  obtain ⟨T, hT⟩ : ∃ t, t = 1 + tt := ⟨_, rfl⟩
  have f1 : 1 + (tt : Int) = (T : Int) := by omega
  have hT1 : 1 ≤ T := by omega
  have hT2 : T ≤ 1000 := by omega
  obtain ⟨mm, hmm⟩ : ∃ t, t = m3 % 20 := ⟨_, rfl⟩
  have f3 : (m3 : Int) % 20 = (mm : Int) := by omega
  have hmm2 : mm ≤ 19 := by omega
  have HN := Lib.hid (tnew_any T hT1 hT2 w)
  have H0 := Lib.hid (Tm.new (Sep.nil (Below.refl w.heap.size w) (Nat.le_refl _)) T)
  obtain ⟨q, hq⟩ : ∃ q, q = w.heap.size + 1 := ⟨_, rfl⟩
  obtain ⟨W0, hW0⟩ : ∃ W, W = ((w.alloc (.map #[] 0)).alloc (.cells #[.int .u64 ((T : Nat) : Int), .map (some w.heap.size)] 48)) := ⟨_, rfl⟩
  rw [← hq, ← hW0] at H0 HN
  clear htt hT hmm hq hW0
  go_enter Try.func5, Try.ntmps5
  go_wp2_with fail
  refine HN.out.mono ?_
  rintro e w1 ⟨q1, rfl, hq1, hw1⟩
  rw [hw1, hq1]
  clear hw1 hq1 HN
  have HK := Lib.hid (tknown_any W0)
  go_wp2_with fail
  refine HK.out.mono ?_
  rintro e w2 ⟨rfl, h2⟩
  have H2 : Hid (Tm w.heap.size w w2 q T [] []) := Lib.hid (H0.out.elim fun b h => ⟨b, h.go h2⟩)
  clear h2 HK H0
  have H3 := Lib.hid (tstart_any H2.out m1 m2 b1 (by omega) hT2 (by decide))
  rw [show (lookM ([] : List (Nat × Nat × Nat)) m1) = none from rfl] at H3
  go_wp2_with fail
  refine H3.out.mono ?_
  rintro e w3 ⟨rfl, h3⟩
  have o3 : One m1 (m2 + T) 0 (putM [] m1 (almD T m2 0)) := by
    have := One.start (tk := T) (now := m2) (x := m1)
    rw [show (almD T m2 0).1 = m2 + T by unfold almD; simp only [Nat.pow_zero, Nat.mul_one]; omega] at this
    exact this
  have HL : Hid (∃ M, Tm w.heap.size w w3 q T M [] ∧ One m1 (m2 + T) 0 M ∧ M.length ≤ 1000) := Lib.hid ⟨_, h3, o3, Nat.le_trans (put_len [] m1 (almD T m2 0)) (by decide)⟩
  clear h3 o3 H2 H3
  go_wp2_with fail
  go_loopg [10, 11, 12] mm (fun gh s10 s11 s12 wr => ∃ i lo la t : Nat, s12 = .int .i64 i ∧ s10 = .int .u64 (lo : Nat) ∧ s11 = .int .u64 (la : Nat) ∧ i + gh = mm ∧ lo ≤ 16000 ∧ 1 ≤ lo ∧ la ≤ 4294967296 + i * 16000 ∧ Hid (t = min i 4 ∧ lo = T * 2 ^ t ∧ ∃ M, Tm w.heap.size w wr q T M [] ∧ One m1 (la + lo) t M ∧ M.length ≤ 1000))
  case atStart => exact ⟨0, T, m2, 0, rfl, rfl, rfl, Nat.zero_add _, by omega, hT1, by omega, Lib.hid ⟨rfl, by rw [Nat.pow_zero, Nat.mul_one], HL.out⟩⟩
  case round =>
    obtain ⟨i, lo, la, t, rfl, rfl, rfl, hig, hlo, hlo1, hla, HR⟩ := hrel
    clear HL
    by_cases hi : i < mm
    · have hil : (i : Int) < (mm : Int) := by omega
      obtain ⟨ht, hlt, M, h1, h2, h3⟩ := HR.out
      obtain ⟨d, hd⟩ : ∃ d, d = la + lo := ⟨_, rfl⟩
      rw [← hd] at h2
      have hd64 : d < 18446744073709551616 := by omega
      have ht4 : t ≤ 4 := by omega
      have HA := Lib.hid (tat_any h1 m1 b1)
      rw [h2.at.1, h2.at.2] at HA
      have g1 : IntKind.u64.wrap ((d : Int) - (la : Int)) = (lo : Int) := by rw [IntKind.wrap_u64]; omega
      obtain ⟨d1, hd1⟩ : ∃ x, x = d - 1 := ⟨_, rfl⟩
      have g2 : IntKind.u64.wrap ((d : Int) - 1) = (d1 : Int) := by rw [IntKind.wrap_u64]; omega
      have hd1l : d1 < 18446744073709551616 := by omega
      obtain ⟨lo2, hlo2⟩ : ∃ x, x = 2 * lo := ⟨_, rfl⟩
      have g3 : IntKind.u64.wrap (2 * (lo : Int)) = (lo2 : Int) := by rw [IntKind.wrap_u64]; omega
      have HD := Lib.hid (And.intro ht (And.intro hlt (And.intro h2 (And.intro h3 (And.intro hd (And.intro hd1 hlo2))))))
      clear ht hlt h1 h2 h3 hd hd1 hlo2 HR hi
      go_wp2_with fail
      refine HA.out.mono ?_
      rintro e w4 ⟨rfl, h4⟩
      have H4 := Lib.hid (tdue_any h4 d1 hd1l hT2 (by have := HD.out.2.2.2.1; omega) (HD.out.2.2.1.t4 ht4))
      clear h4 HA
      go_wp2_with fail
      refine H4.out.mono ?_
      rintro e w5 ⟨v5, l5, M5, rfl, h5, u5, k5, y5, z5⟩
      have hl5 := HD.out.2.2.1.out u5
      rw [if_neg (by have := HD.out.2.2.2.2.2.1; have := HD.out.2.2.2.2.1; omega)] at hl5
      rw [hl5] at h5
      have o5 := late_not HD.out.2.2.1 (by have := HD.out.2.2.2.2.2.1; have := HD.out.2.2.2.2.1; omega) k5
      have m5 : M5.length ≤ 1000 := by rw [keys_len y5]; exact HD.out.2.2.2.1
      obtain ⟨A5, c5, rfl, -, -⟩ := OwnR.row Try.eltU (h5.get (t := thR 24 encU 1 v5 []) (by simp) : OwnR w5 0 24 encU 1 v5 [])
      simp only [List.length_nil]
      have H5 := Lib.hid (tdue_any (h5.drop (List.nil_sublist _)) d hd64 hT2 (by omega) (o5.t4 ht4))
      have O5 := Lib.hid (And.intro o5 m5)
      clear h5 H4 u5 k5 y5 z5 hl5 o5 m5
      go_wp2_with fail
      refine H5.out.mono ?_
      rintro e w6 ⟨v6, l6, M6, rfl, h6, u6, k6, y6, z6⟩
      have hl6 := O5.out.1.out u6
      rw [if_pos (Nat.le_refl _)] at hl6
      rw [hl6] at h6
      obtain ⟨A6, c6, rfl, -, -⟩ := OwnR.row Try.eltU (h6.get (t := thR 24 encU 1 v6 [m1]) (by simp) : OwnR w6 0 24 encU 1 v6 [m1])
      simp only [List.length_singleton]
      have h9 : T * 2 ^ (min (t + 1) 4) ≤ 16000 := by
        have h8 : 2 ^ (min (t + 1) 4) ≤ 2 ^ 4 := Nat.pow_le_pow_right (by omega) (Nat.min_le_right _ _)
        calc T * 2 ^ (min (t + 1) 4) ≤ 1000 * 2 ^ 4 := Nat.mul_le_mul hT2 h8
          _ = 16000 := by decide
      have o6 : One m1 (d + T * 2 ^ (min (t + 1) 4)) (min (t + 1) 4) M6 := by
        have := late_due O5.out.1 k6
        rw [Nat.mod_eq_of_lt (by have := HD.out.2.2.2.2.1; omega)] at this
        exact this
      have m6 : M6.length ≤ 1000 := by rw [keys_len y6]; exact O5.out.2
      have H6 := Lib.hid (And.intro (h6.drop (List.nil_sublist _)) (And.intro o6 (And.intro m6 h9)))
      clear h6 H5 u6 k6 y6 z6 hl6 o6 m6 h9
      by_cases hi4 : i < 4
      · have g4 : decide ((i : Int) < 4) = true := decide_eq_true (by omega)
        have g5 : (i : Int) < 4 := by omega
        have HZ : Hid (lo2 = T * 2 ^ (min (t + 1) 4) ∧ min (t + 1) 4 = min (i + 1) 4 ∧ 1 ≤ lo2) := Lib.hid (by
          have q1 := HD.out.1
          have q2 : t = i := by omega
          refine ⟨?_, by omega, by have := HD.out.2.2.2.2.2.2; omega⟩
          rw [HD.out.2.2.2.2.2.2, HD.out.2.1, show min (t + 1) 4 = t + 1 by omega, Nat.pow_succ, Nat.mul_comm 2, Nat.mul_assoc])
        clear hi4
        go_wp2_with fail
        go_roundg (mm - (i + 1))
        case measure => omega
        case rel => exact ⟨i + 1, lo2, d, min (t + 1) 4, by go_num, rfl, rfl, by omega, by rw [HZ.out.1]; exact H6.out.2.2.2, HZ.out.2.2, by have := HD.out.2.2.2.2.1; omega, Lib.hid ⟨HZ.out.2.1, HZ.out.1, M6, H6.out.1, by rw [HZ.out.1]; exact H6.out.2.1, H6.out.2.2.1⟩⟩
      · have g4 : decide ((i : Int) < 4) = false := decide_eq_false (by omega)
        have g5 : ¬ (i : Int) < 4 := by omega
        have HZ : Hid (lo = T * 2 ^ (min (t + 1) 4) ∧ min (t + 1) 4 = min (i + 1) 4) := Lib.hid (by
          have q1 := HD.out.1
          have q2 : t = 4 := by omega
          refine ⟨?_, by omega⟩
          rw [HD.out.2.1, q2, show min (4 + 1) 4 = 4 from rfl])
        clear hi4
        go_wp2_with fail
        go_roundg (mm - (i + 1))
        case measure => omega
        case rel => exact ⟨i + 1, lo, d, min (t + 1) 4, by go_num, rfl, rfl, by omega, hlo, hlo1, by have := HD.out.2.2.2.2.1; omega, Lib.hid ⟨HZ.out.2, HZ.out.1, M6, H6.out.1, by rw [HZ.out.1]; exact H6.out.2.1, H6.out.2.2.1⟩⟩
    · have hil : ¬ (i : Int) < (mm : Int) := by omega
      have HZ : Hid (Below w.heap.size w wr) := Lib.hid (HR.out.2.2.elim fun M h => h.1.sep)
      clear hi
      go_wp2_with fail
      go_ret
      exact ⟨rfl, HZ.out⟩

end Go.Proofs.Ytgadedpcekiljaa
