/- The statement BitHalves: the walk. -/
import Derived.Test.YtbogjnfjnchfhaaBit8
import Derived.Test.YtbogjnfjnchfhaaBit6
import Derived.Test.YtbogjnfjnchfhaaLaw4
import Derived.Deep.DeepCutAuto
import Derived.Outline
namespace Go.Proofs.Ytbogjnfjnchfhaa
open Go.RowKit

theorem cut_E (A : Option Addr) (c : Nat) (M : List Bool) (a b : Int) (w : World) (hb : Bs w A (pack M)) (ha : 0 ≤ a) (hab : a ≤ b) (hbm : b ≤ M.length) (hL : M.length ≤ 137438953472) :
    Calls Try.prog 14 #[.agg #[.slice A (pack M).length c, .int .i64 M.length], .int .i64 a, .int .i64 b] w fun e w' =>
      ∃ Q A' c', Hid (Q = (M.drop a.toNat).take (b - a).toNat) ∧ Hid ((Q.length : Int) = b - a) ∧ (Q.length : Int) ≤ b - a ∧ b - a ≤ Q.length ∧ e = .returned (.tuple #[.agg #[.slice A' (pack Q).length c', .int .i64 Q.length], .int .u16 0]) ∧ Bs w' A' (pack Q) ∧ Below w.heap.size w w' := by
  obtain ⟨x, rfl⟩ := Int.eq_ofNat_of_zero_le ha
  obtain ⟨y, rfl⟩ := Int.eq_ofNat_of_zero_le (show 0 ≤ b by omega)
  have h := cut_ok A c (pack M) M.length x y w hb (by have := pack_le M hL; omega) (sound_pack M) (by omega) (by omega)
  rw [cutl_pack _ _ _ (by omega)] at h
  refine h.mono fun e w' ⟨A', c', he, ho, hbel⟩ => ?_
  have hl : ((M.drop x).take (y - x)).length = y - x := by rw [List.length_take, List.length_drop]; omega
  have e1 : ((y : Int) - x).toNat = y - x := by omega
  refine ⟨_, A', c', rfl, ?_, ?_, ?_, ?_, ?_, hbel⟩
  all_goals rw [e1, Int.toNat_natCast]
  · exact Lib.hid (by omega)
  · omega
  · omega
  · rw [← hl] at he; exact (by rw [hl] at he ⊢; exact he)
  · exact ho.bs

theorem join_E3 (g c : Nat) (P Q R : List Bool) (w : World) (hE : BsL w (some ⟨g, 0, none⟩) [(pack P, (P.length : Int)), (pack Q, (Q.length : Int)), (pack R, (R.length : Int))]) (hP : P.length ≤ 1073741824) (hQ : Q.length ≤ 1073741824) (hR : R.length ≤ 1073741824) :
    Calls Try.prog 17 #[.slice (some ⟨g, 0, none⟩) 3 c] w fun e w' =>
      ∃ M A' c', Hid (M = P ++ (Q ++ R)) ∧ M.length ≤ P.length + (Q.length + R.length) ∧ e = .returned (.tuple #[.agg #[.slice A' (pack M).length c', .int .i64 M.length], .int .u16 0]) ∧ Bs w' A' (pack M) ∧ Below w.heap.size w w' := by
  have e : catE [(pack P, (P.length : Int)), (pack Q, (Q.length : Int)), (pack R, (R.length : Int))] = P ++ (Q ++ R) := by
    simp [catE, bits_pack]
  have h := join_ok _ c _ w hE (by simp [soundE, sound_pack]) (by simp) (fun x hx => by
    have e1 := pack_le P (Nat.le_refl _); have e2 := pack_le Q (Nat.le_refl _); have e3 := pack_le R (Nat.le_refl _)
    have n1 : nb P.length ≤ 1073741824 := by unfold nb; omega
    have n2 : nb Q.length ≤ 1073741824 := by unfold nb; omega
    have n3 : nb R.length ≤ 1073741824 := by unfold nb; omega
    simp only [List.mem_cons, List.not_mem_nil, or_false] at hx
    rcases hx with rfl | rfl | rfl <;> (simp only [pack_length]; assumption))
  rw [e] at h
  exact h.mono fun e w' ⟨A', c', he, ho, hbel⟩ => ⟨_, A', c', rfl, by simp, he, ho.bs, hbel⟩

theorem half_one {L M P Q R : List Bool} {a b : Nat} (HM : M = P ++ (Q ++ R)) (HP : P = (L.drop ((0 : Int)).toNat).take ((a : Int) - 0).toNat) (HQ : Q = (L.drop ((a : Int)).toNat).take ((b : Int) - a).toNat)
    (HR : R = (L.drop ((b : Int)).toNat).take ((L.length : Int) - b).toNat) (hab : a ≤ b) (hbL : b ≤ L.length) : M = L := by
  have h1 : ((0 : Int)).toNat = 0 := rfl
  have h2 : ((b : Int) - a).toNat = b - a := by omega
  have h3 : ((L.length : Int) - b).toNat = L.length - b := by omega
  have h4 : ((a : Int) - 0).toNat = a := by omega
  have h5 : (L.drop b).take (L.length - b) = L.drop b := List.take_of_length_le (by rw [List.length_drop]; exact Nat.le_refl _)
  rw [HM, HP, HQ, HR, h1, h2, h3, h4, Int.toNat_natCast, Int.toNat_natCast, List.drop_zero, h5]
  have h6 : L.drop b = (L.drop a).drop (b - a) := by rw [List.drop_drop]; congr 1; omega
  rw [h6, List.take_append_drop, List.take_append_drop]
theorem half_two {L Q S T : List Bool} {a b d : Nat} (HS : S = (Q.drop ((d : Int)).toNat).take ((b : Int) - a - d).toNat) (HQ : Q = (L.drop ((a : Int)).toNat).take ((b : Int) - a).toNat)
    (HT : T = (L.drop ((a : Int) + d).toNat).take ((b : Int) - ((a : Int) + d)).toNat) (hd : (d : Int) ≤ (b : Int) - a) : S = T := by
  have h2 : ((b : Int) - a).toNat = b - a := by omega
  have h3 : ((b : Int) - a - d).toNat = b - a - d := by omega
  have h4 : ((b : Int) - ((a : Int) + d)).toNat = b - a - d := by omega
  have h5 : ((a : Int) + d).toNat = a + d := by omega
  rw [HS, HQ, HT, h2, h3, h4, h5, Int.toNat_natCast, Int.toNat_natCast, List.drop_take, List.take_take, List.drop_drop, Nat.min_self]

set_option maxRecDepth 100000 in
set_option maxHeartbeats 2000000 in
theorem bitHalves_walk (A : Option Addr) (c : Nat) (l : List UInt8) (n i k j : Int) (w : World) (hb : Bs w A l) (hn : -9223372036854775808 ≤ n ∧ n ≤ 9223372036854775807) (hl : l.length ≤ maxLen)
    (hi : -9223372036854775808 ≤ i ∧ i ≤ 9223372036854775807) (hk : -9223372036854775808 ≤ k ∧ k ≤ 9223372036854775807) (hj : -9223372036854775808 ≤ j ∧ j ≤ 9223372036854775807) :
    Calls Try.prog 5 #[.agg #[.slice A l.length c, .int .i64 n], .int .i64 i, .int .i64 k, .int .i64 j] w fun e w' => e = .returned (.bool true) ∧ Below w.heap.size w w' := by
  unfold maxLen at hl
  by_cases h : 1500 < l.length
  · have hI : (1500 : Int) < l.length := by omega
    go_enter Try.func5, Try.ntmps5
    go_wp2_with (go_at_call 12; refine (known_any _).mono ?_; rintro e w1 ⟨rfl, hb1⟩)
    go_ret
    exact ⟨rfl, (below_alloc _ _).trans (hb1.mono (by simp))⟩
  · have hI : ¬ (1500 : Int) < l.length := by omega
    have hb0 := hb.below (below_alloc w (.cells #[.slice A l.length c, .int .i64 n] 24))
    go_enter Try.func5, Try.ntmps5
    have kA := keepA
    go_wp2_with fail
    refine Calls.mono (known_any _) ?_
    rintro e w1 ⟨rfl, hb1⟩
    have x1 := boxN hb1
    have t1 := go1 (w := w) hb1
    go_wp2_with fail
    refine Calls.mono (some_E A c l n _ (hb.go hb1) hn (by omega)) ?_
    rintro e w2 ⟨L, A2, c2, hLl, rfl, hB2, hb2⟩
    clear x1
    have t2 := on t1 hb2
    go_upto_region 4 with fail
    go_cut [10] (fun s wx => ∃ a : Nat, s = .int .i64 a ∧ a ≤ L.length ∧ wx = w2.alloc (.cells #[.slice A2 (pack L).length c2, .int .i64 L.length] 24))
    case first =>
      by_cases hi0 : i < 0
      · go_wp2_with fail
        go_meet
        exact ⟨0, rfl, Nat.zero_le _, rfl⟩
      · have h1 := Int.emod_nonneg i (show ((L.length : Int) + 1) ≠ 0 by omega)
        have h2 := Int.emod_lt_of_pos i (show 0 < ((L.length : Int) + 1) by omega)
        obtain ⟨a, ha⟩ := Int.eq_ofNat_of_zero_le h1
        have HA := Lib.hid ha
        have ha2 : a ≤ L.length := by omega
        clear ha h1 h2
        go_wp2_with fail
        go_meet
        exact ⟨a, by rw [HA.out], ha2, rfl⟩
    case rest =>
      obtain ⟨a, rfl, ha, rfl⟩ := hcut
      go_upto_region 5 with fail
      go_cut [11] (fun s wx => ∃ b : Nat, s = .int .i64 b ∧ a ≤ b ∧ b ≤ L.length ∧ wx = w2.alloc (.cells #[.slice A2 (pack L).length c2, .int .i64 L.length] 24))
      case first =>
        by_cases hi0 : k < 0
        · go_wp2_with fail
          go_meet
          exact ⟨a, by go_num, Nat.le_refl _, ha, rfl⟩
        · have h1 := Int.emod_nonneg k (show ((L.length : Int) - a + 1) ≠ 0 by omega)
          have h2 := Int.emod_lt_of_pos k (show 0 < ((L.length : Int) - a + 1) by omega)
          obtain ⟨b, hb⟩ := Int.eq_ofNat_of_zero_le h1
          have HB := Lib.hid hb
          have hb2 : a + b ≤ L.length := by omega
          have hb3 : 0 ≤ k % ((L.length : Int) - a + 1) := h1
          have hb4 : k % ((L.length : Int) - a + 1) ≤ L.length := by omega
          clear hb h2 h1
          go_wp2_with fail
          go_meet
          exact ⟨a + b, by rw [HB.out]; go_num, by omega, hb2, rfl⟩
      case rest =>
        obtain ⟨b, rfl, hab, hbL, rfl⟩ := hcut
        go_wp2_with fail
        refine Calls.mono (cut_E A2 c2 L _ _ _ hB2.up (by omega) (by omega) (by omega) (by omega)) ?_
        rintro e w3 ⟨P, A3, c3, HP, HPl, hP1, hP2, rfl, hB3, hb3⟩
        have y3 := boxN hb3
        have t3 := on t2 hb3
        replace hB2 := hB2.go hb3
        go_wp2_with fail
        refine Calls.mono (cut_E A2 c2 L _ _ _ hB2.up (by omega) (by omega) (by omega) (by omega)) ?_
        rintro e w4 ⟨Q, A4, c4, HQ, HQl, hQ1, hQ2, rfl, hB4, hb4⟩
        have y4 := box hb4 y3
        have p4 := boxN hb4
        have t4 := on t3 hb4
        replace hB2 := hB2.go hb4
        replace hB3 := hB3.go hb4
        clear y3
        go_wp2_with fail
        refine Calls.mono (cut_E A2 c2 L _ _ _ hB2.up (by omega) (by omega) (by omega) (by omega)) ?_
        rintro e w5 ⟨R, A5, c5, HR, HRl, hR1, hR2, rfl, hB5, hb5⟩
        have y5 := box hb5 y4
        have p5 := box hb5 p4
        have q5 := boxN hb5
        have t5 := on t4 hb5
        replace hB2 := hB2.go hb5
        replace hB3 := hB3.go hb5
        replace hB4 := hB4.go hb5
        clear y4 p4
        go_wp2_with fail
        refine Calls.mono (join_E3 _ _ P Q R _ (BsL.three (i := P.length) (j := Q.length) (q := R.length) (by simp) hB3.up hB4.up hB5.up (by omega) (by omega) (by omega)) (by omega) (by omega) (by omega)) ?_
        rintro e w6 ⟨M, A6, c6, HM, hMl, rfl, hB6, hb6⟩
        have y6 := box hb6 y5
        have q6 := box hb6 q5
        have t6 := on t5 hb6
        replace hB2 := hB2.go hb6
        replace hB4 := hB4.go hb6
        clear y5 p5 q5 hB3 hB5
        go_upto_region 10 with fail
        go_cut [20] (fun s wx => ∃ d : Nat, s = .int .i64 d ∧ (d : Int) ≤ (b : Int) - a ∧ wx = w6.alloc (.cells #[.slice A6 (pack M).length c6, .int .i64 M.length] 24))
        case first =>
          by_cases hi0 : j < 0
          · go_wp2_with fail
            go_meet
            exact ⟨0, rfl, by omega, rfl⟩
          · have h1 := Int.emod_nonneg j (show ((b : Int) - a + 1) ≠ 0 by omega)
            have h2 := Int.emod_lt_of_pos j (show 0 < ((b : Int) - a + 1) by omega)
            obtain ⟨d, hd⟩ := Int.eq_ofNat_of_zero_le h1
            have HD := Lib.hid hd
            have hd2 : (d : Int) ≤ (b : Int) - a := by omega
            clear hd h2 h1
            go_wp2_with fail
            go_meet
            exact ⟨d, by rw [HD.out], hd2, rfl⟩
        case rest =>
          obtain ⟨d, rfl, hd, rfl⟩ := hcut
          go_wp2_with fail
          refine Calls.mono (cut_E A4 c4 Q _ _ _ hB4.up (by omega) (by omega) (by omega) (by omega)) ?_
          rintro e w7 ⟨S, A7, c7, HS, HSl, hS1, hS2, rfl, hB7, hb7⟩
          have y7 := box hb7 y6
          have m7 := boxN hb7
          have t7 := on t6 hb7
          replace hB2 := hB2.go hb7
          replace hB6 := hB6.go hb7
          clear y6 q6
          go_wp2_with fail
          refine Calls.mono (cut_E A2 c2 L _ _ _ hB2.up (by omega) (by omega) (by omega) (by omega)) ?_
          rintro e w8 ⟨T, A8, c8, HT, HTl, hT1, hT2, rfl, hB8, hb8⟩
          have y8 := box hb8 y7
          have m8 := box hb8 m7
          have s8 := boxN hb8
          have t8 := on t7 hb8
          replace hB2 := hB2.go hb8
          replace hB6 := hB6.go hb8
          replace hB7 := hB7.go hb8
          clear y7 m7
          have E1 : Hid (M = L) := half_one HM.out HP.out HQ.out HR.out hab hbL
          have E2 : Hid (S = T) := half_two HS.out HQ.out HT.out (by omega)
          go_wp2_with fail
          refine Calls.mono (same_M A6 A2 c6 c2 M L _ hB6.up hB2.up) ?_
          rw [decide_eq_true E1.out]
          rintro e w9 ⟨rfl, hb9⟩
          have s9 := box hb9 s8
          have s9b := boxN hb9
          have t9 := on t8 hb9
          replace hB7 := hB7.go hb9
          replace hB8 := hB8.go hb9
          clear y8 m8 s8
          go_wp2_with fail
          refine Calls.mono (same_M A7 A8 c7 c8 S T _ hB7.up hB8.up) ?_
          rw [decide_eq_true E2.out]
          rintro e w10 ⟨rfl, hb10⟩
          have t10 := on t9 hb10
          go_wp2
          go_ret
          exact ⟨rfl, t10⟩

end Go.Proofs.Ytbogjnfjnchfhaa
