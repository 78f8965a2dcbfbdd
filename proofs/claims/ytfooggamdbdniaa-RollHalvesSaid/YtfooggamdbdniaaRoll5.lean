/- The statements of layer 5: the walks over bits. -/
import Derived.Test.YtfooggamdbdniaaRoll4
import Derived.Test.YtfooggamdbdniaaCutE
import Derived.Deep.DeepCutAuto
import Derived.Outline
namespace Go.Proofs.Ytfooggamdbdniaa
open Go.RowKit

set_option maxHeartbeats 1000000 in
theorem rollSums_walk (A : Option Addr) (c : Nat) (l : List UInt8) (n : Int) (s : Nat) (w : World) (hb : Bs w A l) (hn : -9223372036854775808 ≤ n ∧ n ≤ 9223372036854775807) (hl : l.length ≤ maxLen) (hs : (s : Int) ≤ 18446744073709551615) :
    Calls Try.prog 4 #[.agg #[.slice A l.length c, .int .i64 n], .int .u64 s] w fun e w' => e = .returned (.bool true) ∧ Below w.heap.size w w' := by
  unfold maxLen at hl
  by_cases h : 60 < l.length
  · have hI : (60 : Int) < l.length := by omega
    go_enter Try.func4, Try.ntmps4
    go_wp2_with (go_at_call 8; refine (known5_any _).mono ?_; rintro e w1 ⟨rfl, hb1⟩)
    go_ret
    exact ⟨rfl, go1 (w := w) hb1⟩
  · have hI : ¬ (60 : Int) < l.length := by omega
    obtain ⟨G, hG⟩ : ∃ G, G = moreSpec 0 l n := ⟨_, rfl⟩
    have hc11 : G.2 ≤ 11 := by rw [hG]; exact moreSpec_code _ _ _
    have HG := Lib.hid hG
    obtain ⟨K, hK⟩ : ∃ K, K = moreSpec s l n := ⟨_, rfl⟩
    have hk11 : K.2 ≤ 11 := by rw [hK]; exact moreSpec_code _ _ _
    have HK := Lib.hid hK
    clear hG hK
    go_enter Try.func4, Try.ntmps4
    have kA := keepA
    go_wp2_with fail
    refine Calls.mono (known5_any _) ?_
    rintro e w1 ⟨rfl, hb1⟩
    have x1 := boxN hb1
    have t1 := go1 (w := w) hb1
    go_wp2_with fail
    refine Calls.mono (of_any A c l n _ (hb.below t1) (by omega) hn) ?_
    rw [← HG.out]
    rintro e w2 ⟨rfl, hb2⟩
    have x2 := box hb2 x1
    have t2 := on t1 hb2
    clear x1
    go_wp2_with fail
    refine Calls.mono (refOf5_any A c l n _ (hb.below t2) (by omega) hn) ?_
    rw [← HG.out]
    rintro e w3 ⟨rfl, hb3⟩
    have x3 := box hb3 x2
    have t3 := on t2 hb3
    clear x2
    go_wp2_with fail
    refine Calls.mono (more_any A c l n s _ (hb.below t3) (by omega) hn (by omega)) ?_
    rw [← HK.out]
    rintro e w4 ⟨rfl, hb4⟩
    have x4 := box hb4 x3
    have t4 := on t3 hb4
    clear x3
    go_wp2_with fail
    refine Calls.mono (refMore_any A c l n s _ (hb.below t4) (by omega) hn (by omega)) ?_
    rw [← HK.out]
    rintro e w5 ⟨rfl, hb5⟩
    have t5 := on t4 hb5
    go_wp2
    go_ret
    exact ⟨by simp, t5⟩

theorem ofM (A : Option Addr) (c : Nat) (M : List Bool) (w : World) (hb : Bs w A (pack M)) (hL : M.length ≤ 1073741824) :
    Calls Try.prog 13 #[.agg #[.slice A (pack M).length c, .int .i64 M.length]] w fun e w' => ∃ Z : Nat, Hid (Z = moreR 0 M) ∧ Z < 2305843009213693951 ∧ e = .returned (.tuple #[.int .u64 Z, .int .u16 0]) ∧ Below w.heap.size w w' := by
  have hp := pack_le M hL
  refine (of_any A c (pack M) M.length w hb (by omega) (by omega)).mono fun e w' ⟨he, hbel⟩ => ⟨moreR 0 M, rfl, moreR_lt _ _, ?_, hbel⟩
  rw [he]
  unfold moreSpec
  rw [if_pos (sound_pack M), Int.toNat_natCast, bits_pack]
  rfl
theorem moreM (A : Option Addr) (c : Nat) (M : List Bool) (s : Nat) (w : World) (hs : s < 18446744073709551616) (hb : Bs w A (pack M)) (hL : M.length ≤ 1073741824) :
    Calls Try.prog 15 #[.int .u64 s, .agg #[.slice A (pack M).length c, .int .i64 M.length]] w fun e w' => ∃ Z : Nat, Hid (Z = moreR s M) ∧ Z < 2305843009213693951 ∧ e = .returned (.tuple #[.int .u64 Z, .int .u16 0]) ∧ Below w.heap.size w w' := by
  have hp := pack_le M hL
  refine (more_any A c (pack M) M.length s w hb (by omega) (by omega) hs).mono fun e w' ⟨he, hbel⟩ => ⟨moreR s M, rfl, moreR_lt _ _, ?_, hbel⟩
  rw [he]
  unfold moreSpec
  rw [if_pos (sound_pack M), Int.toNat_natCast, bits_pack]
  rfl

theorem cut_num {L P Q : List Bool} {n : Nat} (hP : P = (L.drop ((0 : Int)).toNat).take ((n : Int) - 0).toNat) (hQ : Q = (L.drop ((n : Int)).toNat).take ((L.length : Int) - n).toNat) : P ++ Q = L := by
  have h1 : ((0 : Int)).toNat = 0 := rfl
  have h2 : ((n : Int) - 0).toNat = n := by omega
  have h3 : ((L.length : Int) - n).toNat = L.length - n := by omega
  have h5 : (L.drop n).take (L.length - n) = L.drop n := List.take_of_length_le (by rw [List.length_drop]; exact Nat.le_refl _)
  rw [hP, hQ, h1, h2, h3, Int.toNat_natCast, List.drop_zero, h5, List.take_append_drop]
theorem halves_one {L P Q : List Bool} {p q z j : Nat} {k : Int} (h : P ++ Q = L) (hp : p = moreR 0 P) (hq : q = moreR 0 Q) (hk : k = Q.length) (hz : z = moreR 0 L) (hj : j = joinR p q k.toNat) : j = z := by
  subst hk hp hq hz hj; subst h
  rw [Int.toNat_natCast]
  exact joinG_more _ _ (by decide) P Q
theorem halves_two {L P Q : List Bool} {p z m : Nat} (h : P ++ Q = L) (hp : p = moreR 0 P) (hz : z = moreR 0 L) (hm : m = moreR p Q) : m = z := by
  subst hp hz hm; subst h
  exact (moreG_append _ _ (by decide) 0 P Q).symm

set_option maxRecDepth 100000 in
set_option maxHeartbeats 2000000 in
theorem rollHalves_walk (A : Option Addr) (c : Nat) (l : List UInt8) (n k : Int) (w : World) (hb : Bs w A l) (hn : -9223372036854775808 ≤ n ∧ n ≤ 9223372036854775807) (hl : l.length ≤ maxLen) (hk : -9223372036854775808 ≤ k ∧ k ≤ 9223372036854775807) :
    Calls Try.prog 5 #[.agg #[.slice A l.length c, .int .i64 n], .int .i64 k] w fun e w' => e = .returned (.bool true) ∧ Below w.heap.size w w' := by
  have hl0 := hl
  unfold maxLen at hl
  by_cases h : 60 < l.length
  · have hI : (60 : Int) < l.length := by omega
    go_enter Try.func5, Try.ntmps5
    go_wp2_with (go_at_call 8; refine (known5_any _).mono ?_; rintro e w1 ⟨rfl, hb1⟩)
    go_ret
    exact ⟨rfl, go1 (w := w) hb1⟩
  · have hI : ¬ (60 : Int) < l.length := by omega
    by_cases hs : soundB l n = true
    · obtain ⟨m, rfl, hm8, -⟩ := sound_nat hs
      have hpk := pack_sound hs
      obtain ⟨L, hL⟩ : ∃ L, L = bitl l m := ⟨_, rfl⟩
      have hLm : m = L.length := by rw [hL, bitl_length]
      rw [← hL] at hpk
      clear hL hs
      subst hpk
      subst hLm
      go_enter Try.func5, Try.ntmps5
      have kA := keepA
      go_wp2_with fail
      refine Calls.mono (sound_any A c (pack L) L.length _ hb.up hn hl0) ?_
      rw [sound_pack]
      rintro e w0 ⟨rfl, hb0⟩
      have x0 := boxN hb0
      have t0 := go1 (w := w) hb0
      go_wp2_with fail
      refine Calls.mono (known5_any _) ?_
      rintro e w1 ⟨rfl, hb1⟩
      have x1 := box hb1 x0
      have t1 := on t0 hb1
      clear x0
      go_upto_region 3 with fail
      go_cut [5] (fun s wx => ∃ a : Nat, s = .int .i64 a ∧ a ≤ L.length ∧ wx = w1)
      case first =>
        by_cases hi0 : k < 0
        · go_wp2_with fail
          go_meet
          exact ⟨0, rfl, Nat.zero_le _, rfl⟩
        · have h1 := Int.emod_nonneg k (show ((L.length : Int) + 1) ≠ 0 by omega)
          have h2 := Int.emod_lt_of_pos k (show 0 < ((L.length : Int) + 1) by omega)
          obtain ⟨a, ha⟩ := Int.eq_ofNat_of_zero_le h1
          have HA := Lib.hid ha
          have ha2 : a ≤ L.length := by omega
          clear ha h1 h2
          go_wp2_with fail
          go_meet
          exact ⟨a, by rw [HA.out], ha2, rfl⟩
      case rest =>
        obtain ⟨a, rfl, ha, rfl⟩ := hcut
        replace hb := hb.below t1
        go_wp2_with fail
        refine Calls.mono (cut_E A c L _ _ _ hb.up (by omega) (by omega) (by omega) (by omega)) ?_
        rintro e w2 ⟨P, A2, c2, HP, HPl, hP1, hP2, rfl, hB2, hb2⟩
        have x2 := box hb2 x1
        have t2 := on t1 hb2
        replace hb := hb.go hb2
        clear x1
        go_wp2_with fail
        refine Calls.mono (cut_E A c L _ _ _ hb.up (by omega) (by omega) (by omega) (by omega)) ?_
        rintro e w3 ⟨Q, A3, c3, HQ, HQl, hQ1, hQ2, rfl, hB3, hb3⟩
        have x3 := box hb3 x2
        have p3 := boxN hb3
        have t3 := on t2 hb3
        replace hb := hb.go hb3
        replace hB2 := hB2.go hb3
        clear x2
        go_wp2_with fail
        refine Calls.mono (ofM A2 c2 P _ hB2.up (by omega)) ?_
        rintro e w4 ⟨p, Hp, hp, rfl, hb4⟩
        have x4 := box hb4 x3
        have q4 := boxN hb4
        have t4 := on t3 hb4
        replace hb := hb.go hb4
        replace hB3 := hB3.go hb4
        clear x3 p3
        go_wp2_with fail
        refine Calls.mono (ofM A3 c3 Q _ hB3.up (by omega)) ?_
        rintro e w5 ⟨q, Hq, hq, rfl, hb5⟩
        have x5 := box hb5 x4
        have q5 := box hb5 q4
        have t5 := on t4 hb5
        replace hb := hb.go hb5
        replace hB3 := hB3.go hb5
        clear x4 q4
        go_wp2_with fail
        refine Calls.mono (ofM A c L _ hb.up (by omega)) ?_
        rintro e w6 ⟨z, Hz, hz, rfl, hb6⟩
        have q6 := box hb6 q5
        have t6 := on t5 hb6
        replace hB3 := hB3.go hb6
        clear x5 q5
        go_wp2_with fail
        refine Calls.mono (moreM A3 c3 Q p _ (by omega) hB3.up (by omega)) ?_
        rintro e w7 ⟨m, Hm, hm, rfl, hb7⟩
        have q7 := box hb7 q6
        have t7 := on t6 hb7
        clear q6
        have hPQ : P ++ Q = L := cut_num HP.out HQ.out
        have HPQ := Lib.hid hPQ
        clear hPQ
        have f2 : ((m : Int) == z) = true := by rw [beq_iff_eq, halves_two HPQ.out Hp.out Hz.out Hm.out]
        go_wp2_with fail
        refine Calls.mono (joinX p q _ _ (by omega) (by omega) (by omega)) ?_
        rintro e w8 ⟨j, Hj, hj, rfl, rfl⟩
        have f1 : ((j : Int) == z) = true := by rw [beq_iff_eq, halves_one HPQ.out Hp.out Hq.out rfl Hz.out Hj.out]
        go_wp2
        go_ret
        exact ⟨rfl, t7⟩
    · have HS := Lib.hid (show soundB l n = false by simpa using hs)
      clear hs
      go_enter Try.func5, Try.ntmps5
      have kA := keepA
      go_wp2_with fail
      refine Calls.mono (sound_any A c l n _ hb.up hn hl0) ?_
      rw [HS.out]
      rintro e w0 ⟨rfl, hb0⟩
      have x0 := boxN hb0
      have t0 := go1 (w := w) hb0
      go_wp2_with fail
      refine Calls.mono (known5_any _) ?_
      rintro e w1 ⟨rfl, hb1⟩
      go_wp2
      go_ret
      exact ⟨rfl, on t0 hb1⟩

end Go.Proofs.Ytfooggamdbdniaa
