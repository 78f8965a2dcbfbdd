/- The statement ZigOnly: the walk. -/
import Derived.Test.YtbogjnfjnchfhaaZig10
namespace Go.Proofs.Ytbogjnfjnchfhaa
open Go.RowKit

/-- what is got stands just so -/
theorem zget_spec_ok {l : List UInt8} {n a : Int} (h : (zgetSpec l n a).2.2 = 0) : ∃ (M : List Bool) (b N len : Nat), l = pack M ∧ n = M.length ∧ a = b ∧ b + len ≤ M.length ∧ zgetSpec l n a = (unfoldZ N, b + len, 0) ∧ N < 18446744073709551616 ∧ (M.drop b).take len = zenc N := by
  unfold zgetSpec at h ⊢
  by_cases hs : soundB l n = false
  · rw [if_pos hs] at h; cases h
  · rw [if_neg hs] at h ⊢
    by_cases ho : a < 0 ∨ n < a
    · rw [if_pos ho] at h; cases h
    · rw [if_neg ho] at h ⊢
      have hs1 : soundB l n = true := by simpa using hs
      obtain ⟨m, rfl, hm8, -⟩ := sound_nat hs1
      have hpk := pack_sound hs1
      obtain ⟨b, rfl⟩ := Int.eq_ofNat_of_zero_le (show 0 ≤ a by omega)
      rw [Int.toNat_natCast, Int.toNat_natCast] at h ⊢
      obtain ⟨N, len, e, hz⟩ : ∃ N len e, zget ((bitl l m).drop b) = (N, len, e) := ⟨_, _, _, rfl⟩
      rw [hz] at h ⊢
      have he : e = 0 := by
        unfold zres at h
        by_cases h0 : e = 0
        · exact h0
        · rw [if_neg h0] at h; exact absurd h h0
      subst he
      obtain ⟨h1, h2, h3⟩ := zget_only hz
      refine ⟨bitl l m, b, N, len, hpk, by rw [bitl_length], rfl, ?_, by unfold zres; rw [if_pos rfl], h3, h1⟩
      rw [List.length_drop, bitl_length] at h2
      rw [bitl_length]
      omega

theorem refCut_E (A : Option Addr) (c : Nat) (M : List Bool) (a b : Int) (w : World) (hb : Bs w A (pack M)) (ha : 0 ≤ a) (hab : a ≤ b) (hbm : b ≤ M.length) (hL : M.length ≤ 137438953472) :
    Calls Try.prog 15 #[.agg #[.slice A (pack M).length c, .int .i64 M.length], .int .i64 a, .int .i64 b] w fun e w' =>
      ∃ Q A' c', Hid (Q = (M.drop a.toNat).take (b - a).toNat) ∧ Hid ((Q.length : Int) = b - a) ∧ (Q.length : Int) ≤ b - a ∧ b - a ≤ Q.length ∧ e = .returned (.tuple #[.agg #[.slice A' (pack Q).length c', .int .i64 Q.length], .int .i64 0]) ∧ Bs w' A' (pack Q) ∧ Below w.heap.size w w' := by
  obtain ⟨x, rfl⟩ := Int.eq_ofNat_of_zero_le ha
  obtain ⟨y, rfl⟩ := Int.eq_ofNat_of_zero_le (show 0 ≤ b by omega)
  have h := refCut_ok A c (pack M) M.length x y w hb (by have := pack_le M hL; omega) (sound_pack M) (by omega) (by omega)
  rw [cutl_pack _ _ _ (by omega)] at h
  refine h.mono fun e w' ⟨A', c', he, ho, hbel⟩ => ?_
  have hl : ((M.drop x).take (y - x)).length = y - x := by rw [List.length_take, List.length_drop]; omega
  have e1 : ((y : Int) - x).toNat = y - x := by omega
  refine ⟨_, A', c', rfl, ?_, ?_, ?_, ?_, ?_, hbel⟩
  all_goals rw [e1, Int.toNat_natCast]
  · exact Lib.hid (by omega)
  · omega
  · omega
  · rw [← hl] at he; exact (by rw [hl] at he ⊢; exact he)
  · exact ho.bs

set_option maxRecDepth 100000 in
set_option maxHeartbeats 2000000 in
theorem zigOnly_walk (A : Option Addr) (c : Nat) (l : List UInt8) (n a v : Int) (w : World) (hb : Bs w A l) (hn : -9223372036854775808 ≤ n ∧ n ≤ 9223372036854775807) (hl : l.length ≤ maxLen)
    (ha : -9223372036854775808 ≤ a ∧ a ≤ 9223372036854775807) (hv : -9223372036854775808 ≤ v ∧ v ≤ 9223372036854775807) :
    Calls Try.prog 11 #[.agg #[.slice A l.length c, .int .i64 n], .int .i64 a, .int .i64 v] w fun e w' => e = .returned (.bool true) ∧ Below w.heap.size w w' := by
  unfold maxLen at hl
  by_cases h : 500 < l.length
  · have hI : (500 : Int) < l.length := by omega
    go_enter Try.func11, Try.ntmps11
    go_wp2_with (go_at_call 20; refine (known2_any _).mono ?_; rintro e w1 ⟨rfl, hb1⟩)
    go_ret
    exact ⟨rfl, go1 (w := w) hb1⟩
  · have hI : ¬ (500 : Int) < l.length := by omega
    obtain ⟨G, hG⟩ : ∃ G, G = zgetSpec l n a := ⟨_, rfl⟩
    have HG := Lib.hid hG
    have hc11 : G.2.2 ≤ 11 := by rw [hG]; exact zgetSpec_code l n a
    clear hG
    go_enter Try.func11, Try.ntmps11
    have kA := keepA
    go_wp2_with fail
    refine Calls.mono (known2_any _) ?_
    rintro e w1 ⟨rfl, hb1⟩
    have x1 := boxN hb1
    have t1 := go1 (w := w) hb1
    go_wp2_with fail
    refine Calls.mono (zget_any A c l n a _ (hb.below t1) hn (by omega) ha) ?_
    rw [← HG.out]
    rintro e w2 ⟨rfl, hb2⟩
    have x2 := box hb2 x1
    have t2 := on t1 hb2
    clear x1
    go_upto_if 35 with fail
    go_cut [] (fun wx => Below w.heap.size w wx)
    case first =>
      by_cases h0 : G.2.2 = 0
      · have h0' : ((G.2.2 : Int) == 0) = true := by rw [beq_iff_eq]; omega
        obtain ⟨M, b, N, len, rfl, rfl, rfl, hbl, hGe, hN, hbits⟩ := zget_spec_ok (by rw [← HG.out]; exact h0)
        rw [← HG.out] at hGe
        subst hGe
        have hubd := unfoldZ_bd N hN
        have HB := Lib.hid hbits
        have HL : Hid (M.length ≤ 8 * 500) := Lib.hid (by have := h; rw [pack_length] at this; unfold nb at this; omega)
        have hLl : M.length ≤ 4000 := HL.out
        clear h0 hbits hc11
        go_wp2_with fail
        refine Calls.mono (zputM none 0 [] (unfoldZ N) _ (Bs.nil _ _) (by simp) hubd) ?_
        rintro e w3 ⟨Y, A3, c3, HY, hY1, hY2, rfl, hO3, hb3⟩
        have x3 := box hb3 x2
        have t3 := on t2 hb3
        clear x2
        go_wp2_with fail
        refine Calls.mono (refCut_E A c M _ _ _ (hb.on t3) (by omega) (by omega) (by omega) (by omega)) ?_
        rintro e w4 ⟨Q, A4, c4, HQ, HQl, hQ1, hQ2, rfl, hB4, hb4⟩
        have y4 := boxN hb4
        have t4 := on t3 hb4
        have hB3 := hO3.bs.go hb4
        have hYQ : Hid (Y = Q) := Lib.hid (by
          rw [HY.out, HQ.out, List.nil_append, fold_unfold, ← HB.out, Int.toNat_natCast]
          congr 1
          omega)
        go_wp2_with fail
        refine Calls.mono (same_M A3 A4 c3 c4 Y Q _ hB3.up hB4.up) ?_
        rw [decide_eq_true hYQ.out]
        rintro e w5 ⟨rfl, hb5⟩
        have t5 := on t4 hb5
        go_wp2
        go_meet
        exact t5
      · have h0' : ((G.2.2 : Int) == 0) = false := by rw [beq_eq_false_iff_ne]; omega
        go_wp2
        go_meet
        exact t2
    case rest =>
      have t6 : Below w.heap.size w wc := hcut
      have hv2 : -9223372036854775808 ≤ v.tdiv 2 ∧ v.tdiv 2 ≤ 9223372036854775807 := by
        rcases Int.lt_or_le v 0 with h | h
        · rw [show v.tdiv 2 = -((-v) / 2) by rw [show v = -(-v) by omega, Int.neg_tdiv, Int.tdiv_eq_ediv_of_nonneg (by omega)]; simp]; omega
        · rw [Int.tdiv_eq_ediv_of_nonneg h]; omega
      have hmono := zenc_mono (foldZ_half v) (foldZ_lt v hv)
      have Hmono := Lib.hid hmono
      clear hmono
      go_wp2_with fail
      refine Calls.mono (zputM none 0 [] v _ (Bs.nil _ _) (by simp) hv) ?_
      rintro e w7 ⟨X, A7, c7, HX, hX1, hX2, rfl, hO7, hb7⟩
      have t7 := on t6 hb7
      go_wp2_with fail
      refine Calls.mono (zputM none 0 [] (v.tdiv 2) _ (Bs.nil _ _) (by simp) hv2) ?_
      rintro e w8 ⟨Z, A8, c8, HZ, hZ1, hZ2, rfl, hO8, hb8⟩
      have x8 := boxN hb8
      have t8 := on t7 hb8
      have hXZ : Z.length ≤ X.length := by
        have h1 := Hmono.out
        rw [HZ.out, HX.out, List.nil_append, List.nil_append]; exact h1
      simp only [List.length_nil, Nat.zero_add] at hX1 hX2
      have d69 : decide ((X.length : Int) ≤ 69) = true := decide_eq_true (by omega)
      go_wp2
      go_ret
      exact ⟨by simp, onA t8⟩

end Go.Proofs.Ytbogjnfjnchfhaa
