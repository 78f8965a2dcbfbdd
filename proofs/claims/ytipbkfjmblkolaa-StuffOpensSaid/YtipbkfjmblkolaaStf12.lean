/- StuffHoles. -/
import Derived.Test.YtipbkfjmblkolaaStf11
namespace Go.Proofs.Ytipbkfjmblkolaa
open Go.RowKit

theorem wrapL_two (l : List UInt8) : 2 ≤ (wrapL l).length := by
  have := encL_ge _ l (Nat.le_refl _)
  simp [wrapL]; omega
theorem hole_take {l : List UInt8} {k : Nat} (h : k < (wrapL l).length - 1) : NoZ ((wrapL l).take k) := by
  have hn : (wrapL l).length = (encL l).length + 1 := by simp [wrapL]
  unfold wrapL
  rw [List.take_append_of_le_length (by omega)]
  exact fun x hx => encL_noZ l x (List.mem_of_mem_take hx)
theorem hole_set {l : List UInt8} {k : Nat} (h : k < (wrapL l).length - 1) : ∃ r, (wrapL l).set k 0 = (wrapL l).take k ++ 0 :: r := by
  refine ⟨(wrapL l).drop (k + 1), ?_⟩
  rw [List.set_eq_take_append_cons_drop, if_pos (by omega)]
theorem hole_open {l : List UInt8} {k : Nat} (h : k < (wrapL l).length - 1) {base : Nat} {e : Ending} {w : World} (hO : OpenP ((wrapL l).set k 0) base e w) :
    e = .returned (.tuple #[.slice none 0 0, .int .i64 0, .int .u16 90]) ∨ ∃ o A n c, e = .returned (.tuple #[.slice A n c, .int .i64 ((k : Int) + 1), .int .u16 0]) ∧ n = o.length ∧ OwnB w base (.slice A n c) o ∧ (o == l) = false := by
  rcases hO with ⟨_, h2⟩ | ⟨o, r, A, n, c, h1, h2, h3, h4⟩
  · exact .inl h2
  · obtain ⟨r', hs⟩ := hole_set h
    rw [hs] at h1
    have he := (first_zero (hole_take h) (encL_noZ o) h1).1
    have hlen : (encL o).length = k := by
      rw [← he, List.length_take]; omega
    refine .inr ⟨o, A, n, c, ?_, h3, h4, ?_⟩
    · rw [h2, hlen]; rfl
    · rw [beq_eq_false_iff_ne]
      rintro rfl
      simp [wrapL] at h
      omega

set_option maxRecDepth 100000 in
set_option maxHeartbeats 2000000 in
theorem stuffHoles_walk (A : Option Addr) (c : Nat) (l : List UInt8) (q : Int) (w : World) (hl : Bs w A l) (hc : l.length ≤ c) (hq0 : -9223372036854775808 ≤ q) (hq1 : q ≤ 9223372036854775807) :
    Calls Try.prog 12 #[.slice A l.length c, .int .i64 q] w fun e w' => e = .returned (.bool true) ∧ Below w.heap.size w w' := by
  rcases Nat.lt_or_ge 2000 l.length with h0 | h0
  · have d1 : decide ((2000 : Int) < l.length) = true := by simp; omega
    have d2 : decide (2000 < l.length) = true := by simp; omega
    go_enter Try.func12, Try.ntmps12
    go_wp2_with (go_at_call 18; refine (stuffKnown_any _).mono ?_; rintro e w1 ⟨rfl, hb1⟩)
    go_ret
    exact ⟨rfl, hb1⟩
  have d1 : decide ((2000 : Int) < l.length) = false := by simp; omega
  have d2 : decide (2000 < l.length) = false := by simp; omega
  have Hln := Lib.hid h0
  have Hc := Lib.hid hc
  obtain ⟨N, hN⟩ : ∃ N, (wrapL l).length = N := ⟨_, rfl⟩
  have hN2 : 2 ≤ N := by rw [← hN]; exact wrapL_two l
  have hNb : N ≤ 5000 := by have := wrapL_le l; omega
  have HN := Lib.hid hN
  clear h0 hc hN
  go_enter Try.func12, Try.ntmps12
  go_wp2_with fail
  refine (stuffKnown_any _).mono ?_
  rintro e w1 ⟨rfl, hb1⟩
  go_wp2_with fail
  refine (wrap_any A c l _ (hl.below hb1) Hc.out (by have := Hln.out; omega)).mono ?_
  rintro e w2 ⟨A2, n2, c2, rfl, hn2, o2, b2⟩
  have t2 := on hb1 b2
  subst hn2
  rw [HN.out] at o2 ⊢
  have j0 : (2 : Int) ≤ N := by omega
  have j1 : decide ((N : Int) < 2) = false := decide_eq_false (by omega)
  have j2 : decide (N < 2) = false := decide_eq_false (by omega)
  have j3 : (N : Int) ≤ 5000 := by omega
  go_upto_region 6 with fail
  go_cut [6] (fun s wx => ∃ k : Nat, s = .int .i64 k ∧ k < N - 1 ∧ wx = w2)
  case first =>
    have hz : ¬ ((N : Int) - 1) = 0 := by omega
    by_cases hi0 : q < 0
    · go_wp2_with fail
      go_meet
      exact ⟨0, rfl, by omega, rfl⟩
    · have h2 := Int.emod_nonneg q (show ((N : Int) - 1) ≠ 0 by omega)
      have h3 := Int.emod_lt_of_pos q (show 0 < ((N : Int) - 1) by omega)
      obtain ⟨f, hf⟩ := Int.eq_ofNat_of_zero_le h2
      have HF := Lib.hid hf
      have hf2 : f < N - 1 := by omega
      clear hf h2 h3
      go_wp2_with fail
      go_meet
      exact ⟨f, by rw [HF.out], hf2, rfl⟩
  case rest =>
    obtain ⟨k, rfl, hk, rfl⟩ := hcut
    have hkc : k ≤ c2 := by have := o2.le; have := HN.out; omega
    have hkc2 : (k : Int) ≤ c2 := by omega
    have hk2 : (k : Int) < N := by omega
    have hk3 : k < N := by omega
    have n1 : (k : Int) ≤ 5000 := by omega
    have Hk : Hid (k < (wrapL l).length - 1) := Lib.hid (by rw [HN.out]; exact hk)
    have htl : ((wrapL l).take k).length = k := by rw [List.length_take, HN.out]; omega
    have hbk := o2.bs.take k
    obtain ⟨g, cap, hv, hgb, hgl, _⟩ := o2.form (by have := HN.out; omega)
    injection hv with hv1 hv2 hv3
    clear hv2
    subst hv1
    obtain rfl : c2 = cap := hv3
    go_wp2_with fail
    have hop := open_any (some ⟨g, 0, none⟩) c2 ((wrapL l).take k) wc hbk (by rw [htl]; omega) (by rw [htl]; omega)
    rw [htl] at hop
    refine hop.mono ?_
    rintro e w3 ⟨HP, b3⟩
    have he : e = .returned (.tuple #[.slice none 0 0, .int .i64 0, .int .u16 90]) := by
      rcases HP with ⟨_, h⟩ | ⟨o, r, _, _, _, h1, _⟩
      · exact h
      · exact absurd h1 (bad_miss (hole_take Hk.out) o r)
    subst he
    clear HP hop
    have o3 := o2.below b3
    have t3 := on t2 b3
    have cc := o3.cell k (by rw [HN.out]; exact hk3)
    have fz := o3.frozen k
    have o4 := o3.set k 0
    have t4 := t3.setCell (p := ⟨g, k, none⟩) (Nat.le_trans hb1.size hgb) (bv 0)
    obtain ⟨S, hS⟩ : ∃ S, S = (wrapL l).set k 0 := ⟨_, rfl⟩
    have HS := Lib.hid hS
    have hSl : S.length = N := by rw [hS, List.length_set, HN.out]
    have HSl := Lib.hid hSl
    rw [← hS] at o4
    have hop := open_any (some ⟨g, 0, none⟩) c2 S _ o4.bs o4.le (by omega)
    rw [hSl] at hop
    have Hop := Lib.hid hop
    clear hS hSl hop o4 hbk htl hkc hkc2
    go_wp2_with fail
    refine Hop.out.mono ?_
    rintro e w5 ⟨HP, b5⟩
    rw [HS.out] at HP
    have t5 := on t4 b5
    have s2 := str_of (hl.below t5) c
    have e1 : IntKind.i64.wrap ((k : Int) + 1) = (k : Int) + 1 := by rw [IntKind.wrap_i64]; omega
    rcases hole_open Hk.out HP with rfl | ⟨o, A5, n5, c5, rfl, rfl, o5, ho⟩
    · clear HP
      go_wp2_with fail
      go_ret
      exact ⟨rfl, t5⟩
    · have s1 := str_of o5.bs c5
      clear HP
      go_wp2_with fail
      go_ret
      exact ⟨rfl, t5⟩

end Go.Proofs.Ytipbkfjmblkolaa
