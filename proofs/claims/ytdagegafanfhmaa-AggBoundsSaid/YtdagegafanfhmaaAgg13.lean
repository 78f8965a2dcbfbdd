/- AggBounds. -/
import Derived.Test.YtdagegafanfhmaaAgg8
import Derived.Test.YtdagegafanfhmaaAgg11
namespace Go.Proofs.Ytdagegafanfhmaa
open Go.RowKit

theorem mnL_mem_le (S : List (Int × Nat)) : ∀ s ∈ S, mnL S ≤ s.2 := by
  induction S with
  | nil => intro s h; cases h
  | cons a S ih =>
    intro s h
    rcases List.mem_cons.1 h with rfl | h
    · simp only [mnL]; omega
    · have := ih s h; simp only [mnL]; omega
theorem mxL_mem_ge (S : List (Int × Nat)) : ∀ s ∈ S, s.2 ≤ mxL S := by
  induction S with
  | nil => intro s h; cases h
  | cons a S ih =>
    intro s h
    rcases List.mem_cons.1 h with rfl | h
    · simp only [mxL]; omega
    · have := ih s h; simp only [mxL]; omega
theorem mnL_mem (S : List (Int × Nat)) (hne : S ≠ []) (hv : ∀ s ∈ S, s.2 < 18446744073709551616) : ∃ s ∈ S, s.2 = mnL S := by
  induction S with
  | nil => exact absurd rfl hne
  | cons a S ih =>
    have ha := hv a List.mem_cons_self
    by_cases hS : S = []
    · subst hS
      exact ⟨a, List.mem_cons_self, by simp only [mnL]; omega⟩
    · obtain ⟨s, hs, e⟩ := ih hS fun s h => hv s (List.mem_cons_of_mem _ h)
      rcases Nat.le_total a.2 (mnL S) with h | h
      · exact ⟨a, List.mem_cons_self, by simp only [mnL]; omega⟩
      · exact ⟨s, List.mem_cons_of_mem _ hs, by simp only [mnL]; omega⟩
theorem mxL_mem (S : List (Int × Nat)) (hne : S ≠ []) : ∃ s ∈ S, s.2 = mxL S := by
  induction S with
  | nil => exact absurd rfl hne
  | cons a S ih =>
    by_cases hS : S = []
    · subst hS
      exact ⟨a, List.mem_cons_self, by simp only [mxL]; omega⟩
    · obtain ⟨s, hs, e⟩ := ih hS
      rcases Nat.le_total (mxL S) a.2 with h | h
      · exact ⟨a, List.mem_cons_self, by simp only [mxL]; omega⟩
      · exact ⟨s, List.mem_cons_of_mem _ hs, by simp only [mxL]; omega⟩
theorem sumL_ge (S : List (Int × Nat)) (m : Nat) (h : ∀ s ∈ S, m ≤ s.2) : m * S.length ≤ sumL S := by
  induction S with
  | nil => simp [sumL]
  | cons a S ih =>
    have h1 := ih fun s hs => h s (List.mem_cons_of_mem _ hs)
    have h2 := h a List.mem_cons_self
    rw [List.length_cons, Nat.mul_succ]
    simp only [sumL]; omega
theorem sumL_le (S : List (Int × Nat)) (m : Nat) (h : ∀ s ∈ S, s.2 ≤ m) : sumL S ≤ m * S.length := by
  induction S with
  | nil => simp [sumL]
  | cons a S ih =>
    have h1 := ih fun s hs => h s (List.mem_cons_of_mem _ hs)
    have h2 := h a List.mem_cons_self
    rw [List.length_cons, Nat.mul_succ]
    simp only [sumL]; omega
theorem sumL_snoc (S : List (Int × Nat)) (k : Nat) (h : k < S.length) : sumL (S.take (k + 1)) = sumL (S.take k) + S[k].2 := by
  rw [List.take_succ_eq_append_getElem h, sumL_append]; simp [sumL]
def anyL (m : Nat) (S : List (Int × Nat)) : Bool := S.any fun s => s.2 == m
theorem anyL_snoc (m : Nat) (S : List (Int × Nat)) (k : Nat) (h : k < S.length) : anyL m (S.take (k + 1)) = (anyL m (S.take k) || (S[k].2 == m)) := by
  unfold anyL
  rw [List.take_succ_eq_append_getElem h, List.any_append]; simp
theorem anyL_mem (m : Nat) (S : List (Int × Nat)) (h : ∃ s ∈ S, s.2 = m) : anyL m S = true := by
  obtain ⟨s, hs, e⟩ := h
  unfold anyL
  rw [List.any_eq_true]
  exact ⟨s, hs, by simp [e]⟩

/-- what is told of a list that is not empty -/
theorem aggC_told (S : List (Int × Nat)) (hne : 0 < S.length) (hl : S.length ≤ 60) (hs : okS S) :
    (aggC S).n = S.length ∧ (aggC S).ft = S[0].1 ∧ (aggC S).fv = S[0].2 ∧ (aggC S).lt = S[S.length - 1].1 ∧ (aggC S).lv = S[S.length - 1].2 ∧ (aggC S).mn = mnL S ∧ (aggC S).mx = mxL S ∧
    (aggC S).hi = sumL S / 18446744073709551616 ∧ (aggC S).lo = sumL S % 18446744073709551616 ∧ (aggC S).hi < S.length ∧
    ∃ q, meanOf (aggC S) = (q, true) ∧ mnL S ≤ q ∧ q ≤ mxL S := by
  cases S with
  | nil => simp at hne
  | cons a S =>
    have hb : ∀ s ∈ a :: S, s.2 ≤ 18446744073709551615 := fun s h => by have := (hs s h).2; omega
    have h1 := sumL_le (a :: S) 18446744073709551615 hb
    have h2 := sumL_ge (a :: S) _ (mnL_mem_le (a :: S))
    have h3 := sumL_le (a :: S) _ (mxL_mem_ge (a :: S))
    have hlen : (a :: S).length = S.length + 1 := List.length_cons
    have hn : (aggC (a :: S)).n = S.length + 1 := by simp only [aggC]; omega
    have hlast : (a :: S).getLast (List.cons_ne_nil _ _) = (a :: S)[(a :: S).length - 1] := List.getLast_eq_getElem _
    have hhi : (aggC (a :: S)).hi = sumL (a :: S) / 18446744073709551616 := by
      simp only [aggC]
      generalize sumL (a :: S) = t at *
      omega
    have hlo : (aggC (a :: S)).lo = sumL (a :: S) % 18446744073709551616 := rfl
    have hhl : sumL (a :: S) / 18446744073709551616 < S.length + 1 := by
      rw [Nat.div_lt_iff_lt_mul (by decide)]
      omega
    refine ⟨by rw [hn, hlen], rfl, rfl, ?_, ?_, rfl, rfl, hhi, hlo, by rw [hhi, hlen]; exact hhl, sumL (a :: S) / (S.length + 1), ?_, ?_, ?_⟩
    · show ((a :: S).getLast _).1 = _; rw [hlast]
    · show ((a :: S).getLast _).2 = _; rw [hlast]
    · unfold meanOf
      rw [hn, hhi, hlo, if_neg (by omega)]
      congr 2
      omega
    · rw [Nat.le_div_iff_mul_le (by omega)]; rw [hlen] at h2; exact h2
    · rw [hlen] at h3
      have : sumL (a :: S) / (S.length + 1) < mxL (a :: S) + 1 := by
        rw [Nat.div_lt_iff_lt_mul (by omega), Nat.succ_mul]; omega
      omega

set_option maxRecDepth 100000 in
set_option maxHeartbeats 2000000 in
theorem aggBounds_walk (V : Option Addr) (c : Nat) (l : List (Int × Nat)) (w : World) (hV : Ss w V l) (hs : okS l) :
    Calls Try.prog 14 #[.slice V l.length c] w fun e w' => e = .returned (.bool true) ∧ Below w.heap.size w w' := by
  have HS := Lib.hid hs
  clear hs
  have kA := keepA
  rcases Nat.lt_or_ge 60 l.length with hbig | hl
  · have hd : decide ((l.length : Int) > 60) = true := by simp; omega
    have hd2 : decide ((60 : Int) < l.length) = true := by simp; omega
    have hd3 : decide (60 < l.length) = true := by simp; omega
    go_enter Try.func14, Try.ntmps14
    go_wp2_with (go_at_call 31; refine (known_any _).mono ?_; rintro e w1 ⟨rfl, hb1⟩)
    exact bodyPost_ret (v := .bool true) (by simp [results, Try.results14, go_sem]) rfl ⟨rfl, hb1⟩
  · have hd : decide ((l.length : Int) > 60) = false := by simp; omega
    have hd2 : decide ((60 : Int) < l.length) = false := by simp; omega
    have hd3 : decide (60 < l.length) = false := by simp; omega
    go_enter Try.func14, Try.ntmps14
    go_wp2_with fail
    refine (known_any _).mono ?_
    rintro e w1 ⟨rfl, hb1⟩
    have V1 := hV.below hb1
    go_wp2_with fail
    refine (rising_any V c l _ V1 HS.out (by omega)).mono ?_
    rintro e w2 ⟨A2, c2, rfl, S2, hc2, hb2⟩
    have t2 := on hb1 hb2
    have hrl := risL_len l l.length (Nat.le_refl _)
    rw [List.take_length] at hrl
    have hI := (risL_I l).1
    have hok := HS.out.ris
    obtain ⟨S, hS⟩ : ∃ S, S = risL l := ⟨_, rfl⟩
    rw [← hS] at S2 hc2 hrl hI hok ⊢
    have HI := Lib.hid hI
    have Hok := Lib.hid hok
    have R := of_C S hI hok (by omega)
    have ok := aggOf_ok S hok
    rw [R] at ok
    have HR := Lib.hid R
    have Hk := Lib.hid ok
    clear hS hI hok V1 hV hb1 hb2 R ok
    rcases Nat.eq_zero_or_pos S.length with h0 | h0
    · have hS0 : S = [] := List.eq_nil_of_length_eq_zero h0
      have hz : ((S.length : Int) == 0) = true := by simp; omega
      have hz2 : (S.length == 0) = true := by simp; omega
      have R0 : aggOf S = (⟨0, 0, 0, 0, 0, 0, 0, 0, 0⟩, 0) := by rw [hS0]; rfl
      have HR0 := Lib.hid R0
      clear R0 hS0 h0
      go_wp2_with fail
      refine (aggof_R A2 c2 S 0 0 0 0 0 0 0 0 0 0 HR0.out _ S2 Hok.out (by omega)).mono ?_
      rintro e w3 ⟨rfl, hb3⟩
      have t3 := on t2 hb3
      go_wp2_with fail
      refine (mean_any 0 0 0 0 0 0 0 0 0 _ (by decide) (by decide) (by decide)).mono ?_
      rintro e w4 ⟨m1, m2, HM1, rfl, hb4⟩
      have hm := HM1.out
      have hm0 : meanOf ⟨0, 0, 0, 0, 0, 0, 0, 0, 0⟩ = (0, false) := by rfl
      rw [hm0] at hm
      obtain ⟨rfl, rfl⟩ : m1 = 0 ∧ m2 = false := by simpa [eq_comm] using hm
      have A4 := ((Blk.new w3 50 #[Value.int IntKind.u64 0, Value.int IntKind.i64 0, Value.int IntKind.u64 0, Value.int IntKind.i64 0, Value.int IntKind.u64 0, Value.int IntKind.u64 0, Value.int IntKind.u64 0, Value.int IntKind.u64 0, Value.int IntKind.u64 0]).go hb4).nine
      have t4 := on t3 hb4
      clear hm hm0 HM1 t3 hb4 hb3 t2
      go_wp2_with fail
      exact bodyPost_ret (v := .bool true) (by simp [results, Try.results14, go_sem]) rfl ⟨rfl, t4⟩
    · have hz : ((S.length : Int) == 0) = false := by rw [beq_eq_false_iff_ne]; omega
      have hz2 : (S.length == 0) = false := by rw [beq_eq_false_iff_ne]; omega
      have hT := aggC_told S h0 (by omega) Hok.out
      have hmn := mnL_mem_le S
      have hmx := mxL_mem_ge S
      have hmn2 := anyL_mem _ S (mnL_mem S (by intro h; rw [h] at h0; simp at h0) fun s hs => (Hok.out s hs).2)
      have hmx2 := anyL_mem _ S (mxL_mem S (by intro h; rw [h] at h0; simp at h0))
      obtain ⟨⟨n, ft, fv, lt, lv, mn, mx, hi, lo⟩, hg⟩ : ∃ g, g = aggC S := ⟨_, rfl⟩
      rw [← hg] at hT HR Hk
      simp only at hT
      obtain ⟨en, eft, efv, elt, elv, emn, emx, ehi, elo, hhl, q, hq, hq1, hq2⟩ := hT
      rw [← emn] at hmn hmn2 hq1
      rw [← emx] at hmx hmx2 hq2
      obtain ⟨p, o, hA, f1, f2⟩ := S2 0 S[0] (List.getElem?_eq_getElem h0)
      subst hA
      obtain ⟨p', o', hA, l1, l2⟩ := S2 (S.length - 1) S[S.length - 1] (List.getElem?_eq_getElem (by omega))
      injection hA with hA
      injection hA with hA1 hA2 _
      subst hA1; subst hA2
      rw [Nat.zero_mul, Nat.add_zero, ← eft] at f1
      rw [Nat.zero_mul, Nat.add_zero, ← efv] at f2
      rw [← elt] at l1
      rw [← elv] at l2
      have Hmn := Lib.hid hmn
      have Hmx := Lib.hid hmx
      have Hmn2 := Lib.hid hmn2
      have Hmx2 := Lib.hid hmx2
      have Hen := Lib.hid en
      have Hhi := Lib.hid ehi
      have Hlo := Lib.hid elo
      have Hq := Lib.hid hq
      have Hqb := Lib.hid (And.intro hq1 hq2)
      clear hmn hmx hmn2 hmx2 en ehi elo hq hq1 hq2 hg eft efv elt elv emn emx hhl
      go_wp2_with fail
      refine (aggof_R _ c2 S n ft fv lt lv mn mx hi lo 0 HR.out _ S2 Hok.out (by omega)).mono ?_
      rintro e w3 ⟨rfl, hb3⟩
      have S3 := S2.below hb3
      have t3 := on t2 hb3
      have f13 := cel hb3 f1
      have f23 := cel hb3 f2
      have l13 := cel hb3 l1
      have l23 := cel hb3 l2
      clear f1 f2 l1 l2
      go_wp2_with fail
      refine (mean_any n ft fv lt lv mn mx hi lo _ Hk.out.1 Hk.out.2.2.2.2.2.2.2.1 Hk.out.2.2.2.2.2.2.2.2).mono ?_
      rintro e w4 ⟨m1, m2, HM1, rfl, hb4⟩
      have hm := HM1.out.symm.trans Hq.out
      obtain ⟨rfl, rfl⟩ : m1 = q ∧ m2 = true := by simpa using hm
      have A4 := ((Blk.new w3 50 #[.int .u64 n, .int .i64 ft, .int .u64 fv, .int .i64 lt, .int .u64 lv, .int .u64 mn, .int .u64 mx, .int .u64 hi, .int .u64 lo]).go hb4).nine
      have S4 := (S3.below (below_alloc w3 (.cells #[.int .u64 n, .int .i64 ft, .int .u64 fv, .int .i64 lt, .int .u64 lv, .int .u64 mn, .int .u64 mx, .int .u64 hi, .int .u64 lo] 50))).below hb4
      have t4 := on t3 hb4
      have f14 := cel (w := w3) hb4 f13
      have f24 := cel (w := w3) hb4 f23
      have l14 := cel (w := w3) hb4 l13
      have l24 := cel (w := w3) hb4 l23
      clear hm HM1 t3 hb4 hb3 t2 S3 S2 f13 f23 l13 l23 Hq
      go_wp2_with fail
      go_loop [8, 9, 10, 11, 12] (fun s8 s9 s10 s11 s12 => ∃ (k a b : Nat) (b1 b2 : Bool), k ≤ S.length ∧ s8 = .int .u64 a ∧ s9 = .int .u64 b ∧ s10 = .bool b1 ∧ s11 = .bool b2 ∧ s12 = .int .i64 k ∧
          Hid (a < 18446744073709551616 ∧ a + b * 18446744073709551616 = sumL (S.take k) ∧ b1 = anyL mn (S.take k) ∧ b2 = anyL mx (S.take k))) (fun _ _ _ _ i => S.length - (intOf i).toNat)
      case atStart => exact ⟨0, 0, 0, false, false, Nat.zero_le _, rfl, rfl, rfl, rfl, rfl, Lib.hid ⟨by decide, rfl, rfl, rfl⟩⟩
      case round =>
        obtain ⟨k, a, b, b1, b2, hk, rfl, rfl, rfl, rfl, rfl, HJ⟩ := hrel
        by_cases hlt : k < S.length
        · obtain ⟨p', o', hA, g1, g2⟩ := S4 k S[k] (List.getElem?_eq_getElem hlt)
          injection hA with hA
          injection hA with hA1 hA2 _
          subst hA1; subst hA2
          have hv := (Hok.out S[k] (List.getElem_mem hlt)).2
          have hm1 := Hmn.out S[k] (List.getElem_mem hlt)
          have hm2 := Hmx.out S[k] (List.getElem_mem hlt)
          have hs1 := sumL_snoc S k hlt
          have ha1 := anyL_snoc mn S k hlt
          have ha2 := anyL_snoc mx S k hlt
          have hsum := sumL_le (S.take k) 18446744073709551615 (fun s h => by have := (Hok.out s (List.mem_of_mem_take h)).2; omega)
          rw [List.length_take] at hsum
          obtain ⟨s, hs⟩ : ∃ s, s = S[k] := ⟨_, rfl⟩
          rw [← hs] at g1 g2 hv hm1 hm2 hs1 ha1 ha2
          clear hs
          obtain ⟨t, v⟩ := s
          simp only at g1 g2 hv hm1 hm2 hs1 ha1 ha2
          obtain ⟨hJ1, hJ2, hJ3, hJ4⟩ := HJ.out
          rw [← hJ3] at ha1
          rw [← hJ4] at ha2
          obtain ⟨x1, hx1⟩ : ∃ x, x = (v == mn) := ⟨_, rfl⟩
          obtain ⟨x2, hx2⟩ : ∃ x, x = (v == mx) := ⟨_, rfl⟩
          rw [← hx1] at ha1
          rw [← hx2] at ha2
          have c1 : ((v : Int) == (mn : Int)) = x1 := by rw [hx1, Bool.eq_iff_iff, beq_iff_eq, beq_iff_eq]; omega
          have c2 : ((v : Int) == (mx : Int)) = x2 := by rw [hx2, Bool.eq_iff_iff, beq_iff_eq, beq_iff_eq]; omega
          have c1' : (v == mn) = x1 := hx1.symm
          have c2' : (v == mx) = x2 := hx2.symm
          have c3 : decide ((v : Int) < (mn : Int)) = false := by simp; omega
          have c4 : decide ((mx : Int) < (v : Int)) = false := by simp; omega
          have c3' : decide (v < mn) = false := by simp; omega
          have c4' : decide (mx < v) = false := by simp; omega
          obtain ⟨a2, ha⟩ : ∃ a2, a2 = (a + v) % 18446744073709551616 := ⟨_, rfl⟩
          have e1 : IntKind.u64.wrap ((a : Int) + (v : Int)) = (a2 : Int) := wrap_sum (by omega)
          have hbW : b < 60 := by
            rw [← hJ2] at hsum
            omega
          have e2 : IntKind.u64.wrap ((b : Int) + 1) = ((b + 1 : Nat) : Int) := wrap_sum (by omega)
          rcases Nat.lt_or_ge a2 v with hc | hc
          · have c5 : decide ((a2 : Int) < (v : Int)) = true := by simp; omega
            have c5' : decide (a2 < v) = true := by simp; omega
            have HN : Hid (a2 < 18446744073709551616 ∧ a2 + (b + 1) * 18446744073709551616 = sumL (S.take (k + 1)) ∧ (b1 || x1) = anyL mn (S.take (k + 1)) ∧ (b2 || x2) = anyL mx (S.take (k + 1))) := Lib.hid ⟨by omega, by rw [hs1]; omega, ha1.symm, ha2.symm⟩
            clear hv hm1 hm2 hs1 ha1 ha2 hsum hJ1 hJ2 hJ3 hJ4 hx1 hx2 ha hbW hc HJ
            cases b1 <;> cases b2
            all_goals
              go_wp2_with fail
              go_round
              case rel => exact ⟨k + 1, a2, b + 1, _, _, by omega, rfl, rfl, rfl, rfl, by go_num, HN⟩
              case measure => simp [intOf]; omega
          · have c5 : decide ((a2 : Int) < (v : Int)) = false := by simp; omega
            have c5' : decide (a2 < v) = false := by simp; omega
            have HN : Hid (a2 < 18446744073709551616 ∧ a2 + b * 18446744073709551616 = sumL (S.take (k + 1)) ∧ (b1 || x1) = anyL mn (S.take (k + 1)) ∧ (b2 || x2) = anyL mx (S.take (k + 1))) := Lib.hid ⟨by omega, by rw [hs1]; omega, ha1.symm, ha2.symm⟩
            clear hv hm1 hm2 hs1 ha1 ha2 hsum hJ1 hJ2 hJ3 hJ4 hx1 hx2 ha hbW hc HJ e2
            cases b1 <;> cases b2
            all_goals
              go_wp2_with fail
              go_round
              case rel => exact ⟨k + 1, a2, b, _, _, by omega, rfl, rfl, rfl, rfl, by go_num, HN⟩
              case measure => simp [intOf]; omega
        · obtain rfl : k = S.length := by omega
          obtain ⟨hJ1, hJ2, hJ3, hJ4⟩ := HJ.out
          rw [List.take_length] at hJ2 hJ3 hJ4
          rw [Hmn2.out] at hJ3
          rw [Hmx2.out] at hJ4
          subst hJ3; subst hJ4
          have h1 := Hhi.out
          have h2 := Hlo.out
          rw [← hJ2] at h1 h2
          obtain rfl : hi = b := by omega
          obtain rfl : lo = a := by omega
          obtain rfl : n = S.length := Hen.out
          have hq1 := Hqb.out.1
          have hq2 := Hqb.out.2
          have c3 : decide ((mn : Int) ≤ (m1 : Int)) = true := by simp; omega
          have c4 : decide ((m1 : Int) ≤ (mx : Int)) = true := by simp; omega
          have c3' : decide (mn ≤ m1) = true := by simp; omega
          have c4' : decide (m1 ≤ mx) = true := by simp; omega
          have hsub : IntKind.i64.wrap ((S.length : Int) - 1) = ((S.length - 1 : Nat) : Int) := by rw [IntKind.wrap_i64]; omega
          clear hq1 hq2 hJ1 hJ2 h1 h2 HJ Hhi Hlo
          go_wp2_with fail
          go_quiet (fail)
          go_wp2_with fail
          exact bodyPost_ret (v := .bool true) (by simp [results, Try.results14, go_sem]) rfl ⟨rfl, below_drewN t4 _⟩

end Go.Proofs.Ytdagegafanfhmaa
