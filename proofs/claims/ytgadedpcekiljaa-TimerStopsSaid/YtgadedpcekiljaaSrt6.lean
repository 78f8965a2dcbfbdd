/- slices.Sort at []uint32: choosePivotOrdered. -/
import Derived.Test.YtgadedpcekiljaaSrt5
set_option linter.unusedSimpArgs false
set_option linter.unusedVariables false
namespace Go.Proofs.Ytgadedpcekiljaa
open Go.RowKit
set_option maxRecDepth 100000

def hintV : Go.Sort.Hint → Nat
  | .unknown => 0
  | .increasing => 1
  | .decreasing => 2
set_option maxHeartbeats 8000000 in
theorem choose_any (lt : Nat → Nat → Bool) (HL : ∀ (x y : Nat) (w : World), Calls Try.prog 32 #[.int .u32 ((x : Nat) : Int), .int .u32 ((y : Nat) : Int)] w fun e w' => e = .returned (.bool (lt x y)) ∧ w' = w) {B : Nat} {w0 w : World} {ts : List Kt} {g n c : Nat} {d : Array Nat} (h : Sep B w0 w (thS g n c d :: ts)) (a b : Nat) (hab : a + 8 ≤ b) (hb : b ≤ n) (hn : n ≤ 1000000000000) :
    Calls Try.prog 29 #[.slice (some ⟨g, 0, none⟩) n c, .int .i64 (a : Nat), .int .i64 (b : Nat)] w fun e w' => e = .returned (.tuple #[.int .i64 ((Go.Sort.choosePivot lt d a b).1 : Nat), .int .i64 (hintV (Go.Sort.choosePivot lt d a b).2 : Nat)]) ∧ Sep B w0 w' (thS g n c d :: ts) := by
  obtain ⟨W, hW⟩ : ∃ W, W = w.alloc (.cells #[.int .i64 0] 3) := ⟨_, rfl⟩
  obtain ⟨s, hs⟩ : ∃ s, s = w.heap.size := ⟨_, rfl⟩
  have h1 : Sep B w0 W (thS g n c d :: thB s 3 #[.int .i64 ((0 : Nat) : Int)] :: ts) := by
    rw [hW, hs]
    exact srt_perm (h.box #[.int .i64 ((0 : Nat) : Int)] 3) (List.Perm.swap _ _ _)
  have H1 := Lib.hid h1
  have HM := Lib.hid (fun (W : World) (sw x y z : Nat) (hx : x < n) (hy : y < n) (hz : z < n) (hsw : sw ≤ 100) (hh : Sep B w0 W (thS g n c d :: thB s 3 #[.int .i64 (sw : Nat)] :: ts)) => med_any lt HL hh x y z hx hy hz hn hsw)
  have HA := Lib.hid (fun (W : World) (sw x : Nat) (hx : 1 ≤ x) (hy : x + 1 < n) (hsw : sw ≤ 100) (hh : Sep B w0 W (thS g n c d :: thB s 3 #[.int .i64 (sw : Nat)] :: ts)) => medA_any lt HL hh x hx hy hn hsw)
  obtain ⟨D, hD⟩ : ∃ D, D = Go.Sort.choosePivot lt d a b := ⟨_, rfl⟩
  rw [← hD]
  unfold Go.Sort.choosePivot at hD
  dsimp only at hD
  obtain ⟨l, hl⟩ : ∃ l, l = b - a := ⟨_, rfl⟩
  rw [← hl, if_pos (show l ≥ 8 by omega)] at hD
  obtain ⟨q, hq⟩ : ∃ q, q = l / 4 := ⟨_, rfl⟩
  rw [← hq] at hD
  have hv1 : (b : Int) - (a : Int) = (l : Int) := by omega
  have hv2 : (l : Int).tdiv 4 = (q : Int) := by rw [hq]; rfl
  obtain ⟨i, hi⟩ : ∃ i, i = a + q * 1 := ⟨_, rfl⟩
  obtain ⟨j, hj⟩ : ∃ j, j = a + q * 2 := ⟨_, rfl⟩
  obtain ⟨k, hk⟩ : ∃ k, k = a + q * 3 := ⟨_, rfl⟩
  rw [← hi, ← hj, ← hk] at hD
  have hvi : (a : Int) + (q : Int) = (i : Int) := by omega
  have hvi' : (a : Int) + (q : Int) * 1 = (i : Int) := by omega
  have hvj : (a : Int) + (q : Int) * 2 = (j : Int) := by omega
  have hvk : (a : Int) + (q : Int) * 3 = (k : Int) := by omega
  have hq3 : q * 4 ≤ l := by omega
  have hi3 : i + q ≤ b ∧ j + q ≤ b ∧ k + q ≤ b ∧ 2 ≤ q := by omega
  have hkn : k < n := by omega
  have hjn : j < n := by omega
  have hin : i < n := by omega
  have hl8 : decide ((8 : Int) ≤ (l : Int)) = true := decide_eq_true (by omega)
  have hl8' : (8 : Int) ≤ (l : Int) := by omega
  have hln : l ≤ n := by omega
  have hqn : q ≤ n := by omega
  have HB := Lib.hid (And.intro hi3 (And.intro hi (And.intro hj (And.intro hk hb))))
  clear HL h h1 hl hi hj hk hi3
  by_cases hl5 : l ≥ 50
  · have hg : decide ((50 : Int) ≤ (l : Int)) = true := decide_eq_true (by omega)
    have hg' : (50 : Int) ≤ (l : Int) := by omega
    rw [if_pos hl5] at hD
    have hq12 : 12 ≤ q := by omega
    have HD := Lib.hid hD
    have HQ := Lib.hid hq12
    clear hD hq hq12
    go_enter Try.func29, Try.ntmps29
    go_upto_region 3 with fail
    rw [← hW, ← hs]
    clear hW hs
    have HC := Lib.hid (HA.out W 0 i (by have := HQ.out; have := HB.out; omega) (by have := HQ.out; have := HB.out; omega) (by omega) H1.out)
    obtain ⟨⟨ri, si⟩, hri⟩ : ∃ r, r = Go.Sort.medianAdjacent lt d i 0 := ⟨_, rfl⟩
    rw [← hri] at HC HD
    clear hri H1
    go_wp2_with fail
    refine HC.out.mono ?_
    rintro e w1 ⟨rfl, m1, n1, h1⟩
    have HC2 := Lib.hid (HA.out _ si j (by have := HQ.out; have := HB.out; omega) (by have := HQ.out; have := HB.out; omega) (by omega) h1)
    obtain ⟨⟨rj, sj⟩, hrj⟩ : ∃ r, r = Go.Sort.medianAdjacent lt d j si := ⟨_, rfl⟩
    try dsimp only at HD
    rw [← hrj] at HC2 HD
    clear hrj h1 HC
    go_wp2_with fail
    refine HC2.out.mono ?_
    rintro e w2 ⟨rfl, m2, n2, h2⟩
    have HC := Lib.hid (HA.out _ sj k (by have := HQ.out; have := HB.out; omega) (by have := HQ.out; have := HB.out; omega) (by omega) h2)
    obtain ⟨⟨rk, sk⟩, hrk⟩ : ∃ r, r = Go.Sort.medianAdjacent lt d k sj := ⟨_, rfl⟩
    try dsimp only at HD
    rw [← hrk] at HC HD
    clear hrk h2 HC2
    go_wp2_with fail
    refine HC.out.mono ?_
    rintro e w3 ⟨rfl, m3, n3, h3⟩
    have HC2 := Lib.hid (HM.out _ sk ri rj rk m1 m2 m3 (by omega) h3)
    obtain ⟨⟨rm, sm⟩, hrm⟩ : ∃ r, r = Go.Sort.median lt d ri rj rk sk := ⟨_, rfl⟩
    try dsimp only at HD
    rw [← hrm] at HC2 HD
    have HE : Hid (D = (rm, if sm = 0 then .increasing else if sm = 12 then .decreasing else .unknown)) := Lib.hid HD.out
    clear hrm h3 HC HD m1 m2 m3 n1 n2 n3
    go_wp2_with fail
    refine HC2.out.mono ?_
    rintro e w4 ⟨rfl, m4, n4, h4⟩
    have H4 := Lib.hid h4
    have C : cellsSay w4 s 0 [.int .i64 (sm : Nat)] := cells_say (h4.blk 1) _ 0 rfl
    simp only [cellsSay, Nat.reduceAdd, and_true] at C
    clear h4 HC2 m4 n4
    have HZ : Hid (Sep B w0 w4 (thS g n c d :: ts)) := Lib.hid (H4.out.sub ((List.sublist_cons_self _ _).cons_cons _))
    clear H4
    by_cases z0 : sm = 0
    · have HF : Hid (D = (rm, .increasing)) := Lib.hid (by rw [HE.out, if_pos z0])
      have kz : ((sm : Int) == 0) = true := beq_iff_eq.2 (by omega)
      clear HE z0
      go_wp2_with fail
      go_ret2
      rw [HF.out]
      exact ⟨rfl, HZ.out⟩
    · have kz : ((sm : Int) == 0) = false := beq_eq_false_iff_ne.2 (by omega)
      by_cases z1 : sm = 12
      · have HF : Hid (D = (rm, .decreasing)) := Lib.hid (by rw [HE.out, if_neg z0, if_pos z1])
        have ky : ((sm : Int) == 12) = true := beq_iff_eq.2 (by omega)
        clear HE z0 z1
        go_wp2_with fail
        go_ret2
        rw [HF.out]
        exact ⟨rfl, HZ.out⟩
      · have HF : Hid (D = (rm, .unknown)) := Lib.hid (by rw [HE.out, if_neg z0, if_neg z1])
        have ky : ((sm : Int) == 12) = false := beq_eq_false_iff_ne.2 (by omega)
        clear HE z0 z1
        go_wp2_with fail
        go_ret2
        rw [HF.out]
        exact ⟨rfl, HZ.out⟩
  · have hg : decide ((50 : Int) ≤ (l : Int)) = false := decide_eq_false (by omega)
    have hg' : ¬ (50 : Int) ≤ (l : Int) := by omega
    rw [if_neg hl5] at hD
    have HD := Lib.hid hD
    clear hD hq
    go_enter Try.func29, Try.ntmps29
    go_upto_region 3 with fail
    rw [← hW, ← hs]
    clear hW hs
    have HC2 := Lib.hid (HM.out W 0 i j k hin hjn hkn (by omega) H1.out)
    obtain ⟨⟨rm, sm⟩, hrm⟩ : ∃ r, r = Go.Sort.median lt d i j k 0 := ⟨_, rfl⟩
    rw [← hrm] at HC2 HD
    have HE : Hid (D = (rm, if sm = 0 then .increasing else if sm = 12 then .decreasing else .unknown)) := Lib.hid HD.out
    clear hrm HD H1
    go_wp2_with fail
    refine HC2.out.mono ?_
    rintro e w4 ⟨rfl, m4, n4, h4⟩
    have H4 := Lib.hid h4
    have C : cellsSay w4 s 0 [.int .i64 (sm : Nat)] := cells_say (h4.blk 1) _ 0 rfl
    simp only [cellsSay, Nat.reduceAdd, and_true] at C
    clear h4 HC2 m4 n4
    have HZ : Hid (Sep B w0 w4 (thS g n c d :: ts)) := Lib.hid (H4.out.sub ((List.sublist_cons_self _ _).cons_cons _))
    clear H4
    by_cases z0 : sm = 0
    · have HF : Hid (D = (rm, .increasing)) := Lib.hid (by rw [HE.out, if_pos z0])
      have kz : ((sm : Int) == 0) = true := beq_iff_eq.2 (by omega)
      clear HE z0
      go_wp2_with fail
      go_ret2
      rw [HF.out]
      exact ⟨rfl, HZ.out⟩
    · have kz : ((sm : Int) == 0) = false := beq_eq_false_iff_ne.2 (by omega)
      by_cases z1 : sm = 12
      · have HF : Hid (D = (rm, .decreasing)) := Lib.hid (by rw [HE.out, if_neg z0, if_pos z1])
        have ky : ((sm : Int) == 12) = true := beq_iff_eq.2 (by omega)
        clear HE z0 z1
        go_wp2_with fail
        go_ret2
        rw [HF.out]
        exact ⟨rfl, HZ.out⟩
      · have HF : Hid (D = (rm, .unknown)) := Lib.hid (by rw [HE.out, if_neg z0, if_neg z1])
        have ky : ((sm : Int) == 12) = false := beq_eq_false_iff_ne.2 (by omega)
        clear HE z0 z1
        go_wp2_with fail
        go_ret2
        rw [HF.out]
        exact ⟨rfl, HZ.out⟩

end Go.Proofs.Ytgadedpcekiljaa
