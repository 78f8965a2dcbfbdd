/- Joined: Srt8, Srt9. -/
import Derived.Test.YtmcdollkmlcpbaaGreatDoorQ15
import Derived.Deep.CutBlock
set_option linter.unusedSimpArgs false
set_option linter.unusedVariables false
set_option linter.unusedSimpArgs false
set_option linter.unusedVariables false
namespace Go.Proofs.YtmcdollkmlcpbaaGreatDoor
open Go.RowKit
set_option maxRecDepth 100000
set_option maxHeartbeats 32000000 in
theorem part_any (lt : Nat → Nat → Bool) (HL : ∀ (x y : Nat) (w : World), Calls Tryz.prog 83 #[.int .u32 ((x : Nat) : Int), .int .u32 ((y : Nat) : Int)] w fun e w' => e = .returned (.bool (lt x y)) ∧ w' = w) {B : Nat} {w0 w : World} {ts : List Kt} {g n c : Nat} {d : Array Nat} (h : Sep B w0 w (thS g n c d :: ts)) (a b pv : Nat) (hab : a < b) (hpv : pv < n) (hb : b ≤ n) (hn : n ≤ 1000000000000) :
  Calls Tryz.prog 85 #[.slice (some ⟨g, 0, none⟩) n c, .int .i64 (a : Nat), .int .i64 (b : Nat), .int .i64 (pv : Nat)] w fun e w' => e = .returned (.tuple #[.int .i64 ((Go.Sort.partition lt d a b pv).1 : Nat), .bool (Go.Sort.partition lt d a b pv).2.1]) ∧ Sep B w0 w' (thS g n c (Go.Sort.partition lt d a b pv).2.2 :: ts) := by
 have hmx : Tryz.prog.follows .mixedOrders = true := by kernel_rfl
 have hL := Lib.hid HL
 have HS := Lib.hid h
 obtain ⟨R, hR⟩ : ∃ R, R = Go.Sort.partition lt d a b pv := ⟨_, rfl⟩
 rw [← hR]
 unfold Go.Sort.partition at hR
 dsimp only at hR
 obtain ⟨dd, hdd⟩ : ∃ x, x = Go.Sort.swp d a pv := ⟨_, rfl⟩
 obtain ⟨i, hi⟩ : ∃ i, i = a + 1 := ⟨_, rfl⟩
 obtain ⟨j, hj⟩ : ∃ j, j = b - 1 := ⟨_, rfl⟩
 rw [← hdd, ← hi, ← hj] at hR
 have hai : a + 1 ≤ i := by omega
 have hij : i ≤ j + 1 := by omega
 have hjb : j < b := by omega
 have HV := Lib.hid (And.intro hi hj)
 have hd := hR.symm
 have HD := Lib.hid (And.intro hd hdd)
 clear HL h hi hj hR hd hdd
 go_enter Tryz.func85, Tryz.ntmps85
 go_wp2_with fail
 have hs := HS.out
 have hnd := srt_len hs
 have i0 : (0 : Int) ≤ (a : Int) := by omega
 have i1 : (a : Int) < (n : Int) := by omega
 have j0 : (0 : Int) ≤ (pv : Int) := by omega
 have j1 : (pv : Int) < (n : Int) := by omega
 obtain ⟨y1, hy1⟩ : ∃ x, x = d[a]! := ⟨_, rfl⟩
 obtain ⟨y2, hy2⟩ : ∃ x, x = d[pv]! := ⟨_, rfl⟩
 have e1 := srt_cell hs (i := a) (by omega)
 have e2 := srt_cell hs (i := pv) (by omega)
 have f1 := srt_froz hs a
 have f2 := srt_froz hs pv
 rw [← hy1] at e1
 rw [← hy2] at e2
 have e3 := srt_cell (srt_set hs a y2) (i := pv) (by simp; omega)
 have f3 := srt_froz (srt_set hs a y2) pv
 obtain ⟨y3, hy3⟩ : ∃ x, x = (d.setIfInBounds a y2)[pv]! := ⟨_, rfl⟩
 rw [← hy3] at e3
 have h4 := srt_swp hs a pv
 rw [← hy1, ← hy2] at h4
 have H4 := Lib.hid (h4.go (Below.refl _ _).drew)
 clear hs hnd hy1 hy2 hy3 h4 HS
 go_region
 obtain ⟨wv, hwv⟩ : ∃ W, W = ((w.setCell ⟨g, a, none⟩ (.int .u32 ((y2 : Nat) : Int))).setCell ⟨g, pv, none⟩ (.int .u32 ((y1 : Nat) : Int))).drew := ⟨_, rfl⟩
 rw [← hwv] at H4 ⊢
 clear hwv e1 e2 f1 f2 e3 f3 i0 i1 j0 j1
 rw [← HD.out.2] at H4
 have hs := H4.out
 have hd := HD.out.1
 obtain ⟨P, hP⟩ : ∃ P, P = fun x => lt x dd[a]! := ⟨_, rfl⟩
 obtain ⟨Q, hQ⟩ : ∃ Q, Q = fun x => !lt x dd[a]! := ⟨_, rfl⟩
 have hPd : ∀ x, P x = lt x dd[a]! := fun x => by rw [hP]
 have hQd : ∀ x, Q x = !lt x dd[a]! := fun x => by rw [hQ]
 rw [← hP, ← hQ] at hd
 clear hP hQ
 have sp1 := Go.Sort.scanUp_spec P dd j _ i rfl
 obtain ⟨i2, hi2⟩ : ∃ i2, i2 = Go.Sort.scanUp P dd j i := ⟨_, rfl⟩
 rw [← hi2] at hd sp1
 have sp2 := Go.Sort.scanDown_spec Q dd i2 j
 obtain ⟨j2, hj2⟩ : ∃ j2, j2 = Go.Sort.scanDown Q dd i2 j := ⟨_, rfl⟩
 rw [← hj2] at hd sp2
 have q1 : i ≤ i2 := sp1.1
 have q2 : i2 ≤ j + 1 := sp1.2.1 hij
 have q3 : j2 ≤ j := sp2.1
 have q4 : i2 ≤ j2 + 1 := sp2.2.1 (by omega)
 have q5 : i2 ≤ j2 → i2 < j2 := fun h => by
  rcases Nat.lt_or_ge i2 j2 with h1 | h1
  ·exact h1
  ·have h2 : i2 = j2 := by omega
   have t1 := sp1.2.2.2 (by omega)
   have t2 := sp2.2.2.2 h (by omega)
   rw [← h2, hQd] at t2
   rw [hPd] at t1
   simp at t2
   rw [t1] at t2
   cases t2
 have HS : Hid (Sep B w0 wv (thS g n c dd :: ts) ∧ Go.Sort.scanUp P dd j i = i2) := Lib.hid ⟨hs, hi2.symm⟩
 have HQ := Lib.hid (And.intro hd (And.intro hj2.symm q5))
 clear hs hd hi2 hj2 sp1 sp2 q5 H4 HD
 have hvi : (a : Int) + 1 = (i : Int) := by have := HV.out.1; omega
 have hvj : (b : Int) - 1 = (j : Int) := by have := HV.out.2; omega
 go_upto_block 0 with fail
 clear hvi hvj
 go_cut [10] from 30 to 45 (fun s wx => s = .int .i64 i2 ∧ Hid (Sep B w0 wx (thS g n c dd :: ts)))
 case first =>
  go_wp2_with fail
  go_loopw [10] (fun s wr => ∃ k : Nat, s = .int .i64 k ∧ i ≤ k ∧ k ≤ j + 1 ∧ Hid (Sep B w0 wr (thS g n c dd :: ts) ∧ Go.Sort.scanUp P dd j k = i2)) (fun s _ => j + 1 - (intOf s).toNat)
  case atStart => exact ⟨i, rfl, Nat.le_refl _, by omega, HS⟩
  case round =>
   obtain ⟨k, rfl, hk1, hk2, HR⟩ := hrel
   clear HS
   by_cases hkj : k ≤ j
   case' pos =>
    have hq : decide ((k : Int) ≤ (j : Int)) = true := decide_eq_true (by omega)
    have hq' : (k : Int) ≤ (j : Int) := by omega
    have a0 : (0 : Int) ≤ (a : Int) := by omega
    have a1 : (a : Int) < (n : Int) := by omega
    have k0 : (0 : Int) ≤ (k : Int) := by omega
    have k1 : (k : Int) < (n : Int) := by omega
    obtain ⟨hs, hd⟩ := HR.out
    have hnd := srt_len hs
    obtain ⟨xa, hxa⟩ : ∃ x, x = dd[a]! := ⟨_, rfl⟩
    obtain ⟨xk, hxk⟩ : ∃ x, x = dd[k]! := ⟨_, rfl⟩
    have e1 := srt_cell hs (i := a) (by omega)
    have e2 := srt_cell hs (i := k) (by omega)
    rw [← hxa] at e1
    rw [← hxk] at e2
    rw [Go.Sort.scanUp, decide_eq_true hkj, Bool.true_and, hPd] at hd
    rw [← hxa, ← hxk] at hd
    obtain ⟨r, hr⟩ : ∃ r, r = lt xk xa := ⟨_, rfl⟩
    rw [← hr] at hd
    have hp := plus_cell wr
    have HC := Lib.hid (fun (y : More) => And.intro (hL.out xk xa (plus wr y)) (hs.go (plus_below wr y)))
    rw [← hr] at HC
    have Hd := Lib.hid hd
    skip
    skip
    clear hs hd hnd hxa hxk hr HR
    go_wp2_with fail
    refine wp_region_tail_ext 12 (by kernel_rfl) (by kernel_rfl) ?_
    simp only [List.take_succ_cons, List.take_zero, List.drop_succ_cons, List.drop_zero]
    repeat (go_big_quiet_step (fail))
    refine wpQuiet_nil ?_
    rintro w2 ⟨y, rfl⟩
    have HC1 := Lib.hid (HC.out y)
    clear HC e1 e2 hp
    go_wp2_with fail
    refine HC1.out.1.mono ?_
    rintro e wx ⟨rfl, hw3⟩
    have HS : Hid (Sep B w0 wx (thS g n c dd :: ts)) := Lib.hid (by rw [hw3]; exact HC1.out.2)
    clear hw3 HC1
    cases r
    case' true =>
     have hd := Hd.out
     rw [if_pos (by first | rfl | trivial | decide)] at hd
     skip
     have hrr := Lib.hid (And.intro HS.out hd)
     clear hd
     skip
     go_wp2_with fail
     go_roundw
     case measure => simp [intOf]; omega
     case rel => exact ⟨k + 1, by go_num, by omega, by omega, hrr⟩
    case' false =>
     have hki : k = i2 := by
      have hd := Hd.out
      rw [if_neg (by decide)] at hd
      exact hd
   case' neg =>
    have hq : decide ((k : Int) ≤ (j : Int)) = false := decide_eq_false (by omega)
    have hq' : ¬ (k : Int) ≤ (j : Int) := by omega
    have hki : k = i2 := by
     have := HR.out.2
     rw [Go.Sort.scanUp, if_neg (by simp; intro h; omega)] at this
     exact this
    obtain ⟨hs, -⟩ := HR.out
    have hp := plus_cell wr
    have HS0 := Lib.hid (And.intro hs hki)
    clear hs HR hki
    go_wp2_with fail
    refine wp_region_ext hmx (by kernel_rfl) ?_
    repeat (go_big_quiet_step (fail))
    refine wpQuiet_nil ?_
    rintro wx ⟨y, hwx⟩
    have HS : Hid (Sep B w0 wx (thS g n c dd :: ts)) := Lib.hid (by rw [hwx]; exact HS0.out.1.go (plus_below wr y))
    have hki := HS0.out.2
    clear hwx hp HS0
   all_goals
    rw [hki]
    clear hki hk1 hk2
    go_wp2_with fail
    go_meet
    exact ⟨rfl, HS⟩
 case rest =>
  obtain ⟨rfl, HS0⟩ := hcut
  replace HS : Hid (Sep B w0 wc (thS g n c dd :: ts) ∧ Go.Sort.scanDown Q dd i2 j = j2) := Lib.hid ⟨HS0.out, HQ.out.2.1⟩
  clear HS0
  go_upto_block 2 with fail
  go_cut [11] from 46 to 62 (fun t wx => t = .int .i64 j2 ∧ Hid (Sep B w0 wx (thS g n c dd :: ts)))
  case first =>
   go_wp2_with fail
   go_loopw [11] (fun s wr => ∃ k : Nat, s = .int .i64 k ∧ k ≤ j ∧ i2 ≤ k + 1 ∧ Hid (Sep B w0 wr (thS g n c dd :: ts) ∧ Go.Sort.scanDown Q dd i2 k = j2)) (fun s _ => (intOf s).toNat)
   case atStart => exact ⟨j, rfl, Nat.le_refl _, by omega, HS⟩
   case round =>
    obtain ⟨k, rfl, hk1, hk2, HR⟩ := hrel
    clear HS
    by_cases hkj : i2 ≤ k
    case' pos =>
     have hq : decide ((i2 : Int) ≤ (k : Int)) = true := decide_eq_true (by omega)
     have hq' : (i2 : Int) ≤ (k : Int) := by omega
     have a0 : (0 : Int) ≤ (a : Int) := by omega
     have a1 : (a : Int) < (n : Int) := by omega
     have k0 : (0 : Int) ≤ (k : Int) := by omega
     have k1 : (k : Int) < (n : Int) := by omega
     obtain ⟨hs, hd⟩ := HR.out
     have hnd := srt_len hs
     obtain ⟨xa, hxa⟩ : ∃ x, x = dd[a]! := ⟨_, rfl⟩
     obtain ⟨xk, hxk⟩ : ∃ x, x = dd[k]! := ⟨_, rfl⟩
     have e1 := srt_cell hs (i := a) (by omega)
     have e2 := srt_cell hs (i := k) (by omega)
     rw [← hxa] at e1
     rw [← hxk] at e2
     obtain ⟨k', hk'⟩ : ∃ k', k = k' + 1 := ⟨k - 1, by omega⟩
     rw [hk', Go.Sort.scanDown, ← hk', decide_eq_true hkj, Bool.true_and, hQd] at hd
     rw [← hxa, ← hxk] at hd
     obtain ⟨r, hr⟩ : ∃ r, r = lt xk xa := ⟨_, rfl⟩
     rw [← hr] at hd
     have hp := plus_cell wr
     have HC := Lib.hid (fun (y : More) => And.intro (hL.out xk xa (plus wr y)) (hs.go (plus_below wr y)))
     rw [← hr] at HC
     have Hd := Lib.hid hd
     have Hk := Lib.hid hk'
     clear hk'
     clear hs hd hnd hxa hxk hr HR
     go_wp2_with fail
     refine wp_region_tail_ext 12 (by kernel_rfl) (by kernel_rfl) ?_
     simp only [List.take_succ_cons, List.take_zero, List.drop_succ_cons, List.drop_zero]
     repeat (go_big_quiet_step (fail))
     refine wpQuiet_nil ?_
     rintro w2 ⟨y, rfl⟩
     have HC1 := Lib.hid (HC.out y)
     clear HC e1 e2 hp
     go_wp2_with fail
     refine HC1.out.1.mono ?_
     rintro e wx ⟨rfl, hw3⟩
     have HS : Hid (Sep B w0 wx (thS g n c dd :: ts)) := Lib.hid (by rw [hw3]; exact HC1.out.2)
     clear hw3 HC1
     cases r
     case' false =>
      have hd := Hd.out
      rw [if_pos (by first | rfl | trivial | decide)] at hd
      have hk' := Hk.out
      have hrr := Lib.hid (And.intro HS.out hd)
      clear hd
      clear hk'
      go_wp2_with fail
      go_roundw
      case measure => simp [intOf]; have := Hk.out; omega
      case rel => exact ⟨k', by rw [show ((k : Int) - 1) = (k' : Int) by have := Hk.out; omega], by have := Hk.out; omega, by have := Hk.out; omega, hrr⟩
     case' true =>
      have hki : k = j2 := by
       have hd := Hd.out
       rw [if_neg (by decide)] at hd
       exact hd
    case' neg =>
     have hq : decide ((i2 : Int) ≤ (k : Int)) = false := decide_eq_false (by omega)
     have hq' : ¬ (i2 : Int) ≤ (k : Int) := by omega
     have hki : k = j2 := by
      have := HR.out.2
      cases k with
      | zero => exact this
      | succ k => rw [Go.Sort.scanDown, if_neg (by simp; intro h; omega)] at this; exact this
     obtain ⟨hs, -⟩ := HR.out
     have hp := plus_cell wr
     have HS0 := Lib.hid (And.intro hs hki)
     clear hs HR hki
     go_wp2_with fail
     refine wp_region_ext hmx (by kernel_rfl) ?_
     repeat (go_big_quiet_step (fail))
     refine wpQuiet_nil ?_
     rintro wx ⟨y, hwx⟩
     have HS : Hid (Sep B w0 wx (thS g n c dd :: ts)) := Lib.hid (by rw [hwx]; exact HS0.out.1.go (plus_below wr y))
     have hki := HS0.out.2
     clear hwx hp HS0
    all_goals
     rw [hki]
     clear hki hk1 hk2
     go_wp2_with fail
     go_meet
     exact ⟨rfl, HS⟩
  case rest =>
     obtain ⟨rfl, HS⟩ := hcut
     by_cases hgt : i2 > j2
     ·have hg : decide ((j2 : Int) < (i2 : Int)) = true := decide_eq_true (by omega)
      have hg' : (j2 : Int) < (i2 : Int) := by omega
      have HF : Hid (R = (j2, true, Go.Sort.swp dd j2 a)) := Lib.hid (by
       have := HQ.out.1
       rw [if_pos hgt] at this
       exact this.symm)
      clear hgt
      have hs := HS.out
      have hnd := srt_len hs
      have i0 : (0 : Int) ≤ (j2 : Int) := by omega
      have i1 : (j2 : Int) < (n : Int) := by omega
      have j0 : (0 : Int) ≤ (a : Int) := by omega
      have j1 : (a : Int) < (n : Int) := by omega
      obtain ⟨y1, hy1⟩ : ∃ x, x = dd[j2]! := ⟨_, rfl⟩
      obtain ⟨y2, hy2⟩ : ∃ x, x = dd[a]! := ⟨_, rfl⟩
      have e1 := srt_cell hs (i := j2) (by omega)
      have e2 := srt_cell hs (i := a) (by omega)
      have f1 := srt_froz hs j2
      have f2 := srt_froz hs a
      rw [← hy1] at e1
      rw [← hy2] at e2
      have e3 := srt_cell (srt_set hs j2 y2) (i := a) (by simp; omega)
      have f3 := srt_froz (srt_set hs j2 y2) a
      obtain ⟨y3, hy3⟩ : ∃ x, x = (dd.setIfInBounds j2 y2)[a]! := ⟨_, rfl⟩
      rw [← hy3] at e3
      have h4 := srt_swp hs j2 a
      rw [← hy1, ← hy2] at h4
      have H4 := Lib.hid (h4.go (Below.refl _ _).drew)
      clear hs hnd hy1 hy2 hy3 h4 HS
      go_wp2_with fail
      go_region
      obtain ⟨wv, hwv⟩ : ∃ W, W = ((wc.setCell ⟨g, j2, none⟩ (.int .u32 ((y2 : Nat) : Int))).setCell ⟨g, a, none⟩ (.int .u32 ((y1 : Nat) : Int))).drew := ⟨_, rfl⟩
      rw [← hwv] at H4 ⊢
      clear hwv e1 e2 f1 f2 e3 f3 i0 i1 j0 j1
      go_wp2_with fail
      go_ret2
      rw [HF.out]
      exact ⟨rfl, H4.out⟩
     ·have hg : decide ((j2 : Int) < (i2 : Int)) = false := decide_eq_false (by omega)
      have hg' : ¬ (j2 : Int) < (i2 : Int) := by omega
      have q6 : i2 < j2 := HQ.out.2.2 (by omega)
      obtain ⟨L, hL9⟩ : ∃ L, L = Go.Sort.partLoop lt a (i2 + 1) (j2 - 1) (Go.Sort.swp dd i2 j2) := ⟨_, rfl⟩
      have HF : Hid (R = (L.1, false, Go.Sort.swp L.2 L.1 a)) := Lib.hid (by
       have := HQ.out.1
       rw [if_neg hgt, ← hL9] at this
       exact this.symm)
      have HL9 := Lib.hid hL9.symm
      clear hgt hL9
      have hs := HS.out
      have hnd := srt_len hs
      have i0 : (0 : Int) ≤ (i2 : Int) := by omega
      have i1 : (i2 : Int) < (n : Int) := by omega
      have j0 : (0 : Int) ≤ (j2 : Int) := by omega
      have j1 : (j2 : Int) < (n : Int) := by omega
      obtain ⟨y1, hy1⟩ : ∃ x, x = dd[i2]! := ⟨_, rfl⟩
      obtain ⟨y2, hy2⟩ : ∃ x, x = dd[j2]! := ⟨_, rfl⟩
      have e1 := srt_cell hs (i := i2) (by omega)
      have e2 := srt_cell hs (i := j2) (by omega)
      have f1 := srt_froz hs i2
      have f2 := srt_froz hs j2
      rw [← hy1] at e1
      rw [← hy2] at e2
      have h4 := srt_swp hs i2 j2
      rw [← hy1, ← hy2] at h4
      have H4 := Lib.hid (h4.go (Below.refl _ _).drew)
      clear hs hnd hy1 hy2 h4 HS
      go_wp2_with fail
      go_region
      obtain ⟨wv, hwv⟩ : ∃ W, W = ((wc.setCell ⟨g, i2, none⟩ (.int .u32 ((y2 : Nat) : Int))).setCell ⟨g, j2, none⟩ (.int .u32 ((y1 : Nat) : Int))).drew := ⟨_, rfl⟩
      rw [← hwv] at H4 ⊢
      clear hwv e1 e2 f1 f2 i0 i1 j0 j1
      have HI : Hid (∃ de, Sep B w0 wv (thS g n c de :: ts) ∧ Go.Sort.partLoop lt a (i2 + 1) (j2 - 1) de = L) := Lib.hid ⟨_, H4.out, HL9.out⟩
      clear H4 HL9 HQ hPd hQd
      go_wp2_with fail
      go_loopw [10, 11] (fun s t wr => ∃ i j : Nat, s = .int .i64 i ∧ t = .int .i64 j ∧ a + 1 ≤ i ∧ i ≤ j + 1 ∧ j < b ∧ Hid (∃ dd, Sep B w0 wr (thS g n c dd :: ts) ∧ Go.Sort.partLoop lt a i j dd = L)) (fun s t _ => (intOf t + 1 - intOf s).toNat)
      case atStart => exact ⟨i2 + 1, j2 - 1, by go_num, by rw [show ((j2 - 1 : Nat) : Int) = (j2 : Int) - 1 by omega], by omega, by omega, by omega, HI⟩
      case round =>
       clear hai hij hjb q1 q2 q3 q4 q6 hg hg'
       obtain ⟨i, j, rfl, rfl, hai, hij, hjb, HR⟩ := hrel
       clear HI
       obtain ⟨dd, hs, hd⟩ := HR.out
       rw [Go.Sort.partLoop_eq] at hd
       obtain ⟨P, hP⟩ : ∃ P, P = fun x => lt x dd[a]! := ⟨_, rfl⟩
       obtain ⟨Q, hQ⟩ : ∃ Q, Q = fun x => !lt x dd[a]! := ⟨_, rfl⟩
       have hPd : ∀ x, P x = lt x dd[a]! := fun x => by rw [hP]
       have hQd : ∀ x, Q x = !lt x dd[a]! := fun x => by rw [hQ]
       rw [← hP, ← hQ] at hd
       clear hP hQ
       have sp1 := Go.Sort.scanUp_spec P dd j _ i rfl
       obtain ⟨i2, hi2⟩ : ∃ i2, i2 = Go.Sort.scanUp P dd j i := ⟨_, rfl⟩
       rw [← hi2] at hd sp1
       have sp2 := Go.Sort.scanDown_spec Q dd i2 j
       obtain ⟨j2, hj2⟩ : ∃ j2, j2 = Go.Sort.scanDown Q dd i2 j := ⟨_, rfl⟩
       rw [← hj2] at hd sp2
       have q1 : i ≤ i2 := sp1.1
       have q2 : i2 ≤ j + 1 := sp1.2.1 hij
       have q3 : j2 ≤ j := sp2.1
       have q4 : i2 ≤ j2 + 1 := sp2.2.1 (by omega)
       have q5 : i2 ≤ j2 → i2 < j2 := fun h => by
        rcases Nat.lt_or_ge i2 j2 with h1 | h1
        ·exact h1
        ·have h2 : i2 = j2 := by omega
         have t1 := sp1.2.2.2 (by omega)
         have t2 := sp2.2.2.2 h (by omega)
         rw [← h2, hQd] at t2
         rw [hPd] at t1
         simp at t2
         rw [t1] at t2
         cases t2
       have HS : Hid (Sep B w0 wr (thS g n c dd :: ts) ∧ Go.Sort.scanUp P dd j i = i2) := Lib.hid ⟨hs, hi2.symm⟩
       have HQ := Lib.hid (And.intro hd (And.intro hj2.symm q5))
       clear hs hd hi2 hj2 sp1 sp2 q5 HR
       go_wp2_with fail
       go_loopw [10] (fun s wr => ∃ k : Nat, s = .int .i64 k ∧ i ≤ k ∧ k ≤ j + 1 ∧ Hid (Sep B w0 wr (thS g n c dd :: ts) ∧ Go.Sort.scanUp P dd j k = i2)) (fun s _ => j + 1 - (intOf s).toNat)
       case atStart => exact ⟨i, rfl, Nat.le_refl _, by omega, HS⟩
       case round =>
        obtain ⟨k, rfl, hk1, hk2, HR⟩ := hrel
        clear HS
        by_cases hkj : k ≤ j
        case' pos =>
         have hq : decide ((k : Int) ≤ (j : Int)) = true := decide_eq_true (by omega)
         have hq' : (k : Int) ≤ (j : Int) := by omega
         have a0 : (0 : Int) ≤ (a : Int) := by omega
         have a1 : (a : Int) < (n : Int) := by omega
         have k0 : (0 : Int) ≤ (k : Int) := by omega
         have k1 : (k : Int) < (n : Int) := by omega
         obtain ⟨hs, hd⟩ := HR.out
         have hnd := srt_len hs
         obtain ⟨xa, hxa⟩ : ∃ x, x = dd[a]! := ⟨_, rfl⟩
         obtain ⟨xk, hxk⟩ : ∃ x, x = dd[k]! := ⟨_, rfl⟩
         have e1 := srt_cell hs (i := a) (by omega)
         have e2 := srt_cell hs (i := k) (by omega)
         rw [← hxa] at e1
         rw [← hxk] at e2
         rw [Go.Sort.scanUp, decide_eq_true hkj, Bool.true_and, hPd] at hd
         rw [← hxa, ← hxk] at hd
         obtain ⟨r, hr⟩ : ∃ r, r = lt xk xa := ⟨_, rfl⟩
         rw [← hr] at hd
         have hp := plus_cell wr
         have HC := Lib.hid (fun (y : More) => And.intro (hL.out xk xa (plus wr y)) (hs.go (plus_below wr y)))
         rw [← hr] at HC
         have Hd := Lib.hid hd
         skip
         skip
         clear hs hd hnd hxa hxk hr HR
         go_wp2_with fail
         refine wp_region_tail_ext 12 (by kernel_rfl) (by kernel_rfl) ?_
         simp only [List.take_succ_cons, List.take_zero, List.drop_succ_cons, List.drop_zero]
         repeat (go_big_quiet_step (fail))
         refine wpQuiet_nil ?_
         rintro w2 ⟨y, rfl⟩
         have HC1 := Lib.hid (HC.out y)
         clear HC e1 e2 hp
         go_wp2_with fail
         refine HC1.out.1.mono ?_
         rintro e wx ⟨rfl, hw3⟩
         have HS : Hid (Sep B w0 wx (thS g n c dd :: ts)) := Lib.hid (by rw [hw3]; exact HC1.out.2)
         clear hw3 HC1
         cases r
         case' true =>
          have hd := Hd.out
          rw [if_pos (by first | rfl | trivial | decide)] at hd
          skip
          have hrr := Lib.hid (And.intro HS.out hd)
          clear hd
          skip
          go_wp2_with fail
          go_roundw
          case measure => simp [intOf]; omega
          case rel => exact ⟨k + 1, by go_num, by omega, by omega, hrr⟩
         case' false =>
          have hki : k = i2 := by
           have hd := Hd.out
           rw [if_neg (by decide)] at hd
           exact hd
        case' neg =>
         have hq : decide ((k : Int) ≤ (j : Int)) = false := decide_eq_false (by omega)
         have hq' : ¬ (k : Int) ≤ (j : Int) := by omega
         have hki : k = i2 := by
          have := HR.out.2
          rw [Go.Sort.scanUp, if_neg (by simp; intro h; omega)] at this
          exact this
         obtain ⟨hs, -⟩ := HR.out
         have hp := plus_cell wr
         have HS0 := Lib.hid (And.intro hs hki)
         clear hs HR hki
         go_wp2_with fail
         refine wp_region_ext hmx (by kernel_rfl) ?_
         repeat (go_big_quiet_step (fail))
         refine wpQuiet_nil ?_
         rintro wx ⟨y, hwx⟩
         have HS : Hid (Sep B w0 wx (thS g n c dd :: ts)) := Lib.hid (by rw [hwx]; exact HS0.out.1.go (plus_below wr y))
         have hki := HS0.out.2
         clear hwx hp HS0
        all_goals
         rw [hki]
         clear hki hk1 hk2
         replace HS : Hid (Sep B w0 wx (thS g n c dd :: ts) ∧ Go.Sort.scanDown Q dd i2 j = j2) := Lib.hid ⟨HS.out, HQ.out.2.1⟩
         go_wp2_with fail
         go_loopw [11] (fun s wr => ∃ k : Nat, s = .int .i64 k ∧ k ≤ j ∧ i2 ≤ k + 1 ∧ Hid (Sep B w0 wr (thS g n c dd :: ts) ∧ Go.Sort.scanDown Q dd i2 k = j2)) (fun s _ => (intOf s).toNat)
         case atStart => exact ⟨j, rfl, Nat.le_refl _, by omega, HS⟩
         case round =>
          obtain ⟨k, rfl, hk1, hk2, HR⟩ := hrel
          clear HS
          by_cases hkj : i2 ≤ k
          case' pos =>
           have hq : decide ((i2 : Int) ≤ (k : Int)) = true := decide_eq_true (by omega)
           have hq' : (i2 : Int) ≤ (k : Int) := by omega
           have a0 : (0 : Int) ≤ (a : Int) := by omega
           have a1 : (a : Int) < (n : Int) := by omega
           have k0 : (0 : Int) ≤ (k : Int) := by omega
           have k1 : (k : Int) < (n : Int) := by omega
           obtain ⟨hs, hd⟩ := HR.out
           have hnd := srt_len hs
           obtain ⟨xa, hxa⟩ : ∃ x, x = dd[a]! := ⟨_, rfl⟩
           obtain ⟨xk, hxk⟩ : ∃ x, x = dd[k]! := ⟨_, rfl⟩
           have e1 := srt_cell hs (i := a) (by omega)
           have e2 := srt_cell hs (i := k) (by omega)
           rw [← hxa] at e1
           rw [← hxk] at e2
           obtain ⟨k', hk'⟩ : ∃ k', k = k' + 1 := ⟨k - 1, by omega⟩
           rw [hk', Go.Sort.scanDown, ← hk', decide_eq_true hkj, Bool.true_and, hQd] at hd
           rw [← hxa, ← hxk] at hd
           obtain ⟨r, hr⟩ : ∃ r, r = lt xk xa := ⟨_, rfl⟩
           rw [← hr] at hd
           have hp := plus_cell wr
           have HC := Lib.hid (fun (y : More) => And.intro (hL.out xk xa (plus wr y)) (hs.go (plus_below wr y)))
           rw [← hr] at HC
           have Hd := Lib.hid hd
           have Hk := Lib.hid hk'
           clear hk'
           clear hs hd hnd hxa hxk hr HR
           go_wp2_with fail
           refine wp_region_tail_ext 12 (by kernel_rfl) (by kernel_rfl) ?_
           simp only [List.take_succ_cons, List.take_zero, List.drop_succ_cons, List.drop_zero]
           repeat (go_big_quiet_step (fail))
           refine wpQuiet_nil ?_
           rintro w2 ⟨y, rfl⟩
           have HC1 := Lib.hid (HC.out y)
           clear HC e1 e2 hp
           go_wp2_with fail
           refine HC1.out.1.mono ?_
           rintro e wx ⟨rfl, hw3⟩
           have HS : Hid (Sep B w0 wx (thS g n c dd :: ts)) := Lib.hid (by rw [hw3]; exact HC1.out.2)
           clear hw3 HC1
           cases r
           case' false =>
            have hd := Hd.out
            rw [if_pos (by first | rfl | trivial | decide)] at hd
            have hk' := Hk.out
            have hrr := Lib.hid (And.intro HS.out hd)
            clear hd
            clear hk'
            go_wp2_with fail
            go_roundw
            case measure => simp [intOf]; have := Hk.out; omega
            case rel => exact ⟨k', by rw [show ((k : Int) - 1) = (k' : Int) by have := Hk.out; omega], by have := Hk.out; omega, by have := Hk.out; omega, hrr⟩
           case' true =>
            have hki : k = j2 := by
             have hd := Hd.out
             rw [if_neg (by decide)] at hd
             exact hd
          case' neg =>
           have hq : decide ((i2 : Int) ≤ (k : Int)) = false := decide_eq_false (by omega)
           have hq' : ¬ (i2 : Int) ≤ (k : Int) := by omega
           have hki : k = j2 := by
            have := HR.out.2
            cases k with
            | zero => exact this
            | succ k => rw [Go.Sort.scanDown, if_neg (by simp; intro h; omega)] at this; exact this
           obtain ⟨hs, -⟩ := HR.out
           have hp := plus_cell wr
           have HS0 := Lib.hid (And.intro hs hki)
           clear hs HR hki
           go_wp2_with fail
           refine wp_region_ext hmx (by kernel_rfl) ?_
           repeat (go_big_quiet_step (fail))
           refine wpQuiet_nil ?_
           rintro wx ⟨y, hwx⟩
           have HS : Hid (Sep B w0 wx (thS g n c dd :: ts)) := Lib.hid (by rw [hwx]; exact HS0.out.1.go (plus_below wr y))
           have hki := HS0.out.2
           clear hwx hp HS0
          all_goals
           rw [hki]
           clear hki hk1 hk2
           by_cases hgt : i2 > j2
           ·have hg : decide ((j2 : Int) < (i2 : Int)) = true := decide_eq_true (by omega)
            have hg' : (j2 : Int) < (i2 : Int) := by omega
            have HF2 : Hid (R = (j2, false, Go.Sort.swp dd j2 a)) := Lib.hid (by
             have := HQ.out.1
             rw [if_pos hgt] at this
             rw [HF.out, ← this])
            clear hgt
            have hs := HS.out
            have hnd := srt_len hs
            have i0 : (0 : Int) ≤ (j2 : Int) := by omega
            have i1 : (j2 : Int) < (n : Int) := by omega
            have j0 : (0 : Int) ≤ (a : Int) := by omega
            have j1 : (a : Int) < (n : Int) := by omega
            obtain ⟨y1, hy1⟩ : ∃ x, x = dd[j2]! := ⟨_, rfl⟩
            obtain ⟨y2, hy2⟩ : ∃ x, x = dd[a]! := ⟨_, rfl⟩
            have e1 := srt_cell hs (i := j2) (by omega)
            have e2 := srt_cell hs (i := a) (by omega)
            have f1 := srt_froz hs j2
            have f2 := srt_froz hs a
            rw [← hy1] at e1
            rw [← hy2] at e2
            have e3 := srt_cell (srt_set hs j2 y2) (i := a) (by simp; omega)
            have f3 := srt_froz (srt_set hs j2 y2) a
            obtain ⟨y3, hy3⟩ : ∃ x, x = (dd.setIfInBounds j2 y2)[a]! := ⟨_, rfl⟩
            rw [← hy3] at e3
            have h4 := srt_swp hs j2 a
            rw [← hy1, ← hy2] at h4
            have H4 := Lib.hid (h4.go (Below.refl _ _).drew)
            clear hs hnd hy1 hy2 hy3 h4 HS
            go_wp2_with fail
            go_region
            obtain ⟨wv, hwv⟩ : ∃ W, W = ((wx.setCell ⟨g, j2, none⟩ (.int .u32 ((y2 : Nat) : Int))).setCell ⟨g, a, none⟩ (.int .u32 ((y1 : Nat) : Int))).drew := ⟨_, rfl⟩
            rw [← hwv] at H4 ⊢
            clear hwv e1 e2 f1 f2 e3 f3 i0 i1 j0 j1
            go_wp2_with fail
            go_ret2
            rw [HF2.out]
            exact ⟨rfl, H4.out⟩
           ·have hg : decide ((j2 : Int) < (i2 : Int)) = false := decide_eq_false (by omega)
            have hg' : ¬ (j2 : Int) < (i2 : Int) := by omega
            have q6 : i2 < j2 := HQ.out.2.2 (by omega)
            have HF2 : Hid (Go.Sort.partLoop lt a (i2 + 1) (j2 - 1) (Go.Sort.swp dd i2 j2) = L) := Lib.hid (by
             have := HQ.out.1
             rw [if_neg hgt] at this
             exact this)
            clear hgt
            have hs := HS.out
            have hnd := srt_len hs
            have i0 : (0 : Int) ≤ (i2 : Int) := by omega
            have i1 : (i2 : Int) < (n : Int) := by omega
            have j0 : (0 : Int) ≤ (j2 : Int) := by omega
            have j1 : (j2 : Int) < (n : Int) := by omega
            obtain ⟨y1, hy1⟩ : ∃ x, x = dd[i2]! := ⟨_, rfl⟩
            obtain ⟨y2, hy2⟩ : ∃ x, x = dd[j2]! := ⟨_, rfl⟩
            have e1 := srt_cell hs (i := i2) (by omega)
            have e2 := srt_cell hs (i := j2) (by omega)
            have f1 := srt_froz hs i2
            have f2 := srt_froz hs j2
            rw [← hy1] at e1
            rw [← hy2] at e2
            have h4 := srt_swp hs i2 j2
            rw [← hy1, ← hy2] at h4
            have H4 := Lib.hid (h4.go (Below.refl _ _).drew)
            clear hs hnd hy1 hy2 h4 HS
            go_wp2_with fail
            go_region
            obtain ⟨wv, hwv⟩ : ∃ W, W = ((wx.setCell ⟨g, i2, none⟩ (.int .u32 ((y2 : Nat) : Int))).setCell ⟨g, j2, none⟩ (.int .u32 ((y1 : Nat) : Int))).drew := ⟨_, rfl⟩
            rw [← hwv] at H4 ⊢
            clear hwv e1 e2 f1 f2 i0 i1 j0 j1
            go_wp2_with fail
            go_roundw
            case measure => simp [intOf]; omega
            case rel => exact ⟨i2 + 1, j2 - 1, by go_num, by rw [show ((j2 - 1 : Nat) : Int) = (j2 : Int) - 1 by omega], by omega, by omega, by omega, Lib.hid ⟨_, H4.out, HF2.out⟩⟩
end Go.Proofs.YtmcdollkmlcpbaaGreatDoor
set_option linter.unusedSimpArgs false
set_option linter.unusedVariables false
namespace Go.Proofs.YtmcdollkmlcpbaaGreatDoor
open Go.RowKit
set_option maxRecDepth 100000
set_option maxHeartbeats 4000000 in
theorem next_any {B : Nat} {w0 w : World} {ts : List Kt} {s : Nat} {r : UInt64} (h : Sep B w0 w (thB s 180 #[.int .u64 (r.toNat : Nat)] :: ts)) :
  Calls Tryz.prog 101 #[.pointer (some ⟨s, 0, none⟩)] w fun e w' => e = .returned (.int .u64 ((Go.Sort.xorNext r).toNat : Nat)) ∧ Sep B w0 w' (thB s 180 #[.int .u64 ((Go.Sort.xorNext r).toNat : Nat)] :: ts) := by
 have hs : ∀ (x : UInt64) (k : Nat) (hk : k < 64), IntKind.u64.wrap (((x.toNat : Nat) : Int) * ((2 ^ k : Nat) : Int)) = (((x <<< UInt64.ofNat k).toNat : Nat) : Int) := fun x k hk => by
  rw [IntKind.wrap_u64]
  rw [UInt64.toNat_shiftLeft, Nat.shiftLeft_eq]
  have : (UInt64.ofNat k).toNat % 64 = k := by simp; omega
  rw [this]
  omega
 have hx : ∀ (x y : UInt64), bits BinOp.xor IntKind.u64 ((x.toNat : Nat) : Int) ((y.toNat : Nat) : Int) = (((x ^^^ y).toNat : Nat) : Int) := fun x y => by
  unfold bits
  have e : ∀ z : UInt64, BitVec.ofInt IntKind.u64.bits ((z.toNat : Nat) : Int) = z.toBitVec := fun z => by
   apply BitVec.eq_of_toNat_eq
   show _ = z.toNat
   rw [BitVec.toNat_ofInt]
   have := z.toNat_lt
   show (((z.toNat : Nat) : Int) % ((2 ^ 64 : Nat) : Int)).toNat = z.toNat
   omega
  dsimp only
  rw [e, e]
  show IntKind.u64.wrap (((x ^^^ y).toNat : Nat) : Int) = _
  rw [IntKind.wrap_u64]
  have := (x ^^^ y).toNat_lt
  omega
 obtain ⟨r1, hr1⟩ : ∃ x, x = r ^^^ (r <<< 13) := ⟨_, rfl⟩
 obtain ⟨r2, hr2⟩ : ∃ x, x = r1 ^^^ (r1 >>> 7) := ⟨_, rfl⟩
 have hr3 : Go.Sort.xorNext r = r2 ^^^ (r2 <<< 17) := by rw [hr2, hr1]; rfl
 rw [hr3]
 obtain ⟨X, hX⟩ : ∃ X, X = r.toNat := ⟨_, rfl⟩
 obtain ⟨Z1, hZ1⟩ : ∃ Z, Z = (r <<< 13).toNat := ⟨_, rfl⟩
 obtain ⟨X1, hX1⟩ : ∃ X, X = r1.toNat := ⟨_, rfl⟩
 obtain ⟨Z2, hZ2⟩ : ∃ Z, Z = (r1 >>> 7).toNat := ⟨_, rfl⟩
 obtain ⟨X2, hX2⟩ : ∃ X, X = r2.toNat := ⟨_, rfl⟩
 obtain ⟨Z3, hZ3⟩ : ∃ Z, Z = (r2 <<< 17).toNat := ⟨_, rfl⟩
 obtain ⟨X3, hX3⟩ : ∃ X, X = (r2 ^^^ (r2 <<< 17)).toNat := ⟨_, rfl⟩
 have a1 : IntKind.u64.wrap ((X : Int) * 8192) = (Z1 : Int) := by rw [hX, hZ1]; exact hs r 13 (by omega)
 have a3 : bits BinOp.xor IntKind.u64 (X : Int) (Z1 : Int) = (X1 : Int) := by rw [hX, hZ1, hX1, hr1]; exact hx _ _
 have b1 : (X1 : Int) / 128 = (Z2 : Int) := by
  rw [hX1, hZ2, UInt64.toNat_shiftRight, Nat.shiftRight_eq_div_pow]
  rfl
 have b3 : bits BinOp.xor IntKind.u64 (X1 : Int) (Z2 : Int) = (X2 : Int) := by rw [hX1, hZ2, hX2, hr2]; exact hx _ _
 have c1 : IntKind.u64.wrap ((X2 : Int) * 131072) = (Z3 : Int) := by rw [hX2, hZ3]; exact hs r2 17 (by omega)
 have c3 : bits BinOp.xor IntKind.u64 (X2 : Int) (Z3 : Int) = (X3 : Int) := by rw [hX2, hZ3, hX3]; exact hx _ _
 rw [← hX3]
 rw [← hX] at h
 have C : cellsSay w s 0 [.int .u64 (X : Nat)] := cells_say (h.blk 0) _ 0 rfl
 simp only [cellsSay, Nat.reduceAdd, and_true] at C
 have H := Lib.hid h
 clear h hX hZ1 hX1 hZ2 hX2 hZ3 hX3 hr1 hr2 hr3 hs hx
 go_enter Tryz.func101, Tryz.ntmps101
 go_wp2_with fail
 go_region
 obtain ⟨w1, hw⟩ : ∃ W, W = (w.setCell ⟨s, 0, none⟩ (.int .u64 (X1 : Nat))).drew := ⟨_, rfl⟩
 have h1 : Sep B w0 w1 (thB s 180 #[.int .u64 (X1 : Nat)] :: ts) := by
  rw [hw]
  exact (H.out.put 0 s [(0, .int .u64 (X1 : Nat))] #[.int .u64 (X1 : Nat)] rfl).go (Below.refl _ _).drew
 rw [← hw]
 clear hw H C
 have H := Lib.hid h1
 have C : cellsSay w1 s 0 [.int .u64 (X1 : Nat)] := cells_say (h1.blk 0) _ 0 rfl
 simp only [cellsSay, Nat.reduceAdd, and_true] at C
 clear h1
 go_wp2_with fail
 go_region
 obtain ⟨w2, hw⟩ : ∃ W, W = (w1.setCell ⟨s, 0, none⟩ (.int .u64 (X2 : Nat))).drew := ⟨_, rfl⟩
 have h1 : Sep B w0 w2 (thB s 180 #[.int .u64 (X2 : Nat)] :: ts) := by
  rw [hw]
  exact (H.out.put 0 s [(0, .int .u64 (X2 : Nat))] #[.int .u64 (X2 : Nat)] rfl).go (Below.refl _ _).drew
 rw [← hw]
 clear hw H C
 have H := Lib.hid h1
 have C : cellsSay w2 s 0 [.int .u64 (X2 : Nat)] := cells_say (h1.blk 0) _ 0 rfl
 simp only [cellsSay, Nat.reduceAdd, and_true] at C
 clear h1
 go_wp2_with fail
 go_region
 obtain ⟨w3, hw⟩ : ∃ W, W = (w2.setCell ⟨s, 0, none⟩ (.int .u64 (X3 : Nat))).drew := ⟨_, rfl⟩
 have h1 : Sep B w0 w3 (thB s 180 #[.int .u64 (X3 : Nat)] :: ts) := by
  rw [hw]
  exact (H.out.put 0 s [(0, .int .u64 (X3 : Nat))] #[.int .u64 (X3 : Nat)] rfl).go (Below.refl _ _).drew
 rw [← hw]
 clear hw H C
 have H := Lib.hid h1
 have C : cellsSay w3 s 0 [.int .u64 (X3 : Nat)] := cells_say (h1.blk 0) _ 0 rfl
 simp only [cellsSay, Nat.reduceAdd, and_true] at C
 clear h1
 go_wp2_with fail
 go_ret
 exact ⟨rfl, H.out⟩
end Go.Proofs.YtmcdollkmlcpbaaGreatDoor
