/- Joined: Srt10. -/
import Derived.Test.YtmcdollkmlcpbaaGreatDoorQ20
import Derived.Deep.LoopGhost
set_option linter.unusedSimpArgs false
set_option linter.unusedVariables false
set_option linter.unusedSimpArgs false
set_option linter.unusedVariables false
namespace Go.Proofs.YtmcdollkmlcpbaaGreatDoor
open Go.RowKit
set_option maxRecDepth 100000
theorem scan_bd {α : Type} [Inhabited α] (lt : α → α → Bool) (d : Array α) (b : Nat) : ∀ (n i : Nat), b - i = n → i ≤ b → i ≤ Go.Sort.scanSorted lt d b i ∧ Go.Sort.scanSorted lt d b i ≤ b := by
 intro n
 induction n with
 | zero =>
  intro i hn hib
  rw [Go.Sort.scanSorted]
  split
  ·rename_i hc
   simp only [Bool.and_eq_true, decide_eq_true_eq] at hc
   omega
  ·exact ⟨Nat.le_refl _, hib⟩
 | succ n ih =>
  intro i hn hib
  rw [Go.Sort.scanSorted]
  split
  ·rename_i hc
   have h := ih (i + 1) (by omega) (by omega)
   exact ⟨by omega, h.2⟩
  ·exact ⟨Nat.le_refl _, hib⟩
theorem shiftUp_eq {α : Type} [Inhabited α] (lt : α → α → Bool) (b j : Nat) (d : Array α) : Go.Sort.shiftUp lt b j d = if j < b then (if (!lt d[j]! d[j - 1]!) = true then d else Go.Sort.shiftUp lt b (j + 1) (Go.Sort.swp d j (j - 1))) else d := by
 rw [Go.Sort.shiftUp]
theorem shiftDown_eq {α : Type} [Inhabited α] (lt : α → α → Bool) (j : Nat) (d : Array α) : Go.Sort.shiftDown lt (j + 1) d = if (!lt d[j + 1]! d[j]!) = true then d else Go.Sort.shiftDown lt j (Go.Sort.swp d (j + 1) j) := rfl
set_option maxHeartbeats 32000000 in
theorem pins_any (lt : Nat → Nat → Bool) (HL : ∀ (x y : Nat) (w : World), Calls Tryz.prog 83 #[.int .u32 ((x : Nat) : Int), .int .u32 ((y : Nat) : Int)] w fun e w' => e = .returned (.bool (lt x y)) ∧ w' = w) {B : Nat} {w0 w : World} {ts : List Kt} {g n c : Nat} {d : Array Nat} (h : Sep B w0 w (thS g n c d :: ts)) (a b : Nat) (hab : a < b) (hb : b ≤ n) (hn : n ≤ 1000000000000) :
  Calls Tryz.prog 82 #[.slice (some ⟨g, 0, none⟩) n c, .int .i64 (a : Nat), .int .i64 (b : Nat)] w fun e w' => e = .returned (.bool (Go.Sort.partialInsertionSort lt d a b).2) ∧ Sep B w0 w' (thS g n c (Go.Sort.partialInsertionSort lt d a b).1 :: ts) := by
 have hmx : Tryz.prog.follows .mixedOrders = true := by kernel_rfl
 have hL := Lib.hid HL
 have H0 := Lib.hid h
 obtain ⟨R, hR⟩ : ∃ R, R = Go.Sort.partialInsertionSort lt d a b := ⟨_, rfl⟩
 rw [← hR]
 unfold Go.Sort.partialInsertionSort at hR
 have HR0 := Lib.hid hR
 clear HL h hR
 go_enter Tryz.func82, Tryz.ntmps82
 go_wp2_with fail
 go_loopg [7, 8] 5 (fun gh s t wr => ∃ i j : Nat, s = .int .i64 i ∧ t = .int .i64 j ∧ j + gh = 5 ∧ a + 1 ≤ i ∧ i ≤ b ∧ Hid (∃ dd, Sep B w0 wr (thS g n c dd :: ts) ∧ Go.Sort.partialIns lt a b gh i dd = R))
 case atStart => exact ⟨a + 1, 0, by go_num, rfl, rfl, Nat.le_refl _, by omega, Lib.hid ⟨d, H0.out, HR0.out.symm⟩⟩
 case round =>
  obtain ⟨i, j, rfl, rfl, hjg, hai, hib, HR⟩ := hrel
  clear H0 HR0
  obtain ⟨dd, hs, hd⟩ := HR.out
  cases gk with
  | zero =>
   have hj5 : decide ((j : Int) < 5) = false := decide_eq_false (by omega)
   have hj6 : ¬ (j : Int) < 5 := by omega
   have HF : Hid (R = (dd, false)) := Lib.hid hd.symm
   have HS := Lib.hid hs
   clear hs hd HR
   go_wp2_with fail
   go_ret
   rw [HF.out]
   exact ⟨rfl, HS.out⟩
  | succ s =>
   have hj5 : decide ((j : Int) < 5) = true := decide_eq_true (by omega)
   have hj6 : (j : Int) < 5 := by omega
   rw [Go.Sort.partialIns_succ] at hd
   have hsc := scan_bd lt dd b _ i rfl hib
   obtain ⟨i2, hi2⟩ : ∃ x, x = Go.Sort.scanSorted lt dd b i := ⟨_, rfl⟩
   rw [← hi2] at hd hsc
   have q1 : i ≤ i2 := hsc.1
   have q2 : i2 ≤ b := hsc.2
   have HS : Hid (Sep B w0 wr (thS g n c dd :: ts) ∧ Go.Sort.scanSorted lt dd b i = i2) := Lib.hid ⟨hs, hi2.symm⟩
   have HQ := Lib.hid hd
   clear hs hd hi2 hsc HR
   go_upto_block 2 with fail
   go_cut [7] (fun s7 wx => s7 = .int .i64 i2 ∧ Hid (Sep B w0 wx (thS g n c dd :: ts)))
   case first =>
    go_wp2_with fail
    go_loopg [7] (b - i) (fun gh s wr => ∃ k : Nat, s = .int .i64 k ∧ k + gh = b ∧ i ≤ k ∧ Hid (Sep B w0 wr (thS g n c dd :: ts) ∧ Go.Sort.scanSorted lt dd b k = i2))
    case atStart => exact ⟨i, rfl, by omega, Nat.le_refl _, HS⟩
    case round =>
     obtain ⟨k, rfl, hkb, hik, HR⟩ := hrel
     clear HS
     by_cases hkl : k < b
     case' pos =>
      obtain ⟨m, hm⟩ : ∃ m, k = m + 1 := ⟨k - 1, by omega⟩
      have hq : decide ((k : Int) < (b : Int)) = true := decide_eq_true (by omega)
      have hq' : (k : Int) < (b : Int) := by omega
      obtain ⟨hs, hd⟩ := HR.out
      have hnd := srt_len hs
      have hw : wrap64 ((k : Int) - 1) = (m : Int) := by unfold wrap64; omega
      have k0 : (0 : Int) ≤ (k : Int) := by omega
      have k1 : (k : Int) < (n : Int) := by omega
      have m0 : (0 : Int) ≤ (m : Int) := by omega
      have m1 : (m : Int) < (n : Int) := by omega
      have Hm := Lib.hid hm
      rw [Go.Sort.scanSorted, decide_eq_true hkl, Bool.true_and, show k - 1 = m by omega] at hd
      obtain ⟨x1, hx1⟩ : ∃ x, x = dd[k]! := ⟨_, rfl⟩
      obtain ⟨x2, hx2⟩ : ∃ x, x = dd[m]! := ⟨_, rfl⟩
      have e1 := srt_cell hs (i := k) (by omega)
      have e2 := srt_cell hs (i := m) (by omega)
      rw [← hx1] at e1
      rw [← hx2, show m = k - 1 by omega] at e2
      obtain ⟨r, hr⟩ : ∃ r, r = lt x1 x2 := ⟨_, rfl⟩
      rw [← hx1, ← hx2, ← hr] at hd
      have Hd := Lib.hid hd
      clear hd HR
      have hp := plus_cell wr
      have HC := Lib.hid (fun (y : More) => And.intro (hL.out x1 x2 (plus wr y)) (hs.go (plus_below wr y)))
      rw [← hr] at HC
      have HX := Lib.hid (And.intro hx1 hx2)
      clear hx1 hx2 hr hs hm hnd
      go_wp2_with fail
      refine wp_region_tail_ext 13 (by kernel_rfl) (by kernel_rfl) ?_
      simp only [List.take_succ_cons, List.take_zero, List.drop_succ_cons, List.drop_zero]
      repeat (go_big_quiet_step (fail))
      refine wpQuiet_nil ?_
      rintro w2 ⟨y, rfl⟩
      have HC1 := Lib.hid (HC.out y)
      clear HC e1 e2 hp
      go_wp2_with fail
      refine HC1.out.1.mono ?_
      rintro e wx ⟨rfl, hw3⟩
      have HS : Hid (Sep B w0 wx (thS g n c dd :: ts)) := Lib.hid (by rw [hw3]; exact HC1.out.2)
      clear hw3 HC1
      cases r
      case' false =>
       have hrr : Hid (Sep B w0 wx (thS g n c dd :: ts) ∧ Go.Sort.scanSorted lt dd b (k + 1) = i2) := Lib.hid ⟨HS.out, by have hd := Hd.out; rw [if_pos (by first | rfl | trivial | decide)] at hd; exact hd⟩
       go_wp2_with fail
       go_roundg (b - (k + 1))
       case measure => omega
       case rel => exact ⟨k + 1, by go_num, by omega, by omega, hrr⟩
      case' true =>
       have hki : k = i2 := by
        have hd := Hd.out
        rw [if_neg (by decide)] at hd
        exact hd
     case' neg =>
      have hq : decide ((k : Int) < (b : Int)) = false := decide_eq_false (by omega)
      have hq' : ¬ (k : Int) < (b : Int) := by omega
      have hki : k = i2 := by
       have := HR.out.2
       rw [Go.Sort.scanSorted, if_neg (by simp; intro h; omega)] at this
       exact this
      obtain ⟨hs, -⟩ := HR.out
      have hp := plus_cell wr
      have HS0 := Lib.hid (And.intro hs hki)
      clear hs HR hki
      go_wp2_with fail
      refine wp_region_ext hmx (by kernel_rfl) ?_
      repeat (go_big_quiet_step (fail))
      refine wpQuiet_nil ?_
      rintro wx ⟨y, hwx⟩
      have HS : Hid (Sep B w0 wx (thS g n c dd :: ts)) := Lib.hid (by rw [hwx]; exact HS0.out.1.go (plus_below wr y))
      have hki := HS0.out.2
      clear hwx hp HS0
     all_goals
      rw [hki]
      go_wp2_with fail
      go_meet
      exact ⟨rfl, HS⟩
   case rest =>
    obtain ⟨rfl, HS⟩ := hcut
    by_cases hib2 : i2 = b
    ·have hg : ((i2 : Int) == (b : Int)) = true := beq_iff_eq.2 (by omega)
     have HF : Hid (R = (dd, true)) := Lib.hid (by have := HQ.out; rw [if_pos hib2] at this; exact this.symm)
     clear hib2
     go_wp2_with fail
     go_ret
     rw [HF.out]
     exact ⟨rfl, HS.out⟩
    ·have hg : ((i2 : Int) == (b : Int)) = false := beq_eq_false_iff_ne.2 (by omega)
     have hg1 : ¬ (i2 : Int) = (b : Int) := by omega
     have hib3 : i2 < b := by omega
     by_cases h50 : b - a < 50
     ·have hg2 : decide ((b : Int) - (a : Int) < 50) = true := decide_eq_true (by omega)
      have hg3 : (b : Int) - (a : Int) < 50 := by omega
      have HF : Hid (R = (dd, false)) := Lib.hid (by have := HQ.out; rw [if_neg hib2, if_pos h50] at this; exact this.symm)
      clear hib2 h50
      go_wp2_with fail
      go_ret
      rw [HF.out]
      exact ⟨rfl, HS.out⟩
     ·have hg2 : decide ((b : Int) - (a : Int) < 50) = false := decide_eq_false (by omega)
      have hg3 : ¬ (b : Int) - (a : Int) < 50 := by omega
      have HF := Lib.hid (by have := HQ.out; rw [if_neg hib2, if_neg h50] at this; exact this)
      clear hib2 h50 HQ
      obtain ⟨k, hk⟩ : ∃ k, k = i2 := ⟨_, rfl⟩
      rw [← hk] at HF hg hg1 hib3 q1 q2 ⊢
      clear hk
      obtain ⟨m, hm⟩ : ∃ m, k = m + 1 := ⟨k - 1, by omega⟩
      obtain ⟨wx, hwx⟩ : ∃ W, W = wc := ⟨_, rfl⟩
      rw [← hwx] at HS ⊢
      clear hwx
      have hw : wrap64 ((k : Int) - 1) = (m : Int) := by unfold wrap64; omega
      have k0 : (0 : Int) ≤ (k : Int) := by omega
      have k1 : (k : Int) < (n : Int) := by omega
      have m0 : (0 : Int) ≤ (m : Int) := by omega
      have m1 : (m : Int) < (n : Int) := by omega
      have Hm := Lib.hid hm
      clear hm
      have hs := HS.out
      have hnd := srt_len hs
      have hm := Hm.out
      obtain ⟨y1, hy1⟩ : ∃ x, x = dd[k]! := ⟨_, rfl⟩
      obtain ⟨y2, hy2⟩ : ∃ x, x = dd[m]! := ⟨_, rfl⟩
      have e1 := srt_cell hs (i := k) (by omega)
      have e2 := srt_cell hs (i := m) (by omega)
      have f1 := srt_froz hs k
      have f2 := srt_froz hs (k - 1)
      rw [← hy1] at e1
      rw [← hy2, show m = k - 1 by omega] at e2
      have h4 := srt_swp hs k m
      rw [← hy1, ← hy2, show m = k - 1 by omega] at h4
      have H4 : Hid (Sep B w0 _ (thS g n c (Go.Sort.swp dd k (k - 1)) :: ts)) := Lib.hid (h4.go (Below.refl _ _).drew)
      have hp := plus_cell wx
      clear hs hnd hy1 hy2 h4 hm HS
      go_wp2_with fail
      go_region
      obtain ⟨wz, hwz⟩ : ∃ W, W = ((wx.setCell ⟨g, k, none⟩ (.int .u32 ((y2 : Nat) : Int))).setCell ⟨g, k - 1, none⟩ (.int .u32 ((y1 : Nat) : Int))).drew := ⟨_, rfl⟩
      rw [← hwz] at H4 ⊢
      clear hwz e1 e2 f1 f2 hp
      obtain ⟨d1, hd1⟩ : ∃ x, x = Go.Sort.swp dd k (k - 1) := ⟨_, rfl⟩
      rw [← hd1] at H4 HF
      clear hd1 hw
      obtain ⟨d2, hd2⟩ : ∃ x, x = Go.Sort.fixDown lt a k d1 := ⟨_, rfl⟩
      rw [← hd2] at HF
      have HD2 := Lib.hid hd2
      clear hd2
      go_upto_if 61 with fail
      go_cut [9] (fun s9 wx => Hid (Sep B w0 wx (thS g n c d2 :: ts)))
      case first =>
       by_cases h2 : k - a ≥ 2
       ·have hg4 : decide ((2 : Int) ≤ (k : Int) - (a : Int)) = true := decide_eq_true (by omega)
        have hg5 : (2 : Int) ≤ (k : Int) - (a : Int) := by omega
        have HI : Hid (Sep B w0 wz (thS g n c d1 :: ts) ∧ Go.Sort.shiftDown lt m d1 = d2) := Lib.hid ⟨H4.out, by have := HD2.out; unfold Go.Sort.fixDown at this; rw [if_pos h2, show k - 1 = m by have := Hm.out; omega] at this; exact this.symm⟩
        have hmi : (k : Int) - 1 = (m : Int) := by have := Hm.out; omega
        have hmn : m < n := by have := Hm.out; omega
        clear HD2 H4 h2
        rw [hg4]
        go_wp2_with fail
        clear hmi
        go_loopg [9] m (fun gh s wr => ∃ k : Nat, s = .int .i64 k ∧ k = gh ∧ k ≤ m ∧ Hid (∃ dd, Sep B w0 wr (thS g n c dd :: ts) ∧ Go.Sort.shiftDown lt k dd = d2))
        case atStart => exact ⟨m, by first | rfl | go_num, rfl, Nat.le_refl _, Lib.hid ⟨_, HI.out⟩⟩
        case round =>
         obtain ⟨k5, rfl, hkg, hkm, HR⟩ := hrel
         clear HI
         obtain ⟨dd, hs, hd⟩ := HR.out
         cases gk with
         | zero =>
          have hq : decide ((1 : Int) ≤ (k5 : Int)) = false := decide_eq_false (by omega)
          have hq' : ¬ (1 : Int) ≤ (k5 : Int) := by omega
          rw [hkg] at hd
          have hdd : dd = d2 := hd
          rw [hdd] at hs
          have HS := Lib.hid hs
          clear hs hd hdd HR hkg
          go_wp2_with fail
          go_meet
          exact HS
         | succ m5 =>
          have hm5 : k5 = m5 + 1 := hkg
          clear hkg
          have hq : decide ((1 : Int) ≤ (k5 : Int)) = true := decide_eq_true (by omega)
          have hq' : (1 : Int) ≤ (k5 : Int) := by omega
          have hnd := srt_len hs
          have hw : wrap64 ((k5 : Int) - 1) = (m5 : Int) := by unfold wrap64; omega
          have k0 : (0 : Int) ≤ (k5 : Int) := by omega
          have k1 : (k5 : Int) < (n : Int) := by omega
          have m0 : (0 : Int) ≤ (m5 : Int) := by omega
          have m1 : (m5 : Int) < (n : Int) := by omega
          have Hm5 : Hid (k5 = m5 + 1) := Lib.hid hm5
          rw [hm5, shiftDown_eq, ← hm5] at hd
          clear HR
          obtain ⟨x1, hx1⟩ : ∃ x, x = dd[k5]! := ⟨_, rfl⟩
          obtain ⟨x2, hx2⟩ : ∃ x, x = dd[m5]! := ⟨_, rfl⟩
          have e1 := srt_cell hs (i := k5) (by omega)
          have e2 := srt_cell hs (i := m5) (by omega)
          rw [← hx1] at e1
          rw [← hx2, show m5 = k5 - 1 by omega] at e2
          obtain ⟨r, hr⟩ : ∃ r, r = lt x1 x2 := ⟨_, rfl⟩
          rw [← hx1, ← hx2, ← hr] at hd
          have Hd := Lib.hid hd
          clear hd
          have hp := plus_cell wr
          have HC := Lib.hid (fun (y : More) => And.intro (hL.out x1 x2 (plus wr y)) (hs.go (plus_below wr y)))
          rw [← hr] at HC
          have HX := Lib.hid (And.intro hx1 hx2)
          clear hx1 hx2 hr hs hm5 hnd
          go_wp2_with fail
          refine wp_region_tail_ext 9 (by kernel_rfl) (by kernel_rfl) ?_
          simp only [List.take_succ_cons, List.take_zero, List.drop_succ_cons, List.drop_zero]
          repeat (go_big_quiet_step (fail))
          refine wpQuiet_nil ?_
          rintro w2 ⟨y, rfl⟩
          have HC1 := Lib.hid (HC.out y)
          clear HC e1 e2 hp
          go_wp2_with fail
          refine HC1.out.1.mono ?_
          rintro e wx ⟨rfl, hw3⟩
          have HS : Hid (Sep B w0 wx (thS g n c dd :: ts)) := Lib.hid (by rw [hw3]; exact HC1.out.2)
          clear hw3 HC1
          cases r
          ·have hdd : Hid (dd = d2) := Lib.hid (by have hd := Hd.out; rw [if_pos (by first | rfl | trivial | decide)] at hd; exact hd)
           have HS2 : Hid (Sep B w0 wx (thS g n c d2 :: ts)) := Lib.hid (by rw [← hdd.out]; exact HS.out)
           clear HS
           go_wp2_with fail
           go_meet
           exact HS2
          ·have Hd2 := Lib.hid (by have hd := Hd.out; rw [if_neg (by decide)] at hd; exact hd)
           clear Hd
           have hs := HS.out
           have hnd := srt_len hs
           have hm5 := Hm5.out
           obtain ⟨y1, hy1⟩ : ∃ x, x = dd[k5]! := ⟨_, rfl⟩
           obtain ⟨y2, hy2⟩ : ∃ x, x = dd[m5]! := ⟨_, rfl⟩
           have e1 := srt_cell hs (i := k5) (by omega)
           have e2 := srt_cell hs (i := m5) (by omega)
           have f1 := srt_froz hs k5
           have f2 := srt_froz hs (k5 - 1)
           rw [← hy1] at e1
           rw [← hy2, show m5 = k5 - 1 by omega] at e2
           have h4 := srt_swp hs k5 m5
           rw [← hy1, ← hy2, show m5 = k5 - 1 by omega] at h4
           have H4 : Hid (Sep B w0 _ (thS g n c (Go.Sort.swp dd k5 (k5 - 1)) :: ts)) := Lib.hid (h4.go (Below.refl _ _).drew)
           have hp := plus_cell wx
           clear hs hnd hy1 hy2 h4 hm5 HS
           go_wp2_with fail
           go_region
           obtain ⟨wz, hwz⟩ : ∃ W, W = ((wx.setCell ⟨g, k5, none⟩ (.int .u32 ((y2 : Nat) : Int))).setCell ⟨g, k5 - 1, none⟩ (.int .u32 ((y1 : Nat) : Int))).drew := ⟨_, rfl⟩
           rw [← hwz] at H4 ⊢
           clear hwz e1 e2 f1 f2 hp
           go_wp2_with fail
           go_roundg m5
           case measure => omega
           case rel => exact ⟨m5, by rw [show ((k5 : Int) - 1) = (m5 : Int) by have := Hm5.out; omega], rfl, by have := Hm5.out; omega, Lib.hid ⟨_, H4.out, by have := Hd2.out; rw [show m5 = k5 - 1 by have := Hm5.out; omega] at this ⊢; exact this⟩⟩
       ·have hg4 : decide ((2 : Int) ≤ (k : Int) - (a : Int)) = false := decide_eq_false (by omega)
        have hg5 : ¬ (2 : Int) ≤ (k : Int) - (a : Int) := by omega
        have HS2 : Hid (Sep B w0 wz (thS g n c d2 :: ts)) := Lib.hid (by have := HD2.out; unfold Go.Sort.fixDown at this; rw [if_neg h2] at this; rw [this]; exact H4.out)
        clear HD2 H4 h2
        go_wp2_with fail
        go_meet
        exact HS2
      case rest =>
       have HS := hcut
       clear hcut H4 HD2
       obtain ⟨d3, hd3⟩ : ∃ x, x = Go.Sort.fixUp lt b k d2 := ⟨_, rfl⟩
       rw [← hd3] at HF
       have HD3 := Lib.hid hd3
       clear hd3
       by_cases h2 : b - k ≥ 2
       ·have hg4 : decide ((2 : Int) ≤ (b : Int) - (k : Int)) = true := decide_eq_true (by omega)
        have hg5 : (2 : Int) ≤ (b : Int) - (k : Int) := by omega
        have HI : Hid (Sep B w0 wc (thS g n c d2 :: ts) ∧ Go.Sort.shiftUp lt b (k + 1) d2 = d3) := Lib.hid ⟨HS.out, by have := HD3.out; unfold Go.Sort.fixUp at this; rw [if_pos h2] at this; exact this.symm⟩
        clear HD3 HS h2
        go_wp2_with fail
        go_loopg [10] (b - (k + 1)) (fun gh s wr => ∃ k : Nat, s = .int .i64 k ∧ k + gh = b ∧ 1 ≤ k ∧ Hid (∃ dd, Sep B w0 wr (thS g n c dd :: ts) ∧ Go.Sort.shiftUp lt b k dd = d3))
        case atStart => exact ⟨k + 1, by go_num, by omega, by omega, Lib.hid ⟨_, HI.out⟩⟩
        case round =>
         obtain ⟨k5, rfl, hkg, hkm, HR⟩ := hrel
         clear HI
         obtain ⟨dd, hs, hd⟩ := HR.out
         rw [shiftUp_eq] at hd
         by_cases hkb : k5 < b
         ·obtain ⟨m5, hm5⟩ : ∃ m5, k5 = m5 + 1 := ⟨k5 - 1, by omega⟩
          have hq : decide ((k5 : Int) < (b : Int)) = true := decide_eq_true (by omega)
          have hq' : (k5 : Int) < (b : Int) := by omega
          have hnd := srt_len hs
          have hw : wrap64 ((k5 : Int) - 1) = (m5 : Int) := by unfold wrap64; omega
          have k0 : (0 : Int) ≤ (k5 : Int) := by omega
          have k1 : (k5 : Int) < (n : Int) := by omega
          have m0 : (0 : Int) ≤ (m5 : Int) := by omega
          have m1 : (m5 : Int) < (n : Int) := by omega
          have Hm5 : Hid (k5 = m5 + 1) := Lib.hid hm5
          rw [if_pos hkb, show k5 - 1 = m5 by omega] at hd
          clear HR
          obtain ⟨x1, hx1⟩ : ∃ x, x = dd[k5]! := ⟨_, rfl⟩
          obtain ⟨x2, hx2⟩ : ∃ x, x = dd[m5]! := ⟨_, rfl⟩
          have e1 := srt_cell hs (i := k5) (by omega)
          have e2 := srt_cell hs (i := m5) (by omega)
          rw [← hx1] at e1
          rw [← hx2, show m5 = k5 - 1 by omega] at e2
          obtain ⟨r, hr⟩ : ∃ r, r = lt x1 x2 := ⟨_, rfl⟩
          rw [← hx1, ← hx2, ← hr] at hd
          have Hd := Lib.hid hd
          clear hd
          have hp := plus_cell wr
          have HC := Lib.hid (fun (y : More) => And.intro (hL.out x1 x2 (plus wr y)) (hs.go (plus_below wr y)))
          rw [← hr] at HC
          have HX := Lib.hid (And.intro hx1 hx2)
          clear hx1 hx2 hr hs hm5 hnd
          go_wp2_with fail
          refine wp_region_tail_ext 9 (by kernel_rfl) (by kernel_rfl) ?_
          simp only [List.take_succ_cons, List.take_zero, List.drop_succ_cons, List.drop_zero]
          repeat (go_big_quiet_step (fail))
          refine wpQuiet_nil ?_
          rintro w2 ⟨y, rfl⟩
          have HC1 := Lib.hid (HC.out y)
          clear HC e1 e2 hp
          go_wp2_with fail
          refine HC1.out.1.mono ?_
          rintro e wx ⟨rfl, hw3⟩
          have HS : Hid (Sep B w0 wx (thS g n c dd :: ts)) := Lib.hid (by rw [hw3]; exact HC1.out.2)
          clear hw3 HC1
          cases r
          ·have hdd : Hid (dd = d3) := Lib.hid (by have hd := Hd.out; rw [if_pos (by first | rfl | trivial | decide)] at hd; exact hd)
           have HS2 : Hid (Sep B w0 wx (thS g n c d3 :: ts)) := Lib.hid (by rw [← hdd.out]; exact HS.out)
           clear HS
           go_wp2_with fail
           go_roundg s
           case measure => omega
           case rel => exact ⟨k, j + 1, rfl, by go_num, by omega, by omega, by omega, Lib.hid ⟨_, HS2.out, HF.out⟩⟩
          ·have Hd2 := Lib.hid (by have hd := Hd.out; rw [if_neg (by decide)] at hd; exact hd)
           clear Hd
           have hs := HS.out
           have hnd := srt_len hs
           have hm5 := Hm5.out
           obtain ⟨y1, hy1⟩ : ∃ x, x = dd[k5]! := ⟨_, rfl⟩
           obtain ⟨y2, hy2⟩ : ∃ x, x = dd[m5]! := ⟨_, rfl⟩
           have e1 := srt_cell hs (i := k5) (by omega)
           have e2 := srt_cell hs (i := m5) (by omega)
           have f1 := srt_froz hs k5
           have f2 := srt_froz hs (k5 - 1)
           rw [← hy1] at e1
           rw [← hy2, show m5 = k5 - 1 by omega] at e2
           have h4 := srt_swp hs k5 m5
           rw [← hy1, ← hy2, show m5 = k5 - 1 by omega] at h4
           have H4 : Hid (Sep B w0 _ (thS g n c (Go.Sort.swp dd k5 (k5 - 1)) :: ts)) := Lib.hid (h4.go (Below.refl _ _).drew)
           have hp := plus_cell wx
           clear hs hnd hy1 hy2 h4 hm5 HS
           go_wp2_with fail
           go_region
           obtain ⟨wz, hwz⟩ : ∃ W, W = ((wx.setCell ⟨g, k5, none⟩ (.int .u32 ((y2 : Nat) : Int))).setCell ⟨g, k5 - 1, none⟩ (.int .u32 ((y1 : Nat) : Int))).drew := ⟨_, rfl⟩
           rw [← hwz] at H4 ⊢
           clear hwz e1 e2 f1 f2 hp
           go_wp2_with fail
           go_roundg (b - (k5 + 1))
           case measure => omega
           case rel => exact ⟨k5 + 1, by go_num, by omega, by omega, Lib.hid ⟨_, H4.out, by have := Hd2.out; rw [show m5 = k5 - 1 by have := Hm5.out; omega] at this; exact this⟩⟩
         ·have hq : decide ((k5 : Int) < (b : Int)) = false := decide_eq_false (by omega)
          have hq' : ¬ (k5 : Int) < (b : Int) := by omega
          rw [if_neg hkb] at hd
          rw [hd] at hs
          have HS := Lib.hid hs
          clear hs hd HR
          go_wp2_with fail
          go_roundg s
          case measure => omega
          case rel => exact ⟨k, j + 1, rfl, by go_num, by omega, by omega, by omega, Lib.hid ⟨_, HS.out, HF.out⟩⟩
       ·have hg4 : decide ((2 : Int) ≤ (b : Int) - (k : Int)) = false := decide_eq_false (by omega)
        have hg5 : ¬ (2 : Int) ≤ (b : Int) - (k : Int) := by omega
        have HS2 : Hid (Sep B w0 wc (thS g n c d3 :: ts)) := Lib.hid (by have := HD3.out; unfold Go.Sort.fixUp at this; rw [if_neg h2] at this; rw [this]; exact HS.out)
        clear HD3 HS h2
        go_wp2_with fail
        go_roundg s
        case measure => omega
        case rel => exact ⟨k, j + 1, rfl, by go_num, by omega, by omega, by omega, Lib.hid ⟨_, HS2.out, HF.out⟩⟩
end Go.Proofs.YtmcdollkmlcpbaaGreatDoor
