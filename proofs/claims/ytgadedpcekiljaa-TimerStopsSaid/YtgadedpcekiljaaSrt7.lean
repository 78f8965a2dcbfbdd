/- slices.Sort at []uint32: partitionEqualOrdered. -/
import Derived.Test.YtgadedpcekiljaaSrt6
set_option linter.unusedSimpArgs false
set_option linter.unusedVariables false
namespace Go.Proofs.Ytgadedpcekiljaa
open Go.RowKit
set_option maxRecDepth 100000

theorem size_part {α : Type} [Inhabited α] (d : Array α) (i j : Nat) : (Go.Sort.swp d i j).size = d.size := by unfold Go.Sort.swp; simp
set_option maxHeartbeats 16000000 in
theorem peq_any (lt : Nat → Nat → Bool) (HL : ∀ (x y : Nat) (w : World), Calls Try.prog 32 #[.int .u32 ((x : Nat) : Int), .int .u32 ((y : Nat) : Int)] w fun e w' => e = .returned (.bool (lt x y)) ∧ w' = w) {B : Nat} {w0 w : World} {ts : List Kt} {g n c : Nat} {d : Array Nat} (h : Sep B w0 w (thS g n c d :: ts)) (a b pv : Nat) (hab : a < b) (hpv : pv < n) (hb : b ≤ n) (hn : n ≤ 1000000000000) :
    Calls Try.prog 33 #[.slice (some ⟨g, 0, none⟩) n c, .int .i64 (a : Nat), .int .i64 (b : Nat), .int .i64 (pv : Nat)] w fun e w' => e = .returned (.int .i64 ((Go.Sort.partitionEqual lt d a b pv).1 : Nat)) ∧ Sep B w0 w' (thS g n c (Go.Sort.partitionEqual lt d a b pv).2 :: ts) := by
  have hmx : Try.prog.follows .mixedOrders = true := by kernel_rfl
  have hL := Lib.hid HL
  have hnd := srt_len h
  have a0 : (0 : Int) ≤ (a : Int) := by omega
  have a1 : (a : Int) < (n : Int) := by omega
  have p0 : (0 : Int) ≤ (pv : Int) := by omega
  have p1 : (pv : Int) < (n : Int) := by omega
  obtain ⟨x1, hx1⟩ : ∃ x, x = d[a]! := ⟨_, rfl⟩
  obtain ⟨x2, hx2⟩ : ∃ x, x = d[pv]! := ⟨_, rfl⟩
  have e1 := srt_cell h (i := a) (by omega)
  have e2 := srt_cell h (i := pv) (by omega)
  have f1 := srt_froz h a
  have f2 := srt_froz h pv
  rw [← hx1] at e1
  rw [← hx2] at e2
  have e3 := srt_cell (srt_set h a x2) (i := pv) (by simp; omega)
  have f3 := srt_froz (srt_set h a x2) pv
  obtain ⟨x3, hx3⟩ : ∃ x, x = (d.setIfInBounds a x2)[pv]! := ⟨_, rfl⟩
  rw [← hx3] at e3
  have h4 := srt_swp h a pv
  rw [← hx1, ← hx2] at h4
  have H0 := Lib.hid (h4.go (Below.refl _ _).drew)
  obtain ⟨R, hR⟩ : ∃ R, R = Go.Sort.partitionEqual lt d a b pv := ⟨_, rfl⟩
  rw [← hR]
  unfold Go.Sort.partitionEqual at hR
  have HR0 := Lib.hid hR
  clear HL h hx1 hx2 hx3 h4 hR hnd
  go_enter Try.func33, Try.ntmps33
  go_wp2_with fail
  go_region
  obtain ⟨wz, hwz⟩ : ∃ W, W = ((w.setCell ⟨g, a, none⟩ (.int .u32 ((x2 : Nat) : Int))).setCell ⟨g, pv, none⟩ (.int .u32 ((x1 : Nat) : Int))).drew := ⟨_, rfl⟩
  rw [← hwz] at H0 ⊢
  clear hwz e1 e2 e3 f1 f2 f3
  go_wp2_with fail
  go_loopw [9, 10] (fun s t wr => ∃ i j : Nat, s = .int .i64 i ∧ t = .int .i64 j ∧ a + 1 ≤ i ∧ i ≤ j + 1 ∧ j < b ∧ Hid (∃ dd, Sep B w0 wr (thS g n c dd :: ts) ∧ Go.Sort.partEqLoop lt a i j dd = R)) (fun s t _ => (intOf t + 1 - intOf s).toNat)
  case atStart => exact ⟨a + 1, b - 1, by go_num, by rw [show ((b - 1 : Nat) : Int) = (b : Int) - 1 by omega], Nat.le_refl _, by omega, by omega, Lib.hid ⟨_, H0.out, HR0.out.symm⟩⟩
  case round =>
    obtain ⟨i, j, rfl, rfl, hai, hij, hjb, HR⟩ := hrel
    clear H0 HR0
    obtain ⟨dd, hs, hd⟩ := HR.out
    rw [Go.Sort.partEqLoop_eq] at hd
    obtain ⟨P, hP⟩ : ∃ P, P = fun x => !lt dd[a]! x := ⟨_, rfl⟩
    obtain ⟨Q, hQ⟩ : ∃ Q, Q = fun x => lt dd[a]! x := ⟨_, rfl⟩
    have hPd : ∀ x, P x = !lt dd[a]! x := fun x => by rw [hP]
    have hQd : ∀ x, Q x = lt dd[a]! x := fun x => by rw [hQ]
    rw [← hP, ← hQ] at hd
    clear hP hQ
    have sp1 := Go.Sort.scanUp_spec P dd j _ i rfl
    obtain ⟨i2, hi2⟩ : ∃ i2, i2 = Go.Sort.scanUp P dd j i := ⟨_, rfl⟩
    rw [← hi2] at hd sp1
    have sp2 := Go.Sort.scanDown_spec Q dd i2 j
    obtain ⟨j2, hj2⟩ : ∃ j2, j2 = Go.Sort.scanDown Q dd i2 j := ⟨_, rfl⟩
    rw [← hj2] at hd sp2
    have q1 : i ≤ i2 := sp1.1
    have q2 : i2 ≤ j + 1 := sp1.2.1 hij
    have q3 : j2 ≤ j := sp2.1
    have q4 : i2 ≤ j2 + 1 := sp2.2.1 (by omega)
    have q5 : i2 ≤ j2 → i2 < j2 := fun h => by
      rcases Nat.lt_or_ge i2 j2 with h1 | h1
      · exact h1
      · have h2 : i2 = j2 := by omega
        have t1 := sp1.2.2.2 (by omega)
        have t2 := sp2.2.2.2 h (by omega)
        rw [← h2, hQd] at t2
        rw [hPd] at t1
        simp at t1
        rw [t1] at t2
        cases t2
    have HS : Hid (Sep B w0 wr (thS g n c dd :: ts) ∧ Go.Sort.scanUp P dd j i = i2) := Lib.hid ⟨hs, hi2.symm⟩
    have HQ := Lib.hid (And.intro hd (And.intro hj2.symm q5))
    clear hs hd hi2 hj2 sp1 sp2 q5 HR
    go_wp2_with fail
    go_loopw [9] (fun s wr => ∃ k : Nat, s = .int .i64 k ∧ i ≤ k ∧ k ≤ j + 1 ∧ Hid (Sep B w0 wr (thS g n c dd :: ts) ∧ Go.Sort.scanUp P dd j k = i2)) (fun s _ => j + 1 - (intOf s).toNat)
    case atStart => exact ⟨i, rfl, Nat.le_refl _, by omega, HS⟩
    case round =>
      obtain ⟨k, rfl, hk1, hk2, HR⟩ := hrel
      clear HS
      by_cases hkj : k ≤ j
      case' pos =>
        have hq : decide ((k : Int) ≤ (j : Int)) = true := decide_eq_true (by omega)
        have hq' : (k : Int) ≤ (j : Int) := by omega
        have a0 : (0 : Int) ≤ (a : Int) := by omega
        have a1 : (a : Int) < (n : Int) := by omega
        have k0 : (0 : Int) ≤ (k : Int) := by omega
        have k1 : (k : Int) < (n : Int) := by omega
        obtain ⟨hs, hd⟩ := HR.out
        have hnd := srt_len hs
        obtain ⟨xa, hxa⟩ : ∃ x, x = dd[a]! := ⟨_, rfl⟩
        obtain ⟨xk, hxk⟩ : ∃ x, x = dd[k]! := ⟨_, rfl⟩
        have e1 := srt_cell hs (i := a) (by omega)
        have e2 := srt_cell hs (i := k) (by omega)
        rw [← hxa] at e1
        rw [← hxk] at e2
        rw [Go.Sort.scanUp, decide_eq_true hkj, Bool.true_and, hPd] at hd
        rw [← hxa, ← hxk] at hd
        obtain ⟨r, hr⟩ : ∃ r, r = lt xa xk := ⟨_, rfl⟩
        rw [← hr] at hd
        have hp := plus_cell wr
        have HC := Lib.hid (fun (y : More) => And.intro (hL.out xa xk (plus wr y)) (hs.go (plus_below wr y)))
        rw [← hr] at HC
        have Hd := Lib.hid hd
        skip
        skip
        clear hs hd hnd hxa hxk hr HR
        go_wp2_with fail
        refine wp_region_tail_ext 12 (by kernel_rfl) (by kernel_rfl) ?_
        simp only [List.take_succ_cons, List.take_zero, List.drop_succ_cons, List.drop_zero]
        repeat (go_big_quiet_step (fail))
        refine wpQuiet_nil ?_
        rintro w2 ⟨y, rfl⟩
        have HC1 := Lib.hid (HC.out y)
        clear HC e1 e2 hp
        go_wp2_with fail
        refine HC1.out.1.mono ?_
        rintro e wx ⟨rfl, hw3⟩
        have HS : Hid (Sep B w0 wx (thS g n c dd :: ts)) := Lib.hid (by rw [hw3]; exact HC1.out.2)
        clear hw3 HC1
        cases r
        case' false =>
          have hd := Hd.out
          rw [if_pos (by first | rfl | trivial | decide)] at hd
          skip
          have hrr := Lib.hid (And.intro HS.out hd)
          clear hd
          skip
          go_wp2_with fail
          go_roundw
          case measure => simp [intOf]; omega
          case rel => exact ⟨k + 1, by go_num, by omega, by omega, hrr⟩
        case' true =>
          have hki : k = i2 := by
            have hd := Hd.out
            rw [if_neg (by decide)] at hd
            exact hd
      case' neg =>
        have hq : decide ((k : Int) ≤ (j : Int)) = false := decide_eq_false (by omega)
        have hq' : ¬ (k : Int) ≤ (j : Int) := by omega
        have hki : k = i2 := by
          have := HR.out.2
          rw [Go.Sort.scanUp, if_neg (by simp; intro h; omega)] at this
          exact this
        obtain ⟨hs, -⟩ := HR.out
        have hp := plus_cell wr
        have HS0 := Lib.hid (And.intro hs hki)
        clear hs HR hki
        go_wp2_with fail
        refine wp_region_ext hmx (by kernel_rfl) ?_
        repeat (go_big_quiet_step (fail))
        refine wpQuiet_nil ?_
        rintro wx ⟨y, hwx⟩
        have HS : Hid (Sep B w0 wx (thS g n c dd :: ts)) := Lib.hid (by rw [hwx]; exact HS0.out.1.go (plus_below wr y))
        have hki := HS0.out.2
        clear hwx hp HS0
      all_goals
        rw [hki]
        clear hki hk1 hk2
        replace HS : Hid (Sep B w0 wx (thS g n c dd :: ts) ∧ Go.Sort.scanDown Q dd i2 j = j2) := Lib.hid ⟨HS.out, HQ.out.2.1⟩
        go_wp2_with fail
        go_loopw [10] (fun s wr => ∃ k : Nat, s = .int .i64 k ∧ k ≤ j ∧ i2 ≤ k + 1 ∧ Hid (Sep B w0 wr (thS g n c dd :: ts) ∧ Go.Sort.scanDown Q dd i2 k = j2)) (fun s _ => (intOf s).toNat)
        case atStart => exact ⟨j, rfl, Nat.le_refl _, by omega, HS⟩
        case round =>
          obtain ⟨k, rfl, hk1, hk2, HR⟩ := hrel
          clear HS
          by_cases hkj : i2 ≤ k
          case' pos =>
            have hq : decide ((i2 : Int) ≤ (k : Int)) = true := decide_eq_true (by omega)
            have hq' : (i2 : Int) ≤ (k : Int) := by omega
            have a0 : (0 : Int) ≤ (a : Int) := by omega
            have a1 : (a : Int) < (n : Int) := by omega
            have k0 : (0 : Int) ≤ (k : Int) := by omega
            have k1 : (k : Int) < (n : Int) := by omega
            obtain ⟨hs, hd⟩ := HR.out
            have hnd := srt_len hs
            obtain ⟨xa, hxa⟩ : ∃ x, x = dd[a]! := ⟨_, rfl⟩
            obtain ⟨xk, hxk⟩ : ∃ x, x = dd[k]! := ⟨_, rfl⟩
            have e1 := srt_cell hs (i := a) (by omega)
            have e2 := srt_cell hs (i := k) (by omega)
            rw [← hxa] at e1
            rw [← hxk] at e2
            obtain ⟨k', hk'⟩ : ∃ k', k = k' + 1 := ⟨k - 1, by omega⟩
            rw [hk', Go.Sort.scanDown, ← hk', decide_eq_true hkj, Bool.true_and, hQd] at hd
            rw [← hxa, ← hxk] at hd
            obtain ⟨r, hr⟩ : ∃ r, r = lt xa xk := ⟨_, rfl⟩
            rw [← hr] at hd
            have hp := plus_cell wr
            have HC := Lib.hid (fun (y : More) => And.intro (hL.out xa xk (plus wr y)) (hs.go (plus_below wr y)))
            rw [← hr] at HC
            have Hd := Lib.hid hd
            have Hk := Lib.hid hk'
            clear hk'
            clear hs hd hnd hxa hxk hr HR
            go_wp2_with fail
            refine wp_region_tail_ext 12 (by kernel_rfl) (by kernel_rfl) ?_
            simp only [List.take_succ_cons, List.take_zero, List.drop_succ_cons, List.drop_zero]
            repeat (go_big_quiet_step (fail))
            refine wpQuiet_nil ?_
            rintro w2 ⟨y, rfl⟩
            have HC1 := Lib.hid (HC.out y)
            clear HC e1 e2 hp
            go_wp2_with fail
            refine HC1.out.1.mono ?_
            rintro e wx ⟨rfl, hw3⟩
            have HS : Hid (Sep B w0 wx (thS g n c dd :: ts)) := Lib.hid (by rw [hw3]; exact HC1.out.2)
            clear hw3 HC1
            cases r
            case' true =>
              have hd := Hd.out
              rw [if_pos (by first | rfl | trivial | decide)] at hd
              have hk' := Hk.out
              have hrr := Lib.hid (And.intro HS.out hd)
              clear hd
              clear hk'
              go_wp2_with fail
              go_roundw
              case measure => simp [intOf]; have := Hk.out; omega
              case rel => exact ⟨k', by rw [show ((k : Int) - 1) = (k' : Int) by have := Hk.out; omega], by have := Hk.out; omega, by have := Hk.out; omega, hrr⟩
            case' false =>
              have hki : k = j2 := by
                have hd := Hd.out
                rw [if_neg (by decide)] at hd
                exact hd
          case' neg =>
            have hq : decide ((i2 : Int) ≤ (k : Int)) = false := decide_eq_false (by omega)
            have hq' : ¬ (i2 : Int) ≤ (k : Int) := by omega
            have hki : k = j2 := by
              have := HR.out.2
              cases k with
              | zero => exact this
              | succ k => rw [Go.Sort.scanDown, if_neg (by simp; intro h; omega)] at this; exact this
            obtain ⟨hs, -⟩ := HR.out
            have hp := plus_cell wr
            have HS0 := Lib.hid (And.intro hs hki)
            clear hs HR hki
            go_wp2_with fail
            refine wp_region_ext hmx (by kernel_rfl) ?_
            repeat (go_big_quiet_step (fail))
            refine wpQuiet_nil ?_
            rintro wx ⟨y, hwx⟩
            have HS : Hid (Sep B w0 wx (thS g n c dd :: ts)) := Lib.hid (by rw [hwx]; exact HS0.out.1.go (plus_below wr y))
            have hki := HS0.out.2
            clear hwx hp HS0
          all_goals
            rw [hki]
            clear hki hk1 hk2
            by_cases hgt : i2 > j2
            · have hg : decide ((j2 : Int) < (i2 : Int)) = true := decide_eq_true (by omega)
              have hg' : (j2 : Int) < (i2 : Int) := by omega
              have HF : Hid (R = (i2, dd)) := Lib.hid (by
                have := HQ.out.1
                rw [if_pos hgt] at this
                exact this.symm)
              clear hgt
              go_wp2_with fail
              go_ret
              rw [HF.out]
              exact ⟨rfl, HS.out⟩
            · have hg : decide ((j2 : Int) < (i2 : Int)) = false := decide_eq_false (by omega)
              have hg' : ¬ (j2 : Int) < (i2 : Int) := by omega
              have q6 : i2 < j2 := HQ.out.2.2 (by omega)
              have HF : Hid (Go.Sort.partEqLoop lt a (i2 + 1) (j2 - 1) (Go.Sort.swp dd i2 j2) = R) := Lib.hid (by
                have := HQ.out.1
                rw [if_neg hgt] at this
                exact this)
              have hs := HS.out
              have hnd := srt_len hs
              have i0 : (0 : Int) ≤ (i2 : Int) := by omega
              have i1 : (i2 : Int) < (n : Int) := by omega
              have j0 : (0 : Int) ≤ (j2 : Int) := by omega
              have j1 : (j2 : Int) < (n : Int) := by omega
              obtain ⟨y1, hy1⟩ : ∃ x, x = dd[i2]! := ⟨_, rfl⟩
              obtain ⟨y2, hy2⟩ : ∃ x, x = dd[j2]! := ⟨_, rfl⟩
              have e1 := srt_cell hs (i := i2) (by omega)
              have e2 := srt_cell hs (i := j2) (by omega)
              have f1 := srt_froz hs i2
              have f2 := srt_froz hs j2
              rw [← hy1] at e1
              rw [← hy2] at e2
              have h4 := srt_swp hs i2 j2
              rw [← hy1, ← hy2] at h4
              have H4 := Lib.hid (h4.go (Below.refl _ _).drew)
              clear hs hnd hy1 hy2 h4 hgt HS
              go_wp2_with fail
              go_region
              obtain ⟨wv, hwv⟩ : ∃ W, W = ((wx.setCell ⟨g, i2, none⟩ (.int .u32 ((y2 : Nat) : Int))).setCell ⟨g, j2, none⟩ (.int .u32 ((y1 : Nat) : Int))).drew := ⟨_, rfl⟩
              rw [← hwv] at H4 ⊢
              clear hwv e1 e2 f1 f2
              go_wp2_with fail
              go_roundw
              case measure => simp [intOf]; omega
              case rel => exact ⟨i2 + 1, j2 - 1, by go_num, by rw [show ((j2 - 1 : Nat) : Int) = (j2 : Int) - 1 by omega], by omega, by omega, by omega, Lib.hid ⟨_, H4.out, HF.out⟩⟩

end Go.Proofs.Ytgadedpcekiljaa
