/- slices.Sort at []uint32: insertionSortOrdered. -/
import Derived.Test.YtgadedpcekiljaaSrt0
set_option linter.unusedSimpArgs false
set_option linter.unusedVariables false
namespace Go.Proofs.Ytgadedpcekiljaa
open Go.RowKit
set_option maxRecDepth 100000

set_option maxHeartbeats 4000000 in
theorem ins_any (lt : Nat → Nat → Bool) (HL : ∀ (x y : Nat) (w : World), Calls Try.prog 32 #[.int .u32 ((x : Nat) : Int), .int .u32 ((y : Nat) : Int)] w fun e w' => e = .returned (.bool (lt x y)) ∧ w' = w) {B : Nat} {w0 w : World} {ts : List Kt} {g n c : Nat} {d : Array Nat} (h : Sep B w0 w (thS g n c d :: ts)) (a b : Nat) (hab : a ≤ b) (hb : b ≤ n) (hn : n ≤ 1000000000000) :
    Calls Try.prog 26 #[.slice (some ⟨g, 0, none⟩) n c, .int .i64 (a : Nat), .int .i64 (b : Nat)] w fun e w' => e = .returned (.tuple #[]) ∧ Sep B w0 w' (thS g n c (Go.Sort.insertionSort lt d a b) :: ts) := by
  have hmx : Try.prog.follows .mixedOrders = true := by kernel_rfl
  have hL := Lib.hid HL
  have H0 := Lib.hid h
  clear HL h
  obtain ⟨D, hD⟩ : ∃ D, D = Go.Sort.insertionSort lt d a b := ⟨_, rfl⟩
  rw [← hD]
  have HD := Lib.hid hD
  clear hD
  go_enter Try.func26, Try.ntmps26
  go_wp2_with fail
  go_loopw [6] (fun s wr => ∃ i : Nat, s = .int .i64 i ∧ a + 1 ≤ i ∧ i ≤ n + 1 ∧ Hid (∃ dd, Sep B w0 wr (thS g n c dd :: ts) ∧ Go.Sort.insOuter lt a b i dd = D)) (fun s _ => b - (intOf s).toNat)
  case atStart => exact ⟨a + 1, by go_num, Nat.le_refl _, by omega, Lib.hid ⟨d, H0.out, HD.out.symm⟩⟩
  case round =>
    obtain ⟨i, rfl, hai, hin, HR⟩ := hrel
    clear H0 HD
    by_cases hib : i < b
    · have hil : (i : Int) < (b : Int) := by omega
      obtain ⟨D2, hD2⟩ : ∃ D2, D2 = D2 ∧ ∃ dd, Sep B w0 wr (thS g n c dd :: ts) ∧ Go.Sort.insInner lt a i dd = D2 ∧ Go.Sort.insOuter lt a b (i + 1) D2 = D := by
        obtain ⟨dd, hs, hd⟩ := HR.out
        rw [Go.Sort.insOuter, if_pos hib] at hd
        exact ⟨_, rfl, dd, hs, rfl, hd⟩
      have HR1 := Lib.hid hD2.2
      clear hD2 HR
      go_wp2_with fail
      go_loopw [7] (fun s wr => ∃ j : Nat, s = .int .i64 j ∧ j ≤ i ∧ Hid (∃ dd, Sep B w0 wr (thS g n c dd :: ts) ∧ Go.Sort.insInner lt a j dd = D2 ∧ Go.Sort.insOuter lt a b (i + 1) D2 = D)) (fun s _ => (intOf s).toNat)
      case atStart => exact ⟨i, rfl, Nat.le_refl _, HR1⟩
      case round =>
        obtain ⟨j, rfl, hji, HR⟩ := hrel
        clear HR1
        by_cases haj : a < j
        · obtain ⟨k, rfl⟩ : ∃ k, j = k + 1 := ⟨j - 1, by omega⟩
          obtain ⟨j, hj⟩ : ∃ j, j = k + 1 := ⟨_, rfl⟩
          rw [← hj] at haj hji HR ⊢
          have hjl : decide ((a : Int) < (j : Int)) = true := decide_eq_true (by omega)
          have hjk : (a : Int) < (j : Int) := by omega
          have hw : wrap64 ((j : Int) - 1) = (k : Int) := by unfold wrap64; omega
          have j0 : (0 : Int) ≤ (j : Int) := by omega
          have j1 : (j : Int) < (n : Int) := by omega
          have k0 : (0 : Int) ≤ (k : Int) := by omega
          have k1 : (k : Int) < (n : Int) := by omega
          obtain ⟨dd, hs, hd, hd2⟩ := HR.out
          have hnd := srt_len hs
          have hp := plus_cell wr
          obtain ⟨x1, hx1⟩ : ∃ x, x = dd[j]! := ⟨_, rfl⟩
          obtain ⟨x2, hx2⟩ : ∃ x, x = dd[k]! := ⟨_, rfl⟩
          have e1 := srt_cell hs (i := j) (by omega)
          have e2 := srt_cell hs (i := k) (by omega)
          rw [← hx1] at e1
          rw [← hx2, show k = j - 1 by omega] at e2
          rw [hj, Go.Sort.insInner, ← hj, ← hx1, ← hx2] at hd
          obtain ⟨r, hr⟩ : ∃ r, r = lt x1 x2 := ⟨_, rfl⟩
          rw [← hr, decide_eq_true (show j > a from haj), Bool.true_and] at hd
          have HC := Lib.hid (fun (y : More) => hL.out x1 x2 (plus wr y))
          rw [← hr] at HC
          have HI := Lib.hid (And.intro hs (And.intro hd (And.intro hd2 (And.intro hx1 hx2))))
          have Hj := Lib.hid (And.intro hj hnd)
          clear hs hd hd2 hx1 hx2 HR hr hj hnd
          go_wp2_with fail
          refine wp_region_tail_ext 13 (by kernel_rfl) (by kernel_rfl) ?_
          simp only [List.take_succ_cons, List.take_zero, List.drop_succ_cons, List.drop_zero]
          repeat (go_big_quiet_step (fail))
          refine wpQuiet_nil ?_
          rintro w2 ⟨y, rfl⟩
          have HC1 := Lib.hid (HC.out y)
          clear HC e1 e2 hp
          go_wp2_with fail
          refine HC1.out.mono ?_
          rintro e w3 ⟨rfl, hw3⟩
          rw [hw3]
          clear hw3 HC1
          have HI2 := Lib.hid (HI.out.1.go (plus_below wr y))
          obtain ⟨wq, hwq⟩ : ∃ W, W = plus wr y := ⟨_, rfl⟩
          rw [← hwq] at HI2 ⊢
          clear hwq
          cases r with
          | false =>
            have HE : Hid (dd = D2) := Lib.hid (by have := HI.out.2.1; rw [if_neg (by decide)] at this; exact this)
            go_wp2_with fail
            go_roundw
            case measure => simp [intOf]; omega
            case rel => exact ⟨i + 1, by go_num, by omega, by omega, Lib.hid ⟨D2, by rw [← HE.out]; exact HI2.out, HI.out.2.2.1⟩⟩
          | true =>
            have e1 := srt_cell HI2.out (i := j) (by rw [← Hj.out.2]; omega)
            have e2 := srt_cell HI2.out (i := k) (by rw [← Hj.out.2]; omega)
            have f1 := srt_froz HI2.out j
            have f2 := srt_froz HI2.out (j - 1)
            rw [← HI.out.2.2.2.1] at e1
            rw [← HI.out.2.2.2.2, show k = j - 1 by have := Hj.out.1; omega] at e2
            have hp := plus_cell wq
            go_wp2_with fail
            go_region
            have hk : j - 1 = k := by have := Hj.out.1; omega
            have h4 := srt_swp HI2.out j k
            rw [← HI.out.2.2.2.1, ← HI.out.2.2.2.2, ← hk] at h4
            have H4 := Lib.hid (h4.go (Below.refl _ _).drew)
            clear h4 e1 e2 f1 f2 hp hk
            obtain ⟨wz, hwz⟩ : ∃ W, W = ((wq.setCell ⟨g, j, none⟩ (.int .u32 ((x2 : Nat) : Int))).setCell ⟨g, j - 1, none⟩ (.int .u32 ((x1 : Nat) : Int))).drew := ⟨_, rfl⟩
            rw [← hwz] at H4 ⊢
            clear hwz
            go_wp2_with fail
            go_roundw
            case measure => simp [intOf]; have := Hj.out.1; omega
            case rel =>
              have hk : j - 1 = k := by have := Hj.out.1; omega
              refine ⟨k, by rw [show ((j : Int) - 1) = (k : Int) by have := Hj.out.1; omega], by omega, Lib.hid ⟨_, H4.out, ?_, HI.out.2.2.1⟩⟩
              have := HI.out.2.1
              rw [if_pos (by first | trivial | rfl)] at this
              rw [hk]
              exact this
        · have hjl : decide ((a : Int) < (j : Int)) = false := decide_eq_false (by omega)
          have hjk : ¬ (a : Int) < (j : Int) := by omega
          have HE : Hid (∃ W, True) := Lib.hid ⟨wr, trivial⟩
          have H2 : Hid (Sep B w0 wr (thS g n c D2 :: ts) ∧ Go.Sort.insOuter lt a b (i + 1) D2 = D) := Lib.hid (by
            obtain ⟨dd, hs, hd, hd2⟩ := HR.out
            have : dd = D2 := by
              cases j with
              | zero => exact hd
              | succ j => rw [Go.Sort.insInner, if_neg (by simp; intro h; omega)] at hd; exact hd
            rw [this] at hs
            exact ⟨hs, hd2⟩)
          clear HR
          have hp := plus_cell wr
          go_wp2_with fail
          refine wp_region_ext hmx (by kernel_rfl) ?_
          repeat (go_big_quiet_step (fail))
          refine wpQuiet_nil ?_
          rintro w2 ⟨y, rfl⟩
          have H3 := Lib.hid (H2.out.1.go (plus_below wr y))
          clear hp
          go_wp2_with fail
          go_roundw
          case measure => simp [intOf]; omega
          case rel => exact ⟨i + 1, by go_num, by omega, by omega, Lib.hid ⟨D2, H3.out, H2.out.2⟩⟩
    · have hil : ¬ (i : Int) < (b : Int) := by omega
      have HE : Hid (Sep B w0 wr (thS g n c D :: ts)) := Lib.hid (by
        obtain ⟨dd, hs, hd⟩ := HR.out
        rw [Go.Sort.insOuter, if_neg hib] at hd
        rw [← hd]
        exact hs)
      clear HR
      go_wp2_with fail
      go_end0
      exact ⟨rfl, HE.out⟩

end Go.Proofs.Ytgadedpcekiljaa
