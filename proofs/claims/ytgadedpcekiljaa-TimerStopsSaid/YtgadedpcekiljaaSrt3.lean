/- slices.Sort at []uint32: siftDownOrdered. -/
import Derived.Test.YtgadedpcekiljaaSrt2
set_option linter.unusedSimpArgs false
set_option linter.unusedVariables false
namespace Go.Proofs.Ytgadedpcekiljaa
open Go.RowKit
set_option maxRecDepth 100000

set_option maxHeartbeats 8000000 in
theorem sift_any (lt : Nat → Nat → Bool) (HL : ∀ (x y : Nat) (w : World), Calls Try.prog 32 #[.int .u32 ((x : Nat) : Int), .int .u32 ((y : Nat) : Int)] w fun e w' => e = .returned (.bool (lt x y)) ∧ w' = w) {B : Nat} {w0 w : World} {ts : List Kt} {g n c : Nat} {d : Array Nat} (h : Sep B w0 w (thS g n c d :: ts)) (lo hi fst : Nat) (hlo : lo ≤ n) (hhi : fst + hi ≤ n) (hn : n ≤ 1000000000000) :
    Calls Try.prog 37 #[.slice (some ⟨g, 0, none⟩) n c, .int .i64 (lo : Nat), .int .i64 (hi : Nat), .int .i64 (fst : Nat)] w fun e w' => e = .returned (.tuple #[]) ∧ Sep B w0 w' (thS g n c (Go.Sort.siftDown lt hi fst lo d) :: ts) := by
  have hmx : Try.prog.follows .mixedOrders = true := by kernel_rfl
  have hL := Lib.hid HL
  have H0 := Lib.hid h
  clear HL h
  obtain ⟨D, hD⟩ : ∃ D, D = Go.Sort.siftDown lt hi fst lo d := ⟨_, rfl⟩
  rw [← hD]
  have HD := Lib.hid hD
  clear hD
  go_enter Try.func37, Try.ntmps37
  go_wp2_with fail
  go_loopw [8] (fun s wr => ∃ r : Nat, s = .int .i64 r ∧ r ≤ n ∧ Hid (∃ dd, Sep B w0 wr (thS g n c dd :: ts) ∧ Go.Sort.siftDown lt hi fst r dd = D)) (fun s _ => hi - (intOf s).toNat)
  case atStart => exact ⟨lo, rfl, hlo, Lib.hid ⟨d, H0.out, HD.out.symm⟩⟩
  case round =>
    obtain ⟨r, rfl, hrn, HR⟩ := hrel
    clear H0 HD hlo
    obtain ⟨dd, hs, hd⟩ := HR.out
    rw [Go.Sort.siftDown] at hd
    obtain ⟨k, hk⟩ : ∃ k, k = 2 * r + 1 := ⟨_, rfl⟩
    have hw : wrap64 (wrap64 (2 * (r : Int)) + 1) = (k : Int) := by unfold wrap64; omega
    have hw2 : 2 * (r : Int) + 1 = (k : Int) := by omega
    rw [show 2 * r + 2 = k + 1 by omega, ← hk] at hd
    by_cases hkh : k ≥ hi
    · rw [dif_pos hkh] at hd
      rw [hd] at hs
      have HE := Lib.hid hs
      have hg : decide ((hi : Int) ≤ (k : Int)) = true := decide_eq_true (by omega)
      have hg' : (hi : Int) ≤ (k : Int) := by omega
      clear hs hd HR hk
      go_wp2_with fail
      first | go_end0 | (refine bodyPost_ret (results_none rfl _ _ _) rfl ?_)
      exact ⟨rfl, HE.out⟩
    · rw [dif_neg hkh] at hd
      have hg : decide ((hi : Int) ≤ (k : Int)) = false := decide_eq_false (by omega)
      have hg' : ¬ (hi : Int) ≤ (k : Int) := by omega
      have hrk : r < k := by omega
      have hkn : k ≤ n := by omega
      have hnd := srt_len hs
      have HI := Lib.hid (And.intro hs (And.intro hd (And.intro hk hnd)))
      clear hk HR
      by_cases hk1 : k + 1 < hi
      case' pos =>
        have hq : decide ((k : Int) + 1 < (hi : Int)) = true := decide_eq_true (by omega)
        have hq' : (k : Int) + 1 < (hi : Int) := by omega
        have i0 : (0 : Int) ≤ (fst : Int) + (k : Int) := by omega
        have i1 : (fst : Int) + (k : Int) < (n : Int) := by omega
        have j0 : (0 : Int) ≤ (fst : Int) + (k : Int) + 1 := by omega
        have j1 : (fst : Int) + (k : Int) + 1 < (n : Int) := by omega
        obtain ⟨x1, hx1⟩ : ∃ x, x = dd[fst + k]! := ⟨_, rfl⟩
        obtain ⟨x2, hx2⟩ : ∃ x, x = dd[fst + k + 1]! := ⟨_, rfl⟩
        have e1 := srt_cell hs (i := fst + k) (by omega)
        have e2 := srt_cell hs (i := fst + k + 1) (by omega)
        rw [← hx1] at e1
        rw [← hx2] at e2
        rw [← hx1, ← hx2, decide_eq_true hk1, Bool.true_and] at hd
        obtain ⟨r1, hr1⟩ : ∃ r, r = lt x1 x2 := ⟨_, rfl⟩
        rw [← hr1] at hd
        have hp := plus_cell wr
        have HC := Lib.hid (fun (y : More) => hL.out x1 x2 (plus wr y))
        rw [← hr1] at HC
        have HX := Lib.hid hx1
        have Hd := Lib.hid hd
        clear hd hs hnd hx1 hx2 hr1
        go_wp2_with fail
        refine wp_region_tail_ext 18 (by kernel_rfl) (by kernel_rfl) ?_
        simp only [List.take_succ_cons, List.take_zero, List.drop_succ_cons, List.drop_zero]
        repeat (go_big_quiet_step (fail))
        refine wpQuiet_nil ?_
        rintro w2 ⟨y, rfl⟩
        have HC1 := Lib.hid (And.intro (HC.out y) (HI.out.1.go (plus_below wr y)))
        clear HC e1 e2 hp
        go_wp2_with fail
        refine HC1.out.1.mono ?_
        rintro e w3 ⟨rfl, hw3⟩
        have HS : Hid (Sep B w0 w3 (thS g n c dd :: ts)) := Lib.hid (by rw [hw3]; exact HC1.out.2)
        clear hw3 HC1
        cases r1
        case' true =>
          obtain ⟨cc, hcc⟩ : ∃ x, x = k + 1 := ⟨_, rfl⟩
          have HF : Hid ((if (!lt dd[fst + r]! dd[fst + cc]!) = true then dd else Go.Sort.siftDown lt hi fst cc (Go.Sort.swp dd (fst + r) (fst + cc))) = D) := Lib.hid (by
            have := Hd.out
            rw [if_pos (by first | trivial | rfl), dif_pos hk1, ← hcc] at this
            exact this)
          have hcv : (k : Int) + 1 = (cc : Int) := by omega
          have hch : cc < hi := by omega
          have hrc : r < cc := by omega
          clear hcc
        case' false =>
          obtain ⟨cc, hcc⟩ : ∃ x, x = k := ⟨_, rfl⟩
          have HF : Hid ((if (!lt dd[fst + r]! dd[fst + cc]!) = true then dd else Go.Sort.siftDown lt hi fst cc (Go.Sort.swp dd (fst + r) (fst + cc))) = D) := Lib.hid (by
            have := Hd.out
            rw [if_neg (by decide), HX.out, ← hcc] at this
            exact this)
          have hch : cc < hi := by omega
          have hrc : r < cc := by omega
          rw [← hcc]
          clear hcc
      case' neg =>
        have hq : decide ((k : Int) + 1 < (hi : Int)) = false := decide_eq_false (by omega)
        have hq' : ¬ (k : Int) + 1 < (hi : Int) := by omega
        have hp := plus_cell wr
        rw [decide_eq_false hk1, Bool.false_and, if_neg (by decide)] at hd
        have Hd := Lib.hid hd
        clear hd hs hnd
        go_wp2_with fail
        refine wp_region_ext hmx (by kernel_rfl) ?_
        repeat (go_big_quiet_step (fail))
        refine wpQuiet_nil ?_
        rintro w3 ⟨y, hw3⟩
        have HS : Hid (Sep B w0 w3 (thS g n c dd :: ts)) := Lib.hid (by rw [hw3]; exact HI.out.1.go (plus_below wr y))
        clear hw3 hp
        obtain ⟨cc, hcc⟩ : ∃ x, x = k := ⟨_, rfl⟩
        have HF : Hid ((if (!lt dd[fst + r]! dd[fst + cc]!) = true then dd else Go.Sort.siftDown lt hi fst cc (Go.Sort.swp dd (fst + r) (fst + cc))) = D) := Lib.hid (by
          have := Hd.out
          rw [← hcc] at this
          exact this)
        have hch : cc < hi := by omega
        have hrc : r < cc := by omega
        rw [← hcc]
        clear hcc
      all_goals
        have hnd : n = dd.size := HI.out.2.2.2
        have i0 : (0 : Int) ≤ (fst : Int) + (r : Int) := by omega
        have i1 : (fst : Int) + (r : Int) < (n : Int) := by omega
        have j0 : (0 : Int) ≤ (fst : Int) + (cc : Int) := by omega
        have j1 : (fst : Int) + (cc : Int) < (n : Int) := by omega
        obtain ⟨y1, hy1⟩ : ∃ x, x = dd[fst + r]! := ⟨_, rfl⟩
        obtain ⟨y2, hy2⟩ : ∃ x, x = dd[fst + cc]! := ⟨_, rfl⟩
        have e1 := srt_cell HS.out (i := fst + r) (by omega)
        have e2 := srt_cell HS.out (i := fst + cc) (by omega)
        rw [← hy1] at e1
        rw [← hy2] at e2
        have hF := HF.out
        rw [← hy1, ← hy2] at hF
        obtain ⟨r2, hr2⟩ : ∃ r, r = lt y1 y2 := ⟨_, rfl⟩
        rw [← hr2] at hF
        have hp := plus_cell w3
        have HC := Lib.hid (fun (y : More) => hL.out y1 y2 (plus w3 y))
        rw [← hr2] at HC
        have HY := Lib.hid (And.intro hy1 hy2)
        have HG := Lib.hid hF
        clear hF HF hr2 hy1 hy2 hnd
        go_wp2_with fail
        refine wp_region_tail_ext 12 (by kernel_rfl) (by kernel_rfl) ?_
        simp only [List.take_succ_cons, List.take_zero, List.drop_succ_cons, List.drop_zero]
        repeat (go_big_quiet_step (fail))
        refine wpQuiet_nil ?_
        rintro w4 ⟨y4, rfl⟩
        have HC1 := Lib.hid (And.intro (HC.out y4) (HS.out.go (plus_below w3 y4)))
        clear HC e1 e2 hp HS
        go_wp2_with fail
        refine HC1.out.1.mono ?_
        rintro e w5 ⟨rfl, hw5⟩
        have HS : Hid (Sep B w0 w5 (thS g n c dd :: ts)) := Lib.hid (by rw [hw5]; exact HC1.out.2)
        clear hw5 HC1
        cases r2 with
        | false =>
          have HE : Hid (Sep B w0 w5 (thS g n c D :: ts)) := Lib.hid (by
            have := HG.out
            rw [if_pos (by rfl)] at this
            rw [← this]
            exact HS.out)
          go_wp2_with fail
          first | go_end0 | (refine bodyPost_ret (results_none rfl _ _ _) rfl ?_)
          exact ⟨rfl, HE.out⟩
        | true =>
          have hnd : n = dd.size := HI.out.2.2.2
          have e1 := srt_cell HS.out (i := fst + r) (by omega)
          have e2 := srt_cell HS.out (i := fst + cc) (by omega)
          have f1 := srt_froz HS.out (fst + r)
          have f2 := srt_froz HS.out (fst + cc)
          rw [← HY.out.1] at e1
          rw [← HY.out.2] at e2
          have h4 := srt_swp HS.out (fst + r) (fst + cc)
          rw [← HY.out.1, ← HY.out.2] at h4
          have H4 := Lib.hid (h4.go (Below.refl _ _).drew)
          clear h4 hnd
          go_wp2_with fail
          go_region
          obtain ⟨wz, hwz⟩ : ∃ W, W = ((w5.setCell ⟨g, fst + r, none⟩ (.int .u32 ((y2 : Nat) : Int))).setCell ⟨g, fst + cc, none⟩ (.int .u32 ((y1 : Nat) : Int))).drew := ⟨_, rfl⟩
          rw [← hwz] at H4 ⊢
          clear hwz e1 e2 f1 f2
          go_wp2_with fail
          go_roundw
          case measure => simp [intOf]; omega
          case rel => exact ⟨cc, rfl, by omega, Lib.hid ⟨_, H4.out, by
            have := HG.out
            rw [if_neg (by decide)] at this
            exact this⟩⟩

end Go.Proofs.Ytgadedpcekiljaa
