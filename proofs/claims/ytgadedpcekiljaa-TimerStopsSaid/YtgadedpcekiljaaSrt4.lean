/- slices.Sort at []uint32: heapSortOrdered. -/
import Derived.Test.YtgadedpcekiljaaSrt3
set_option linter.unusedSimpArgs false
set_option linter.unusedVariables false
namespace Go.Proofs.Ytgadedpcekiljaa
open Go.RowKit
set_option maxRecDepth 100000

set_option maxHeartbeats 8000000 in
theorem heap_any (lt : Nat → Nat → Bool) (HL : ∀ (x y : Nat) (w : World), Calls Try.prog 32 #[.int .u32 ((x : Nat) : Int), .int .u32 ((y : Nat) : Int)] w fun e w' => e = .returned (.bool (lt x y)) ∧ w' = w) {B : Nat} {w0 w : World} {ts : List Kt} {g n c : Nat} {d : Array Nat} (h : Sep B w0 w (thS g n c d :: ts)) (a b : Nat) (hab : a < b) (hb : b ≤ n) (hn : n ≤ 1000000000000) :
    Calls Try.prog 27 #[.slice (some ⟨g, 0, none⟩) n c, .int .i64 (a : Nat), .int .i64 (b : Nat)] w fun e w' => e = .returned (.tuple #[]) ∧ Sep B w0 w' (thS g n c (Go.Sort.heapSort lt d a b) :: ts) := by
  have hS := Lib.hid (fun (W : World) (dd : Array Nat) (lo hi : Nat) (hs : Sep B w0 W (thS g n c dd :: ts)) (h1 : lo ≤ n) (h2 : a + hi ≤ n) => sift_any lt HL hs lo hi a h1 h2 hn)
  have H0 := Lib.hid h
  clear HL h
  obtain ⟨D, hD⟩ : ∃ D, D = Go.Sort.heapSort lt d a b := ⟨_, rfl⟩
  rw [← hD]
  unfold Go.Sort.heapSort at hD
  obtain ⟨hi, hhi⟩ : ∃ h, h = b - a := ⟨_, rfl⟩
  rw [← hhi] at hD
  obtain ⟨q, hq⟩ : ∃ q, q = (hi - 1) / 2 := ⟨_, rfl⟩
  rw [← hq] at hD
  have HD := Lib.hid hD
  have hv1 : (b : Int) - (a : Int) = (hi : Int) := by omega
  have hv2 : ((hi : Int) - 1).tdiv 2 = (q : Int) := by
    rw [show ((hi : Int) - 1) = ((hi - 1 : Nat) : Int) by omega, hq]
    rfl
  have hqn : q ≤ n := by omega
  have hi1 : 1 ≤ hi := by omega
  have hin : a + hi ≤ n := by omega
  clear hD hhi hq
  go_enter Try.func27, Try.ntmps27
  go_wp2_with fail
  go_loopw [9] (fun s wr => ∃ (k : Nat) (v : Int), s = .int .i64 v ∧ v + 1 = k ∧ k ≤ n + 1 ∧ Hid (∃ dd, Sep B w0 wr (thS g n c dd :: ts) ∧ Go.Sort.heapPop lt a hi (Go.Sort.heapBuild lt hi a k dd) = D)) (fun s _ => (intOf s + 1).toNat)
  case atStart => exact ⟨q + 1, (q : Int), rfl, by omega, by omega, Lib.hid ⟨d, H0.out, HD.out.symm⟩⟩
  case round =>
    obtain ⟨k, v, rfl, hvk, hkn, HR⟩ := hrel
    clear H0 HD
    cases k with
    | succ k =>
      obtain rfl : v = (k : Int) := by omega
      clear hvk
      have k0 : (0 : Int) ≤ (k : Int) := by omega
      obtain ⟨dd, hs, hd⟩ := HR.out
      have HC := Lib.hid (hS.out wr dd k hi hs (by omega) hin)
      have Hd := Lib.hid hd
      clear hs hd HR
      go_wp2_with fail
      refine HC.out.mono ?_
      rintro e w1 ⟨rfl, h1⟩
      have H1 := Lib.hid h1
      clear h1 HC
      go_wp2_with fail
      go_roundw
      case measure => (simp [intOf] <;> omega)
      case rel => exact ⟨k, (k : Int) - 1, rfl, by omega, by omega, Lib.hid ⟨_, H1.out, Hd.out⟩⟩
    | zero =>
      obtain rfl : v = -1 := by omega
      clear hvk
      have HI : Hid (∃ dd, Sep B w0 wr (thS g n c dd :: ts) ∧ Go.Sort.heapPop lt a hi dd = D) := HR
      clear HR
      go_wp2_with fail
      go_loopw [10] (fun s wr => ∃ (k : Nat) (v : Int), s = .int .i64 v ∧ v + 1 = k ∧ k ≤ hi ∧ Hid (∃ dd, Sep B w0 wr (thS g n c dd :: ts) ∧ Go.Sort.heapPop lt a k dd = D)) (fun s _ => (intOf s + 1).toNat)
      case atStart => exact ⟨hi, (hi : Int) - 1, rfl, by omega, Nat.le_refl _, HI⟩
      case round =>
        obtain ⟨k, v, rfl, hvk, hkn, HR⟩ := hrel
        clear HI
        cases k with
        | succ k =>
          obtain rfl : v = (k : Int) := by omega
          clear hvk
          have k0 : (0 : Int) ≤ (k : Int) := by omega
          obtain ⟨dd, hs, hd⟩ := HR.out
          have hnd := srt_len hs
          have i0 : (0 : Int) ≤ (a : Int) := by omega
          have i1 : (a : Int) < (n : Int) := by omega
          have j0 : (0 : Int) ≤ (a : Int) + (k : Int) := by omega
          have j1 : (a : Int) + (k : Int) < (n : Int) := by omega
          obtain ⟨x1, hx1⟩ : ∃ x, x = dd[a]! := ⟨_, rfl⟩
          obtain ⟨x2, hx2⟩ : ∃ x, x = dd[a + k]! := ⟨_, rfl⟩
          have e1 := srt_cell hs (i := a) (by omega)
          have e2 := srt_cell hs (i := a + k) (by omega)
          have f1 := srt_froz hs a
          have f2 := srt_froz hs (a + k)
          rw [← hx1] at e1
          rw [← hx2] at e2
          have e3 := srt_cell (srt_set hs a x2) (i := a + k) (by simp; omega)
          have f3 := srt_froz (srt_set hs a x2) (a + k)
          obtain ⟨x3, hx3⟩ : ∃ x, x = (dd.setIfInBounds a x2)[a + k]! := ⟨_, rfl⟩
          rw [← hx3] at e3
          have h4 := srt_swp hs a (a + k)
          rw [← hx1, ← hx2] at h4
          have HC := Lib.hid (hS.out _ _ 0 k (h4.go (Below.refl _ _).drew) (by omega) (by omega))
          have Hd := Lib.hid hd
          clear hs hd HR h4 hx1 hx2 hx3 hnd
          go_wp2_with fail
          go_region
          obtain ⟨wz, hwz⟩ : ∃ W, W = ((wr.setCell ⟨g, a, none⟩ (.int .u32 ((x2 : Nat) : Int))).setCell ⟨g, a + k, none⟩ (.int .u32 ((x1 : Nat) : Int))).drew := ⟨_, rfl⟩
          rw [← hwz] at HC ⊢
          clear hwz e1 e2 e3 f1 f2 f3
          go_wp2_with fail
          refine HC.out.mono ?_
          rintro e w1 ⟨rfl, h1⟩
          have H1 := Lib.hid h1
          clear h1 HC
          go_wp2_with fail
          go_roundw
          case measure => (simp [intOf] <;> omega)
          case rel => exact ⟨k, (k : Int) - 1, rfl, by omega, by omega, Lib.hid ⟨_, H1.out, Hd.out⟩⟩
        | zero =>
          obtain rfl : v = -1 := by omega
          clear hvk
          have HE : Hid (Sep B w0 wr (thS g n c D :: ts)) := Lib.hid (by
            obtain ⟨dd, hs, hd⟩ := HR.out
            rw [← hd]
            exact hs)
          clear HR
          go_wp2_with fail
          first | go_end0 | (refine bodyPost_ret (results_none rfl _ _ _) rfl ?_)
          exact ⟨rfl, HE.out⟩

end Go.Proofs.Ytgadedpcekiljaa
