/- slices.Sort at []uint32: reverseRangeOrdered, siftDownOrdered, heapSortOrdered. -/
import Derived.Test.YtgadedpcekiljaaSrt1
set_option linter.unusedSimpArgs false
set_option linter.unusedVariables false
namespace Go.Proofs.Ytgadedpcekiljaa
open Go.RowKit
set_option maxRecDepth 100000

set_option maxHeartbeats 4000000 in
theorem rev_any {B : Nat} {w0 w : World} {ts : List Kt} {g n c : Nat} {d : Array Nat} (h : Sep B w0 w (thS g n c d :: ts)) (a b : Nat) (hb1 : 1 ≤ b) (hab : a ≤ b) (hb : b ≤ n) (hn : n ≤ 1000000000000) :
    Calls Try.prog 30 #[.slice (some ⟨g, 0, none⟩) n c, .int .i64 (a : Nat), .int .i64 (b : Nat)] w fun e w' => e = .returned (.tuple #[]) ∧ Sep B w0 w' (thS g n c (Go.Sort.reverseRange d a b) :: ts) := by
  have H0 := Lib.hid h
  clear h
  obtain ⟨D, hD⟩ : ∃ D, D = Go.Sort.reverseRange d a b := ⟨_, rfl⟩
  rw [← hD]
  have HD := Lib.hid hD
  clear hD
  go_enter Try.func30, Try.ntmps30
  go_wp2_with fail
  go_loopw [6, 7] (fun s t wr => ∃ i j : Nat, s = .int .i64 i ∧ t = .int .i64 j ∧ j < n ∧ i ≤ n ∧ Hid (∃ dd, Sep B w0 wr (thS g n c dd :: ts) ∧ Go.Sort.reverseLoop i j dd = D)) (fun s t _ => (intOf t).toNat - (intOf s).toNat)
  case atStart => exact ⟨a, b - 1, rfl, by rw [show ((b - 1 : Nat) : Int) = (b : Int) - 1 by omega], by omega, by omega, Lib.hid ⟨d, H0.out, HD.out.symm⟩⟩
  case round =>
    obtain ⟨i, j, rfl, rfl, hjn, hin, HR⟩ := hrel
    clear H0 HD
    obtain ⟨dd, hs, hd⟩ := HR.out
    by_cases hij : i < j
    · have hil : (i : Int) < (j : Int) := by omega
      have i0 : (0 : Int) ≤ (i : Int) := by omega
      have i1 : (i : Int) < (n : Int) := by omega
      have j0 : (0 : Int) ≤ (j : Int) := by omega
      have j1 : (j : Int) < (n : Int) := by omega
      have hnd := srt_len hs
      obtain ⟨x1, hx1⟩ : ∃ x, x = dd[i]! := ⟨_, rfl⟩
      obtain ⟨x2, hx2⟩ : ∃ x, x = dd[j]! := ⟨_, rfl⟩
      have e1 := srt_cell hs (i := i) (by omega)
      have e2 := srt_cell hs (i := j) (by omega)
      have f1 := srt_froz hs i
      have f2 := srt_froz hs j
      rw [← hx1] at e1
      rw [← hx2] at e2
      rw [Go.Sort.reverseLoop, if_pos hij] at hd
      have h4 := srt_swp hs i j
      rw [← hx1, ← hx2] at h4
      have H4 := Lib.hid (And.intro (h4.go (Below.refl _ _).drew) hd)
      clear hs hd hx1 hx2 HR h4 hnd
      go_wp2_with fail
      go_region
      obtain ⟨wz, hwz⟩ : ∃ W, W = ((wr.setCell ⟨g, i, none⟩ (.int .u32 ((x2 : Nat) : Int))).setCell ⟨g, j, none⟩ (.int .u32 ((x1 : Nat) : Int))).drew := ⟨_, rfl⟩
      rw [← hwz] at H4 ⊢
      clear hwz e1 e2 f1 f2
      go_wp2_with fail
      go_roundw
      case measure => simp [intOf]; omega
      case rel => exact ⟨i + 1, j - 1, by go_num, by rw [show ((j - 1 : Nat) : Int) = (j : Int) - 1 by omega], by omega, by omega, Lib.hid ⟨_, H4.out⟩⟩
    · have hil : ¬ (i : Int) < (j : Int) := by omega
      rw [Go.Sort.reverseLoop, if_neg hij] at hd
      rw [hd] at hs
      have HE := Lib.hid hs
      clear hs hd HR
      go_wp2_with fail
      go_end0
      exact ⟨rfl, HE.out⟩

end Go.Proofs.Ytgadedpcekiljaa
