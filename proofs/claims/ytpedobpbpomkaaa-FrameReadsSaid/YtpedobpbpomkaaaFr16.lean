/- Layer 7: Decode of both sides, of any bytes. -/
import Derived.Test.YtpedobpbpomkaaaFr15
set_option linter.unusedSimpArgs false
set_option linter.unusedVariables false
namespace Go.Proofs.Ytpedobpbpomkaaa
open Go.RowKit

theorem fdec_any (A : Option Addr) (c : Nat) (l : List UInt8) (w : World) (hA : Bs w A l) (hc : l.length ≤ c) (hL : l.length ≤ 100000) :
    Calls Try.prog 19 #[.slice A l.length c] w fun e w' => ∃ A' c', e = .returned (.tuple #[.agg (frC (decF l).1 A' c'), .int .u16 ((decF l).2 : Nat)]) ∧ Hid (OwnB w' w.heap.size (.slice A' (decF l).1.l.length c') (decF l).1.l ∧ Below w.heap.size w w') := by
  by_cases h : l.length < 44 ∨ 4096 < l.length
  · have hd : decF l = (zeroF, 70) := by unfold decF; rw [if_pos h]
    rw [hd]
    refine (fdec_short A c l w hL h).mono ?_
    rintro e w' ⟨rfl, hb⟩
    exact ⟨none, 0, rfl, Lib.hid ⟨OwnB.nil _ _, hb⟩⟩
  · by_cases hs : crcL (frontOf l) = num (backOf l)
    · exact fdec_main A c l w hA hc (by omega) (by omega) hs
    · have hd : decF l = (zeroF, 71) := by unfold decF; rw [if_neg h, if_pos hs]
      rw [hd]
      refine (fdec_sum A c l w hA hc (by omega) (by omega) hs).mono ?_
      rintro e w' ⟨rfl, hb⟩
      exact ⟨none, 0, rfl, Lib.hid ⟨OwnB.nil _ _, hb⟩⟩

theorem rfdec_any (A : Option Addr) (c : Nat) (l : List UInt8) (w : World) (hA : Bs w A l) (hc : l.length ≤ c) (hL : l.length ≤ 100000) :
    Calls Try.prog 20 #[.slice A l.length c] w fun e w' => ∃ A' c', e = .returned (.tuple #[.agg (frC (decF l).1 A' c'), .int .i64 ((decF l).2 : Nat)]) ∧ Hid (OwnB w' w.heap.size (.slice A' (decF l).1.l.length c') (decF l).1.l ∧ Below w.heap.size w w') := by
  by_cases h : l.length < 44 ∨ 4096 < l.length
  · have hd : decF l = (zeroF, 70) := by unfold decF; rw [if_pos h]
    rw [hd]
    refine (rfdec_short A c l w hL h).mono ?_
    rintro e w' ⟨rfl, hb⟩
    exact ⟨none, 0, rfl, Lib.hid ⟨OwnB.nil _ _, hb⟩⟩
  · by_cases hs : crcL (frontOf l) = num (backOf l)
    · exact rfdec_main A c l w hA hc (by omega) (by omega) hs
    · have hd : decF l = (zeroF, 71) := by unfold decF; rw [if_neg h, if_pos hs]
      rw [hd]
      refine (rfdec_sum A c l w hA hc (by omega) (by omega) hs).mono ?_
      rintro e w' ⟨rfl, hb⟩
      exact ⟨none, 0, rfl, Lib.hid ⟨OwnB.nil _ _, hb⟩⟩

end Go.Proofs.Ytpedobpbpomkaaa
