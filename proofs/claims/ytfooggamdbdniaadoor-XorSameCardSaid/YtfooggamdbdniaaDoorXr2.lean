/- The program's and the document's Sound of layer 3. -/
import Derived.Test.YtfooggamdbdniaaDoorXr1
namespace Go.Proofs.YtfooggamdbdniaaDoor
open Go.RowKit

set_option maxRecDepth 100000 in
set_option maxHeartbeats 1000000 in
theorem xsound_any (h : Bool) (p l b : Nat) (w : World) (hl : l < 256) (hb : b < 256) :
    Calls Tryd.prog 10 #[.agg #[.bool h, .int .u64 p, .int .u8 l, .int .u8 b]] w fun e w' => e = .returned (.bool (soundX ⟨h, p, l, b⟩)) ∧ Below w.heap.size w w' := by
  cases h
  · obtain ⟨r, hr⟩ : ∃ r, r = soundX ⟨false, p, l, b⟩ := ⟨_, rfl⟩
    rw [← hr]
    have HR := Lib.hid hr
    clear hr
    go_enter Tryd.func10, Tryd.ntmps10
    go_wp2
    all_goals
      go_ret
      refine ⟨ret_bool ?_, below_alloc _ _⟩
      rw [HR.out]
      unfold soundX
      simp
    all_goals (first | omega | (rw [Bool.eq_iff_iff]; simp; omega))
  · obtain ⟨r, hr⟩ : ∃ r, r = soundX ⟨true, p, l, b⟩ := ⟨_, rfl⟩
    rw [← hr]
    have HR := Lib.hid hr
    clear hr
    go_enter Tryd.func10, Tryd.ntmps10
    go_wp2_with (first
      | go_at_call 18; refine (bandOf_any _ _ _ _ _ hl hb).mono ?_; rintro e w1 ⟨rfl, b1⟩; have t1 : Below w.heap.size w w1 := go1 b1
      | (go_at_call 19; refine (behind_any _ _ _ (by omega) (by omega)).mono ?_; rintro e w2 ⟨rfl, b2⟩; have t2 : Below w.heap.size w w2 := on t1 b2))
    all_goals
      go_ret
      refine ⟨ret_bool ?_, by first | exact t2 | exact onA t1⟩
      rw [HR.out]
      unfold soundX
      simp
    all_goals (first | omega | (rw [Bool.eq_iff_iff]; simp; omega))

set_option maxRecDepth 100000 in
set_option maxHeartbeats 2000000 in
theorem rxsound_any (h : Bool) (p l b : Nat) (w : World) (hl : l < 256) (hb : b < 256) :
    Calls Tryd.prog 11 #[.agg #[.bool h, .int .u64 p, .int .u8 l, .int .u8 b]] w fun e w' => e = .returned (.bool (soundX ⟨h, p, l, b⟩)) ∧ Below w.heap.size w w' := by
  have e1 : IntKind.i64.wrap (l : Int) = (l : Int) := by rw [IntKind.wrap_i64]; omega
  have e2 : IntKind.i64.wrap (b : Int) = (b : Int) := by rw [IntKind.wrap_i64]; omega
  have e3 : IntKind.i64.wrap ((l : Int) + (b : Int)) = (l : Int) + (b : Int) := by rw [IntKind.wrap_i64]; omega
  obtain ⟨r, hr⟩ : ∃ r, r = soundX ⟨h, p, l, b⟩ := ⟨_, rfl⟩
  rw [← hr]
  have HR := Lib.hid hr
  clear hr
  cases h
  all_goals
    go_enter Tryd.func11, Tryd.ntmps11
    go_wp2_with fail
  all_goals
    go_ret
    refine ⟨ret_bool ?_, below_alloc _ _⟩
    rw [HR.out]
    unfold soundX
    simp
  all_goals (first | omega | (rw [Bool.eq_iff_iff]; simp; omega) | (simp at *; omega))

end Go.Proofs.YtfooggamdbdniaaDoor
