/- Joined: Xr1, Xr2. -/
import Derived.Test.YtmcdollkmlcpbaaGreatDoorQ9
import Derived.Test.YtmcdollkmlcpbaaGreatDoorQ2
import Derived.Outline
set_option linter.unusedSimpArgs false
set_option linter.unusedVariables false
namespace Go.Proofs.YtmcdollkmlcpbaaGreatDoor
open Go.RowKit
set_option maxRecDepth 100000 in
theorem bandOf_any (h : Bool) (p l b : Nat) (w : World) (hl : l < 256) (hb : b < 256) :
  Calls Tryz.prog 114 #[.agg #[.bool h, .int .u64 p, .int .u8 l, .int .u8 b]] w fun e w' => e = .returned (.agg #[.int .i64 l, .int .i64 b]) ∧ Below w.heap.size w w' := by
 have e1 : IntKind.i64.wrap (l : Int) = (l : Int) := by rw [IntKind.wrap_i64]; omega
 have e2 : IntKind.i64.wrap (b : Int) = (b : Int) := by rw [IntKind.wrap_i64]; omega
 go_enter Tryz.func114, Tryz.ntmps114
 go_wp2
 exact bodyPost_ret (results_cell_row Tryz.results114 _ _ (w.heap.size + 1) 176 #[.int .i64 l, .int .i64 b] (0, 0) _ rfl (by have h := heap_alloc_new (w.alloc (.cells #[.bool h, .int .u64 p, .int .u8 l, .int .u8 b] 86)) (.cells #[.int .i64 l, .int .i64 b] 176); rw [World.size_alloc] at h; exact h) Tryz.underlying176 rfl (by kernel_rfl)) rfl ⟨rfl, below_alloc2 _ _ _⟩
set_option maxRecDepth 100000 in
theorem behind_any (l b : Int) (w : World) (hl : 0 ≤ l ∧ l ≤ 1000) (hb : 0 ≤ b ∧ b ≤ 1000) :
  Calls Tryz.prog 115 #[.agg #[.int .i64 l, .int .i64 b]] w fun e w' => e = .returned (.int .i64 (64 - l - b)) ∧ Below w.heap.size w w' := by
 obtain ⟨h1, h2⟩ := hl
 obtain ⟨h3, h4⟩ := hb
 go_enter Tryz.func115, Tryz.ntmps115
 go_wp2
 go_ret
 exact ⟨rfl, below_alloc _ _⟩
set_option maxRecDepth 100000 in
theorem after_any (l b v : Nat) (w : World) (hl : l < 256) (hb : b < 256) :
  Calls Tryz.prog 98 #[.agg #[.int .i64 l, .int .i64 b], .int .u64 v] w fun e w' => e = .returned (.agg #[.bool true, .int .u64 v, .int .u8 l, .int .u8 b]) ∧ Below w.heap.size w w' := by
 have e1 : IntKind.u8.wrap (l : Int) = (l : Int) := by rw [IntKind.wrap_u8]; omega
 have e2 : IntKind.u8.wrap (b : Int) = (b : Int) := by rw [IntKind.wrap_u8]; omega
 go_enter Tryz.func98, Tryz.ntmps98
 go_wp2
 exact bodyPost_ret (results_cell_row Tryz.results98 _ _ (w.heap.size + 1) 86 #[.bool true, .int .u64 v, .int .u8 l, .int .u8 b] (0, 0) _ rfl (by have h := heap_alloc_new (w.alloc (.cells #[.int .i64 l, .int .i64 b] 176)) (.cells #[.bool true, .int .u64 v, .int .u8 l, .int .u8 b] 86); rw [World.size_alloc] at h; exact h) Tryz.underlying86 rfl (by kernel_rfl)) rfl ⟨rfl, below_alloc2 _ _ _⟩
end Go.Proofs.YtmcdollkmlcpbaaGreatDoor
namespace Go.Proofs.YtmcdollkmlcpbaaGreatDoor
open Go.RowKit
set_option maxRecDepth 100000 in
set_option maxHeartbeats 1000000 in
theorem xsound_any (h : Bool) (p l b : Nat) (w : World) (hl : l < 256) (hb : b < 256) :
  Calls Tryz.prog 96 #[.agg #[.bool h, .int .u64 p, .int .u8 l, .int .u8 b]] w fun e w' => e = .returned (.bool (soundX ⟨h, p, l, b⟩)) ∧ Below w.heap.size w w' := by
 cases h
 ·obtain ⟨r, hr⟩ : ∃ r, r = soundX ⟨false, p, l, b⟩ := ⟨_, rfl⟩
  rw [← hr]
  have HR := Lib.hid hr
  clear hr
  go_enter Tryz.func96, Tryz.ntmps96
  go_wp2
  all_goals
   go_ret
   refine ⟨ret_bool ?_, below_alloc _ _⟩
   rw [HR.out]
   unfold soundX
   simp
  all_goals (first | omega | (rw [Bool.eq_iff_iff]; simp; omega))
 ·obtain ⟨r, hr⟩ : ∃ r, r = soundX ⟨true, p, l, b⟩ := ⟨_, rfl⟩
  rw [← hr]
  have HR := Lib.hid hr
  clear hr
  go_enter Tryz.func96, Tryz.ntmps96
  go_wp2_with (first
   | go_at_call 114; refine (bandOf_any _ _ _ _ _ hl hb).mono ?_; rintro e w1 ⟨rfl, b1⟩; have t1 : Below w.heap.size w w1 := go1 b1
   | (go_at_call 115; refine (behind_any _ _ _ (by omega) (by omega)).mono ?_; rintro e w2 ⟨rfl, b2⟩; have t2 : Below w.heap.size w w2 := on t1 b2))
  all_goals
   go_ret
   refine ⟨ret_bool ?_, by first | exact t2 | exact onA t1⟩
   rw [HR.out]
   unfold soundX
   simp
  all_goals (first | omega | (rw [Bool.eq_iff_iff]; simp; omega))
end Go.Proofs.YtmcdollkmlcpbaaGreatDoor
