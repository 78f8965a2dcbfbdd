/- Joined: Win2. -/
import Derived.Test.YtnjcdihgaidlbaaGreatDoorQ8
import Derived.Tactics2
import Derived.Laws.LoneSync
import Derived.RegionTactic
import Derived.RegionCalls
import Derived.Deep.RegionWith
set_option linter.unusedSimpArgs false
set_option linter.unusedVariables false
set_option linter.unusedSimpArgs false
set_option linter.unusedVariables false
namespace Go.Proofs.YtnjcdihgaidlbaaGreatDoor
open Go.RowKit
theorem wnew_any (n : Int) (h1 : 1 ≤ n) (h2 : n ≤ 1048576) (w : World) :
  Calls Tryz.prog 30 #[.int .i64 n] w fun e w' => e = .returned (.pointer (some ⟨w.heap.size, 0, none⟩)) ∧ w' = w.alloc (.cells #[.int .i64 n, .int .i64 0, .slice none 0 0] 132) := by
 have k1 : ¬ n < 1 := by omega
 have k2 : ¬ (1048576 : Int) < n := by omega
 go_enter Tryz.func30, Tryz.ntmps30
 go_wp2_with fail
 go_ret
 exact ⟨rfl, rfl⟩
theorem aload_any (a : Addr) (n : Int) (w : World) (h : w.cell? a = some (.int .i64 n)) :
  Calls Tryz.prog 69 #[.pointer (some a)] w fun e w' => e = .returned (.int .i64 n) ∧ w' = w := by
 have hl := run_call_load (P := Tryz.prog) Tryz.func82 (by kernel_rfl) (by kernel_rfl) (by kernel_rfl) .i64 (by kernel_rfl) h
 go_enter Tryz.func69, Tryz.ntmps69
 go_wp2
 go_ret
 exact ⟨rfl, rfl⟩
theorem aadd_any (a : Addr) (n d : Int) (w : World) (h : w.cell? a = some (.int .i64 n)) (hz : w.frozen? a = false) (hb : -9223372036854775808 ≤ n + d ∧ n + d ≤ 9223372036854775807) :
  Calls Tryz.prog 75 #[.pointer (some a), .int .i64 d] w fun e w' => e = .returned (.int .i64 (n + d)) ∧ w' = w.setCell a (.int .i64 (n + d)) := by
 have hw : IntKind.i64.wrap (n + d) = n + d := by rw [IntKind.wrap_i64]; omega
 have hl := run_call_add (P := Tryz.prog) (y := d) (s := n + d) Tryz.func87 (by kernel_rfl) (by kernel_rfl) (by kernel_rfl) .i64 (by kernel_rfl) h hz (by simp [Op.intArith, go_sem, hw])
 go_enter Tryz.func75, Tryz.ntmps75
 go_wp2
 go_ret
 exact ⟨rfl, rfl⟩
theorem win_in (g : Nat) (b n : Int) (V : Value) (w : World) (h : Blk w g 132 #[.int .i64 b, .int .i64 n, V]) :
  Calls Tryz.prog 50 #[.pointer (some ⟨g, 0, none⟩)] w fun e w' => e = .returned (.int .i64 n) ∧ w' = w := by
 have h1 := h.cell 1
 go_enter Tryz.func50, Tryz.ntmps50
 go_wp2_with fail
 refine (aload_any ⟨g, 1, none⟩ n w h1).mono ?_
 rintro e w1 ⟨rfl, rfl⟩
 go_wp2_with fail
 go_ret
 exact ⟨rfl, rfl⟩
theorem win_room (g : Nat) (b n : Int) (V : Value) (w : World) (h : Blk w g 132 #[.int .i64 b, .int .i64 n, V]) :
  Calls Tryz.prog 32 #[.pointer (some ⟨g, 0, none⟩)] w fun e w' => e = .returned (.bool (decide (n < b))) ∧ Below w.heap.size w w' := by
 have h0 := h.cell 0
 have hp := plus_cell w
 have HI := Lib.hid (fun x => win_in g b n V (plus w x) (h.below (plus_below w x) h.lt))
 have hz : w.cell? ⟨g, 0, none⟩ = some (.int .i64 b) := h0
 clear h h0
 go_enter Tryz.func32, Tryz.ntmps32
 go_wp2_with fail
 refine wp_region_ext (by kernel_rfl) (by kernel_rfl) ?_
 repeat (go_big_quiet_step ((go_at_call 50; exact ext_of ((HI.out _).mono fun _ _ h => ⟨h.1, h.2 ▸ Below.refl _ _⟩))))
 refine wpQuiet_nil ?_
 rintro w9 ⟨x, rfl⟩
 go_wp2_with fail
 go_ret
 exact ⟨rfl, plus_below _ _⟩
end Go.Proofs.YtnjcdihgaidlbaaGreatDoor
