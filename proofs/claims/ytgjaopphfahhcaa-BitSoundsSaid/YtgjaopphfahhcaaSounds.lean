/- The statement BitSounds: the walk. -/
import Derived.Test.YtgjaopphfahhcaaLaw1
import Derived.Test.YtgjaopphfahhcaaLaw2
import Derived.Test.YtgjaopphfahhcaaRef4
import Derived.Test.YtgjaopphfahhcaaRef9
namespace Go.Proofs.Ytgjaopphfahhcaa
open Go.RowKit

set_option maxHeartbeats 1000000 in
theorem bitSounds_walk (A : Option Addr) (c : Nat) (l : List UInt8) (n : Int) (w : World) (hb : Bs w A l) (hn : -9223372036854775808 ≤ n ∧ n ≤ 9223372036854775807) (hl : l.length ≤ maxLen) :
    Calls Try.prog 4 #[.agg #[.slice A l.length c, .int .i64 n]] w fun e w' => e = .returned (.bool true) ∧ Below w.heap.size w w' := by
  have hlm := hl
  unfold maxLen at hl
  by_cases h : 1500 < l.length
  · have hI : (1500 : Int) < l.length := by omega
    go_enter Try.func4, Try.ntmps4
    go_wp2_with (go_at_call 12; refine (known_any _).mono ?_; rintro e w1 ⟨rfl, hb1⟩)
    go_ret
    exact ⟨rfl, (below_alloc _ _).trans (hb1.mono (by simp))⟩
  · have hI : ¬ (1500 : Int) < l.length := by omega
    have hb0 := hb.below (below_alloc w (.cells #[.slice A l.length c, .int .i64 n] 24))
    go_enter Try.func4, Try.ntmps4
    go_wp2_with (first
      | (go_at_call 12; refine (known_any _).mono ?_; rintro e w1 ⟨rfl, hb1⟩; obtain ⟨c0, c1, hsz1, _, _⟩ := kept1 hb1 (by simp))
      | (go_at_call 16; refine (lent_any A c l n _ (hb0.below hb1) (by omega)).mono ?_; rintro e w2 ⟨A2, c2, rfl, hown2, hb2⟩; clear c0 c1; have hb12 := hb1.trans (hb2.mono (by simpa using hsz1)); obtain ⟨c0, c1, hsz2, _, _⟩ := kept1 hb12 (by simp)))
    have hB2 := hown2.isB
    obtain ⟨_, _, hv, _, _, hB2⟩ := hown2.isB
    injection hv with e1 e2 e3
    subst e1; clear e2 e3
    have hp := plus_cell (w2.alloc (.cells #[.slice A2 l.length c2, .int .i64 n] 24))
    have d0 := (World.cell?_alloc_lt w2 (.cells #[.slice A2 l.length c2, .int .i64 n] 24) ⟨w.heap.size, 0, none⟩ (show w.heap.size < _ by omega)).trans c0
    have d1 := (World.cell?_alloc_lt w2 (.cells #[.slice A2 l.length c2, .int .i64 n] 24) ⟨w.heap.size, 1, none⟩ (show w.heap.size < _ by omega)).trans c1
    refine wp_region_ext (by kernel_rfl) (by kernel_rfl) ?_
    repeat (go_big_quiet_step ((first
      | (go_at_call 17; exact ext_of (sound_any A2 c2 l n _ ((hB2.below (below_alloc _ _)).below (plus_below _ _)) hn hlm))
      | (go_at_call 18; exact ext_of (refSound_any A c l n _ (((hb0.below hb12).below (below_alloc _ _)).below (plus_below _ _)) hn (by omega)))
      | (go_at_call 15; exact ext_of (refSame_any A2 A c2 c l l n n _ ((hB2.below (below_alloc _ _)).below (plus_below _ _)) (((hb0.below hb12).below (below_alloc _ _)).below (plus_below _ _)))))))
    refine wpQuiet_nil ?_
    rintro w3 ⟨x, rfl⟩
    go_wp2
    go_ret
    refine ⟨by simp, (((below_alloc _ _).trans (hb12.mono (by simp))).trans ((below_alloc w2 _).mono (by omega))).trans ((plus_below _ _).mono (by simp; omega))⟩

end Go.Proofs.Ytgjaopphfahhcaa
