/- Contracts of the document's own functions of layer 1: List. -/
import Derived.Test.YtfooggamdbdniaaDoorOwn
import Derived.Test.YtfooggamdbdniaaDoorRef1
namespace Go.Proofs.YtfooggamdbdniaaDoor
open Go.RowKit

set_option maxHeartbeats 400000 in
theorem refList_any (A : Option Addr) (c : Nat) (l : List UInt8) (n : Nat) (w : World) (hb : Bs w A l) (hn : n ≤ 8 * l.length) (hl : l.length ≤ 1099511627776) :
    Calls Tryd.prog 25 #[.agg #[.slice A l.length c, .int .i64 n]] w fun e w' => ∃ A' c', e = .returned (.slice A' n c') ∧ OwnB w' w.heap.size (.slice A' n c') (u8s (bitl l n)) ∧ Below w.heap.size w w' := by
  go_enter Tryd.func25, Tryd.ntmps25
  go_wp2
  go_loopw [3, 4] (fun v i wr => ∃ k : Nat, k ≤ n ∧ i = .int .i64 k ∧ OwnB wr (w.heap.size + 1) v (u8s (bitl l k)) ∧ Below (w.heap.size + 1) (w.alloc (.cells #[.slice A l.length c, .int .i64 n] 29)) wr)
    (fun _ i _ => n - (intOf i).toNat)
  case atStart => exact ⟨0, Nat.zero_le _, rfl, OwnB.nil _ _, Below.refl _ _⟩
  case round =>
    obtain ⟨k, hk, rfl, hown, hbel⟩ := hrel
    have hsz : w.heap.size + 1 ≤ wr.heap.size := by have := hbel.size; simpa using this
    have c0 : wr.cell? ⟨w.heap.size, 0, none⟩ = some (.slice A l.length c) := (hbel.cell (Nat.lt_succ_self _)).trans (box_cell _ _ _ _ _ rfl)
    have c1 : wr.cell? ⟨w.heap.size, 1, none⟩ = some (.int .i64 n) := (hbel.cell (Nat.lt_succ_self _)).trans (box_cell _ _ _ _ _ rfl)
    have hBs : Bs wr A l := (hb.below (below_alloc _ _)).below (by simpa using hbel)
    by_cases hlt : k < n
    · go_wp2_with (first
        | (go_at_call 30; refine (refBit_any A c l n k _ hBs (by omega) (by unfold maxLen; omega)).mono ?_; rintro e w1 ⟨rfl, hb1⟩)
        | (at_builtin; go_must (refine appB _ rfl (.tmp 11) (.tmp 15) rfl (w.heap.size + 1) _ _ rfl ((hown.below hb1).alloc _) w1.heap.size (b2u (bt l k)) rfl (box_cell _ _ _ _ _ rfl) (by rw [u8s_length, bitl_length]; omega) (by have := hb1.size; simp; omega) ?_); intro g2 cap2 w2 hown2 hbel2))
      go_roundw
      case rel => exact ⟨k + 1, by omega, by go_num, by rw [bitl_succ, u8s_snoc]; exact hown2, (hbel.trans (hb1.mono (by omega))).trans (((Below.refl _ _).alloc (by have := hb1.size; omega) _).trans hbel2)⟩
      case measure => simp [intOf]; omega
    · obtain rfl : k = n := by omega
      obtain ⟨A', c', hv, _⟩ := hown.isB
      rw [u8s_length, bitl_length] at hv
      subst hv
      go_wp2
      go_ret
      exact ⟨_, _, rfl, hown.mono (by omega), (below_alloc _ _).trans (hbel.mono (by omega))⟩

end Go.Proofs.YtfooggamdbdniaaDoor
