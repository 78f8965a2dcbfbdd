/- StuffWraps. -/
import Derived.Test.YtipbkfjmblkolaaStf7
namespace Go.Proofs.Ytipbkfjmblkolaa
open Go.RowKit

set_option maxRecDepth 100000 in
set_option maxHeartbeats 4000000 in
theorem stuffWraps_walk (A : Option Addr) (c : Nat) (l : List UInt8) (w : World) (hl : Bs w A l) (hc : l.length ≤ c) (hA : Fm A c) :
    Calls Try.prog 8 #[.slice A l.length c] w fun e w' => e = .returned (.bool true) ∧ Below w.heap.size w w' := by
  rcases Nat.lt_or_ge 2000 l.length with h0 | h0
  · have d1 : decide ((2000 : Int) < l.length) = true := by simp; omega
    have d2 : decide (2000 < l.length) = true := by simp; omega
    go_enter Try.func8, Try.ntmps8
    go_wp2_with (go_at_call 18; refine (stuffKnown_any _).mono ?_; rintro e w1 ⟨rfl, hb1⟩)
    go_ret
    exact ⟨rfl, hb1⟩
  have d1 : decide ((2000 : Int) < l.length) = false := by simp; omega
  have d2 : decide (2000 < l.length) = false := by simp; omega
  have hn : l.length ≤ 100000 := by omega
  have Hc := Lib.hid hc
  have Hn := Lib.hid hn
  have HA := Lib.hid hA
  clear h0 hn hc hA
  have hmx : Try.prog.follows .mixedOrders = true := by kernel_rfl
  go_enter Try.func8, Try.ntmps8
  go_wp2_with fail
  refine (stuffKnown_any _).mono ?_
  rintro e w1 ⟨rfl, hb1⟩
  have a1 := hl.below hb1
  go_wp2_with (at_builtin; go_must (refine appAll _ rfl (.tmp 12) (.tmp 13) rfl w1.heap.size _ [] rfl (OwnB.nil _ _) A c l rfl a1 (by have := Hn.out; simp; omega) (Nat.le_refl _) ?_); intro A3 c3 w3 o3 b3; rw [List.nil_append, List.length_nil, Nat.zero_add] at o3; rw [List.length_nil, Nat.zero_add])
  have a3 := a1.below b3
  have t3 := on hb1 b3
  have Hc3 : Hid (l.length ≤ c3) := by
    obtain ⟨X, k, e, h1, _⟩ := o3.isB
    injection e with e1 e2 e3
    rw [e3]; exact Lib.hid h1
  go_region_with (first
    | (go_at_call 19; refine (wrap_any A3 c3 l w3.drew o3.bs Hc3.out Hn.out).mono ?_; rintro e w4 ⟨A4, n4, c4, rfl, rfl, o4, b4⟩; have s4 := str_of o4.bs c4)
    | (go_at_call 21; refine (refWrap_any A c l _ (a3.go b4) HA.out Hc.out Hn.out).mono ?_; rintro e w5 ⟨A5, n5, c5, rfl, rfl, o5, b5⟩; have s5 := str_of (o4.below b5).bs c4; have s6 := str_of o5.bs c5; have s7 := str_of ((o3.go b4).below b5).bs c3; have s8 := str_of ((a3.go b4).below b5) c))
  all_goals
    have t5 := on (on t3 b4) b5
    simp [Act.put]
    go_wp2_with fail
    go_ret
    first | exact ⟨rfl, t5⟩ | exact ⟨by simp, t5⟩

end Go.Proofs.Ytipbkfjmblkolaa
