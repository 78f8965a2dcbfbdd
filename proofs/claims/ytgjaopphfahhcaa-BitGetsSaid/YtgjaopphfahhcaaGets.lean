/- The statement BitGets: the walk. -/
import Derived.Test.YtgjaopphfahhcaaLaw2
import Derived.Test.YtgjaopphfahhcaaRef7
namespace Go.Proofs.Ytgjaopphfahhcaa
open Go.RowKit

set_option maxHeartbeats 1000000 in
theorem bitGets_walk (A : Option Addr) (c : Nat) (l : List UInt8) (n a b : Int) (w : World) (hb : Bs w A l) (hn : -9223372036854775808 ≤ n ∧ n ≤ 9223372036854775807) (hl : l.length ≤ maxLen)
    (ha : -9223372036854775808 ≤ a ∧ a ≤ 9223372036854775807) (hwd : -9223372036854775808 ≤ b ∧ b ≤ 9223372036854775807) :
    Calls Try.prog 6 #[.agg #[.slice A l.length c, .int .i64 n], .int .i64 a, .int .i64 b] w fun e w' => e = .returned (.bool true) ∧ Below w.heap.size w w' := by
  unfold maxLen at hl
  by_cases h : 1500 < l.length
  · have hI : (1500 : Int) < l.length := by omega
    go_enter Try.func6, Try.ntmps6
    go_wp2_with (go_at_call 12; refine (known_any _).mono ?_; rintro e w1 ⟨rfl, hb1⟩)
    go_ret
    exact ⟨rfl, (below_alloc _ _).trans (hb1.mono (by simp))⟩
  · have hI : ¬ (1500 : Int) < l.length := by omega
    have hb0 := hb.below (below_alloc w (.cells #[.slice A l.length c, .int .i64 n] 24))
    obtain ⟨G, hG⟩ : ∃ G, G = getSpec l n a b := ⟨_, rfl⟩
    have HG := Lib.hid hG
    clear hG
    have hc11 : G.2 ≤ 11 := by rw [HG.out]; exact getSpec_code l n a b
    go_enter Try.func6, Try.ntmps6
    go_wp2_with (first
      | (go_at_call 12; refine (known_any _).mono ?_; rintro e w1 ⟨rfl, hb1⟩; have k1 := keep hb1)
      | (go_at_call 20; refine (get_any A c l n a b _ (hb0.below hb1) hn (by omega) ha hwd).mono ?_; rw [← HG.out]; rintro e w2 ⟨rfl, hb2⟩; have k2 := keep hb2)
      | (go_at_call 21; refine (refGet_any A c l n a b _ ((hb0.below hb1).below hb2) hn (by omega) ha hwd).mono ?_; rw [← HG.out]; rintro e w3 ⟨rfl, hb3⟩; have k3 := keep hb3))
    go_ret
    have s1 := hb1.size
    have s2 := hb2.size
    simp at s1
    exact ⟨rfl, (((below_alloc _ _).trans (hb1.mono (by simp))).trans (hb2.mono (by omega))).trans (hb3.mono (by omega))⟩

end Go.Proofs.Ytgjaopphfahhcaa
