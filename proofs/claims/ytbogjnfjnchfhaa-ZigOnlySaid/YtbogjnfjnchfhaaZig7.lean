/- The statements ZigFolds, ZigPuts, ZigGets, ZigOnly: the walks. -/
import Derived.Test.YtbogjnfjnchfhaaZig6
import Derived.Test.YtbogjnfjnchfhaaRef8
import Derived.Test.YtbogjnfjnchfhaaRef9
import Derived.Test.YtbogjnfjnchfhaaLaw4
namespace Go.Proofs.Ytbogjnfjnchfhaa
open Go.RowKit

theorem zigFolds_walk (v : Int) (n : Nat) (w : World) (hv : -9223372036854775808 ≤ v ∧ v ≤ 9223372036854775807) (hn : (n : Int) ≤ 18446744073709551615) :
    Calls Try.prog 7 #[.int .i64 v, .int .u64 n] w fun e w' => e = .returned (.bool true) ∧ Below w.heap.size w w' := by
  have e1 := unfold_fold v
  have e2 := fold_unfold n
  have hl := foldZ_lt v hv
  have hu := unfoldZ_bd n (by omega)
  have E1 := Lib.hid e1
  have E2 := Lib.hid e2
  clear e1 e2
  obtain ⟨F, hF⟩ : ∃ F, F = foldZ v := ⟨_, rfl⟩
  obtain ⟨U, hU⟩ : ∃ U, U = unfoldZ n := ⟨_, rfl⟩
  rw [← hF] at hl E1
  rw [← hU] at hu E2
  have HF := Lib.hid hF
  have HU := Lib.hid hU
  clear hF hU
  go_enter Try.func7, Try.ntmps7
  go_wp2_with fail
  refine Calls.mono (known2_any _) ?_
  rintro e w1 ⟨rfl, hb1⟩
  go_wp2_with fail
  refine Calls.mono (fold_any v _ hv) ?_
  rw [← HF.out]
  rintro e w2 ⟨rfl, rfl⟩
  go_wp2_with fail
  refine Calls.mono (refFold_any v _ hv) ?_
  rw [← HF.out]
  rintro e w2 ⟨rfl, rfl⟩
  go_wp2_with fail
  refine Calls.mono (unfold_any n _ (by omega)) ?_
  rw [← HU.out]
  rintro e w2 ⟨rfl, rfl⟩
  go_wp2_with fail
  refine Calls.mono (refUnfold_any n _ (by omega)) ?_
  rw [← HU.out]
  rintro e w2 ⟨rfl, rfl⟩
  go_wp2_with fail
  refine Calls.mono (fold_any v _ hv) ?_
  rw [← HF.out]
  rintro e w2 ⟨rfl, rfl⟩
  go_wp2_with fail
  refine Calls.mono (unfold_any F _ hl) ?_
  rw [E1.out]
  rintro e w2 ⟨rfl, rfl⟩
  go_wp2_with fail
  refine Calls.mono (unfold_any n _ (by omega)) ?_
  rw [← HU.out]
  rintro e w2 ⟨rfl, rfl⟩
  go_wp2_with fail
  refine Calls.mono (fold_any U _ hu) ?_
  rw [E2.out]
  rintro e w2 ⟨rfl, rfl⟩
  go_wp2
  go_ret
  exact ⟨rfl, hb1⟩

set_option maxHeartbeats 1000000 in
theorem zigPuts_walk (A : Option Addr) (c : Nat) (l : List UInt8) (n v : Int) (w : World) (hb : Bs w A l) (hn : -9223372036854775808 ≤ n ∧ n ≤ 9223372036854775807) (hl : l.length ≤ maxLen) (hv : -9223372036854775808 ≤ v ∧ v ≤ 9223372036854775807) :
    Calls Try.prog 8 #[.agg #[.slice A l.length c, .int .i64 n], .int .i64 v] w fun e w' => e = .returned (.bool true) ∧ Below w.heap.size w w' := by
  unfold maxLen at hl
  by_cases h : 500 < l.length
  · have hI : (500 : Int) < l.length := by omega
    go_enter Try.func8, Try.ntmps8
    go_wp2_with (go_at_call 20; refine (known2_any _).mono ?_; rintro e w1 ⟨rfl, hb1⟩)
    go_ret
    exact ⟨rfl, go1 (w := w) hb1⟩
  · have hI : ¬ (500 : Int) < l.length := by omega
    obtain ⟨G, hG⟩ : ∃ G, G = zputSpec l n v := ⟨_, rfl⟩
    have HG := Lib.hid hG
    have hc11 : G.2.2 ≤ 11 := by rw [hG]; exact zputSpec_code l n v
    clear hG
    go_enter Try.func8, Try.ntmps8
    have kA := keepA
    go_wp2_with fail
    refine Calls.mono (known2_any _) ?_
    rintro e w1 ⟨rfl, hb1⟩
    have x1 := boxN hb1
    have t1 := go1 (w := w) hb1
    go_wp2_with fail
    refine Calls.mono (zput_any A c l n v _ (hb.below t1) hn (by omega) hv) ?_
    rw [← HG.out]
    rintro e w2 ⟨A2, c2, rfl, hO2, hb2⟩
    have x2 := box hb2 x1
    have t2 := on t1 hb2
    have hB2 := hO2.bs
    clear x1
    go_wp2_with fail
    refine Calls.mono (refZput_any A c l n v _ (hb.on t2) hn (by omega) hv) ?_
    rw [← HG.out]
    rintro e w3 ⟨A3, c3, rfl, hO3, hb3⟩
    have y3 := boxN hb3
    have t3 := on t2 hb3
    have hB3 := hO3.bs
    replace hB2 := hB2.go hb3
    clear x2
    go_wp2_with fail
    refine Calls.mono (refSame_any A2 A3 c2 c3 G.1 G.1 G.2.1 G.2.1 _ hB2.up hB3.up) ?_
    rintro e w4 ⟨rfl, hb4⟩
    have t4 := on t3 hb4
    go_wp2
    go_ret
    exact ⟨by simp, t4⟩

set_option maxHeartbeats 1000000 in
theorem zigGets_walk (A : Option Addr) (c : Nat) (l : List UInt8) (n a : Int) (w : World) (hb : Bs w A l) (hn : -9223372036854775808 ≤ n ∧ n ≤ 9223372036854775807) (hl : l.length ≤ maxLen) (ha : -9223372036854775808 ≤ a ∧ a ≤ 9223372036854775807) :
    Calls Try.prog 9 #[.agg #[.slice A l.length c, .int .i64 n], .int .i64 a] w fun e w' => e = .returned (.bool true) ∧ Below w.heap.size w w' := by
  unfold maxLen at hl
  by_cases h : 500 < l.length
  · have hI : (500 : Int) < l.length := by omega
    go_enter Try.func9, Try.ntmps9
    go_wp2_with (go_at_call 20; refine (known2_any _).mono ?_; rintro e w1 ⟨rfl, hb1⟩)
    go_ret
    exact ⟨rfl, go1 (w := w) hb1⟩
  · have hI : ¬ (500 : Int) < l.length := by omega
    obtain ⟨G, hG⟩ : ∃ G, G = zgetSpec l n a := ⟨_, rfl⟩
    have HG := Lib.hid hG
    have hc11 : G.2.2 ≤ 11 := by rw [hG]; exact zgetSpec_code l n a
    clear hG
    go_enter Try.func9, Try.ntmps9
    have kA := keepA
    go_wp2_with fail
    refine Calls.mono (known2_any _) ?_
    rintro e w1 ⟨rfl, hb1⟩
    have x1 := boxN hb1
    have t1 := go1 (w := w) hb1
    go_wp2_with fail
    refine Calls.mono (zget_any A c l n a _ (hb.below t1) hn (by omega) ha) ?_
    rw [← HG.out]
    rintro e w2 ⟨rfl, hb2⟩
    have x2 := box hb2 x1
    have t2 := on t1 hb2
    clear x1
    go_wp2_with fail
    refine Calls.mono (refZget_any A c l n a _ (hb.below t2) hn (by omega) ha) ?_
    rw [← HG.out]
    rintro e w3 ⟨rfl, hb3⟩
    have t3 := on t2 hb3
    go_wp2
    go_ret
    exact ⟨by simp, t3⟩

end Go.Proofs.Ytbogjnfjnchfhaa
