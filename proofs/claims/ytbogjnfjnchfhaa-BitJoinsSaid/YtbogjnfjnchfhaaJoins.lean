/- The statement BitJoins: the walk. -/
import Derived.Test.YtbogjnfjnchfhaaRef10
import Derived.Test.YtbogjnfjnchfhaaLaw4
namespace Go.Proofs.Ytbogjnfjnchfhaa
open Go.RowKit

set_option maxHeartbeats 2000000 in
theorem bitJoins_walk (V : Option Addr) (c : Nat) (E : List (List UInt8 × Int)) (w : World) (hE : BsL w V E) (hl : E.length ≤ maxLen) :
    Calls Try.prog 4 #[.slice V E.length c] w fun e w' => e = .returned (.bool true) ∧ Below w.heap.size w w' := by
  unfold maxLen at hl
  by_cases h : 20 < E.length
  · have hI : (20 : Int) < E.length := by omega
    go_enter Try.func4, Try.ntmps4
    go_wp2_with (go_at_call 12; refine (known_any _).mono ?_; rintro e w1 ⟨rfl, hb1⟩)
    go_ret
    exact ⟨rfl, hb1⟩
  · have hI : ¬ (20 : Int) < E.length := by omega
    obtain ⟨G, hG⟩ : ∃ G, G = joinSpec E := ⟨_, rfl⟩
    have HG := Lib.hid hG
    have hc11 : G.2.2 ≤ 11 := by rw [hG]; exact joinSpec_code E
    clear hG
    go_enter Try.func4, Try.ntmps4
    have kA := keepA
    go_wp2_with fail
    refine Calls.mono (known_any _) ?_
    rintro e w1 ⟨rfl, hb1⟩
    have hE1 := hE.below hb1
    go_wp2
    go_loop [3] (fun i => ∃ k : Nat, k ≤ E.length ∧ i = .int .i64 k ∧ Hid (∀ j e, E[j]? = some e → j < k → e.1.length ≤ 200)) (fun i => E.length - (intOf i).toNat)
    case atStart => exact ⟨0, Nat.zero_le _, rfl, Lib.hid fun j e _ hj => by omega⟩
    case round =>
      obtain ⟨k, hk, rfl, HA⟩ := hrel
      by_cases hlt : k < E.length
      · obtain ⟨p, o, A, c1, rfl, g1, -, -, -⟩ := hE1 k E[k] (List.getElem?_eq_getElem hlt)
        obtain ⟨n, hn⟩ : ∃ n, n = E[k] := ⟨_, rfl⟩
        rw [← hn] at g1
        have Hn := Lib.hid hn
        clear hn
        by_cases h2 : 200 < n.1.length
        · have h2I : (200 : Int) < n.1.length := by omega
          go_wp2
          go_ret
          exact ⟨rfl, hb1⟩
        · have h2I : ¬ (200 : Int) < n.1.length := by omega
          go_wp2
          go_round
          case measure => simp [intOf]; omega
          case rel => exact ⟨k + 1, by omega, by go_num, Lib.hid fun j e he hj => by
            rcases Nat.lt_or_ge j k with h3 | h3
            · exact HA.out j e he h3
            · obtain rfl : j = k := by omega
              rw [List.getElem?_eq_getElem hlt, ← Hn.out] at he
              injection he with he
              subst he
              omega⟩
      · obtain rfl : k = E.length := by omega
        have hall : ∀ e ∈ E, e.1.length ≤ 1073741824 := fun e he => by
          obtain ⟨j, hj, rfl⟩ := List.getElem_of_mem he
          have := HA.out j _ (List.getElem?_eq_getElem hj) hj
          omega
        have HAll := Lib.hid hall
        clear hall
        go_wp2_with fail
        refine Calls.mono (join_any V c E _ hE1 (by omega) HAll.out) ?_
        rw [← HG.out]
        rintro e w2 ⟨A2, c2, rfl, hown2, hb2⟩
        have t2 := on hb1 hb2
        have hB2 := hown2.bs
        go_wp2_with fail
        refine Calls.mono (refJoin_any V c E _ (hE.below (t2.alloc t2.size _)) (by omega) HAll.out) ?_
        rw [← HG.out]
        rintro e w3 ⟨A3, c3, rfl, hown3, hb3⟩
        have x3 := boxN hb3
        have t3 := on t2 hb3
        replace hB2 := hB2.go hb3
        have hB3 := hown3.bs
        go_wp2_with fail
        refine Calls.mono (refSame_any A2 A3 c2 c3 G.1 G.1 G.2.1 G.2.1 _ hB2.up hB3.up) ?_
        rintro e w4 ⟨rfl, hb4⟩
        have t4 := on t3 hb4
        go_wp2
        go_ret
        exact ⟨by simp, t4⟩

end Go.Proofs.Ytbogjnfjnchfhaa
