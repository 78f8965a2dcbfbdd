/- The statements ZigApart, ZigBack, ZigOnly: the walks. -/
import Derived.Test.YtbogjnfjnchfhaaZig8
namespace Go.Proofs.Ytbogjnfjnchfhaa
open Go.RowKit

theorem list_eq_take {a b : List Int} {k : Nat} (hk : k < a.length) (hl : a.length = b.length) (h : a.take k = b.take k) (h2 : a[k] = b[k]'(by omega)) : a.take (k + 1) = b.take (k + 1) := by
  rw [List.take_succ_eq_append_getElem hk, List.take_succ_eq_append_getElem (by omega), h, h2]

set_option maxRecDepth 100000 in
set_option maxHeartbeats 2000000 in
theorem zigApart_walk (V U : Option Addr) (c d : Nat) (a b : List Int) (w : World) (hV : Vs w V (a.map (Value.int .i64))) (hU : Vs w U (b.map (Value.int .i64))) (hal : a.length ≤ maxLen) (hbl : b.length ≤ maxLen)
    (ha : ∀ v ∈ a, -9223372036854775808 ≤ v ∧ v ≤ 9223372036854775807) (hb : ∀ v ∈ b, -9223372036854775808 ≤ v ∧ v ≤ 9223372036854775807) :
    Calls Try.prog 6 #[.slice V a.length c, .slice U b.length d] w fun e w' => e = .returned (.bool true) ∧ Below w.heap.size w w' := by
  unfold maxLen at hal hbl
  have HA := Lib.hid ha
  have HB := Lib.hid hb
  clear ha hb
  by_cases h : 30 < a.length
  · have hI : decide ((30 : Int) < a.length) = true := decide_eq_true (by omega)
    have hI2 : decide (30 < a.length) = true := decide_eq_true h
    go_enter Try.func6, Try.ntmps6
    go_wp2_with (go_at_call 20; refine (known2_any _).mono ?_; rintro e w1 ⟨rfl, hb1⟩)
    go_ret
    exact ⟨rfl, hb1⟩
  · have hI : decide ((30 : Int) < a.length) = false := decide_eq_false (by omega)
    have hI2 : decide (30 < a.length) = false := decide_eq_false h
    by_cases h' : 30 < b.length
    · have hJ : decide ((30 : Int) < b.length) = true := decide_eq_true (by omega)
      have hJ2 : decide (30 < b.length) = true := decide_eq_true h'
      go_enter Try.func6, Try.ntmps6
      go_wp2_with (go_at_call 20; refine (known2_any _).mono ?_; rintro e w1 ⟨rfl, hb1⟩)
      go_ret
      exact ⟨rfl, hb1⟩
    · have hJ : decide ((30 : Int) < b.length) = false := decide_eq_false (by omega)
      have hJ2 : decide (30 < b.length) = false := decide_eq_false h'
      obtain ⟨S, hS⟩ : ∃ S, S = decide (a = b) := ⟨_, rfl⟩
      have HS := Lib.hid hS
      clear hS
      go_enter Try.func6, Try.ntmps6
      have kA := keepA
      go_wp2_with fail
      refine Calls.mono (known2_any _) ?_
      rintro e w1 ⟨rfl, hb1⟩
      go_wp2_with fail
      go_loopw [5, 6] (fun q i wr => ∃ (k : Nat) (s : Bool), k ≤ a.length ∧ i = .int .i64 k ∧ q = .bool s ∧ Hid (s = true → a.length = b.length ∧ a.take k = b.take k) ∧ Hid (s = false → a ≠ b) ∧ Below w1.heap.size w1 wr) (fun _ i _ => a.length - (intOf i).toNat)
      case atStart =>
        refine ⟨0, decide (a.length = b.length), Nat.zero_le _, rfl, ?_, Lib.hid fun h => ⟨of_decide_eq_true h, rfl⟩, Lib.hid fun h e => ?_, Below.refl _ _⟩
        · congr 1
          rw [Bool.eq_iff_iff, decide_eq_true_eq]
          simp
          omega
        · rw [e] at h; simp at h
      case round =>
        obtain ⟨k, s, hk, rfl, rfl, HT, HF, hbel⟩ := hrel
        have tr := on hb1 hbel
        by_cases hgo : k < a.length ∧ s = true
        · obtain ⟨hlt, rfl⟩ := hgo
          obtain ⟨hll, htk⟩ := HT.out rfl
          have Htk := Lib.hid htk
          clear htk
          have hlt2 : k < b.length := by omega
          obtain ⟨p, o, rfl, hc⟩ := hV k (.int .i64 a[k]) (by rw [List.getElem?_map, List.getElem?_eq_getElem hlt]; rfl)
          obtain ⟨p', o', rfl, hc'⟩ := hU k (.int .i64 b[k]) (by rw [List.getElem?_map, List.getElem?_eq_getElem hlt2]; rfl)
          have g1 := (tr.cell (cell_lt hc)).trans hc
          have g2 := (tr.cell (cell_lt hc')).trans hc'
          have hkI : (k : Int) < b.length := by omega
          have HLL := Lib.hid hll
          clear hc hc' hll
          go_wp2_with fail
          go_quiet (fail)
          go_wp2
          go_roundw
          case measure => simp [intOf]; omega
          case rel =>
            refine ⟨k + 1, decide (a[k] = b[k]), by omega, by go_num, rfl, Lib.hid fun h => ⟨HLL.out, list_eq_take hlt HLL.out Htk.out (of_decide_eq_true h)⟩, Lib.hid fun h e => ?_, below_drewN hbel _⟩
            subst e; simp at h
        · have hsS : Hid (S = s) := Lib.hid (by
            rw [HS.out]
            cases s
            · exact decide_eq_false (HF.out rfl)
            · obtain ⟨hll, htk⟩ := HT.out rfl
              have hkl : ¬ k < a.length := fun h => hgo ⟨h, rfl⟩
              rw [List.take_of_length_le (by omega), List.take_of_length_le (by omega)] at htk
              exact decide_eq_true htk)
          have hways : (k < a.length ∧ s = false) ∨ ¬ k < a.length := by
            cases s
            · by_cases h : k < a.length
              · exact .inl ⟨h, rfl⟩
              · exact .inr h
            · exact .inr fun h => hgo ⟨h, rfl⟩
          clear hgo HT HF
          rcases hways with ⟨hlt, rfl⟩ | hlt
          all_goals
            go_wp2_with fail
            refine Calls.mono (zrow_any V c a _ (hV.below tr) (by omega) HA.out) ?_
            rintro e w2 ⟨M, A2, c2, HM, hMl, rfl, hO2, hb2⟩
            have t2 := on tr hb2
            go_wp2_with fail
            refine Calls.mono (zrow_any U d b _ (hU.below t2) (by omega) HB.out) ?_
            rintro e w3 ⟨N, A3, c3, HN, hNl, rfl, hO3, hb3⟩
            have t3 := on t2 hb3
            go_wp2_with fail
            refine Calls.mono (same_M A2 A3 c2 c3 M N _ (hO2.bs.go hb3) hO3.bs) ?_
            rintro e w4 ⟨rfl, hb4⟩
            have t4 := on t3 hb4
            have hfin : decide (M = N) = S := by rw [HM.out, HN.out, HS.out]; exact zigApart_end HA.out HB.out
            rw [hfin, hsS.out]
            go_wp2
            go_ret
            exact ⟨by simp, t4⟩

end Go.Proofs.Ytbogjnfjnchfhaa
