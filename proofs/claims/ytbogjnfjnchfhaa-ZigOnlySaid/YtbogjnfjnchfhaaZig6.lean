/- Contracts of layer 2 at whatever bits; the statements' example. -/
import Derived.Test.YtbogjnfjnchfhaaOwn
import Derived.Test.YtbogjnfjnchfhaaZigR3
namespace Go.Proofs.Ytbogjnfjnchfhaa
open Go.RowKit

/-- what Get answers at whatever bits and place -/
def zgetSpec (l : List UInt8) (n a : Int) : Int × Nat × Nat :=
  if soundB l n = false then (0, 0, 11) else if a < 0 ∨ n < a then (0, 0, 10) else zres a.toNat (zget ((bitl l n.toNat).drop a.toNat))
theorem zgetSpec_code (l : List UInt8) (n a : Int) : (zgetSpec l n a).2.2 ≤ 11 := by
  unfold zgetSpec
  split
  · exact Nat.le_refl _
  · split
    · show 10 ≤ 11; decide
    · exact zres_code _ _

theorem zget_any (A : Option Addr) (c : Nat) (l : List UInt8) (n a : Int) (w : World) (hb : Bs w A l) (hn : -9223372036854775808 ≤ n ∧ n ≤ 9223372036854775807) (hl : l.length ≤ 134217728) (ha : -9223372036854775808 ≤ a ∧ a ≤ 9223372036854775807) :
    Calls Try.prog 28 #[.agg #[.slice A l.length c, .int .i64 n], .int .i64 a] w fun e w' =>
      e = .returned (.tuple #[.int .i64 (zgetSpec l n a).1, .int .i64 (zgetSpec l n a).2.1, .int .u16 (zgetSpec l n a).2.2]) ∧ Below w.heap.size w w' := by
  by_cases hs : soundB l n = false
  · have e : zgetSpec l n a = (0, 0, 11) := by unfold zgetSpec; rw [if_pos hs]
    rw [e]
    have HS := Lib.hid hs
    clear hs e
    go_enter Try.func28, Try.ntmps28
    go_wp2_with fail
    refine Calls.mono (sound_any A c l n _ hb.up hn (by unfold maxLen; omega)) ?_
    rw [HS.out]
    rintro e w1 ⟨rfl, hb1⟩
    go_wp2
    go_ret3
    exact ⟨rfl, go1 (w := w) hb1⟩
  · have hs1 : soundB l n = true := by simpa using hs
    obtain ⟨m, rfl, hm8, -⟩ := sound_nat hs1
    have hpk := pack_sound hs1
    obtain ⟨M, hM⟩ : ∃ M, M = bitl l m := ⟨_, rfl⟩
    have hml : m = M.length := by rw [hM, bitl_length]
    by_cases ho : a < 0 ∨ (m : Int) < a
    · have e : zgetSpec l m a = (0, 0, 10) := by unfold zgetSpec; rw [if_neg hs, if_pos ho]
      rw [e]
      clear e hs hs1
      rw [← hM] at hpk
      clear hM
      subst hpk
      subst hml
      go_enter Try.func28, Try.ntmps28
      go_wp2_with fail
      refine Calls.mono (soundM A c M _ hb.up (by omega)) ?_
      rintro e w1 ⟨rfl, hb1⟩
      have x1 := boxN hb1
      have t1 := go1 (w := w) hb1
      go_wp2_with fail
      refine Calls.mono (prefixed_out A c M a _ (hb.below t1) ha ho (by omega)) ?_
      rintro e w2 ⟨rfl, hb2⟩
      have t2 := on t1 hb2
      go_wp2
      go_ret3
      exact ⟨rfl, onA t2⟩
    · obtain ⟨b, rfl⟩ := Int.eq_ofNat_of_zero_le (show 0 ≤ a by omega)
      have e : zgetSpec l m b = zres b (zget (M.drop b)) := by unfold zgetSpec; rw [if_neg hs, if_neg ho, Int.toNat_natCast, Int.toNat_natCast, ← hM]
      rw [e]
      clear e hs hs1
      rw [← hM] at hpk
      clear hM
      subst hpk
      subst hml
      exact zget_in A c M b w hb (by omega) (by omega) _ rfl

theorem refZget_any (A : Option Addr) (c : Nat) (l : List UInt8) (n a : Int) (w : World) (hb : Bs w A l) (hn : -9223372036854775808 ≤ n ∧ n ≤ 9223372036854775807) (hl : l.length ≤ 134217728) (ha : -9223372036854775808 ≤ a ∧ a ≤ 9223372036854775807) :
    Calls Try.prog 29 #[.agg #[.slice A l.length c, .int .i64 n], .int .i64 a] w fun e w' =>
      e = .returned (.tuple #[.int .i64 (zgetSpec l n a).1, .int .i64 (zgetSpec l n a).2.1, .int .i64 (zgetSpec l n a).2.2]) ∧ Below w.heap.size w w' := by
  by_cases hs : soundB l n = false
  · have e : zgetSpec l n a = (0, 0, 11) := by unfold zgetSpec; rw [if_pos hs]
    rw [e]
    have HS := Lib.hid hs
    clear hs e
    go_enter Try.func29, Try.ntmps29
    go_wp2_with fail
    refine Calls.mono (refSound_any A c l n _ hb.up hn (by omega)) ?_
    rw [HS.out]
    rintro e w1 ⟨rfl, hb1⟩
    go_wp2
    go_ret3
    exact ⟨rfl, go1 (w := w) hb1⟩
  · have hs1 : soundB l n = true := by simpa using hs
    obtain ⟨m, rfl, hm8, -⟩ := sound_nat hs1
    have hpk := pack_sound hs1
    obtain ⟨M, hM⟩ : ∃ M, M = bitl l m := ⟨_, rfl⟩
    have hml : m = M.length := by rw [hM, bitl_length]
    by_cases ho : a < 0 ∨ (m : Int) < a
    · have e : zgetSpec l m a = (0, 0, 10) := by unfold zgetSpec; rw [if_neg hs, if_pos ho]
      rw [e]
      have HS := Lib.hid hs1
      clear e hs hs1 hpk hM hml
      have key : ∀ q, decide (a < 0) = q → (q = false → (m : Int) < a) → Calls Try.prog 29 #[.agg #[.slice A l.length c, .int .i64 m], .int .i64 a] w fun e w' =>
          e = .returned (.tuple #[.int .i64 0, .int .i64 0, .int .i64 10]) ∧ Below w.heap.size w w' := by
        intro q h1 h2
        cases q
        all_goals
          try have hg := h2 rfl
          clear h2 ho
          go_enter Try.func29, Try.ntmps29
          go_wp2_with fail
          refine Calls.mono (refSound_any A c l m _ hb.up hn (by omega)) ?_
          rw [HS.out]
          rintro e w1 ⟨rfl, hb1⟩
          have x1 := boxN hb1
          go_wp2
          go_ret3
          exact ⟨rfl, go1 (w := w) hb1⟩
      exact key _ rfl (fun h => by simp at h; omega)
    · obtain ⟨b, rfl⟩ := Int.eq_ofNat_of_zero_le (show 0 ≤ a by omega)
      have e : zgetSpec l m b = zres b (zget (M.drop b)) := by unfold zgetSpec; rw [if_neg hs, if_neg ho, Int.toNat_natCast, Int.toNat_natCast, ← hM]
      rw [e]
      clear e hs hs1
      rw [← hM] at hpk
      clear hM
      subst hpk
      subst hml
      exact refZget_in A c M b w hb (by omega) (by omega) _ rfl

/-- Put on bits that are known to be sound -/
theorem zputM (A : Option Addr) (c : Nat) (L : List Bool) (v : Int) (w : World) (hb : Bs w A (pack L)) (hL : L.length ≤ 1073741824) (hv : -9223372036854775808 ≤ v ∧ v ≤ 9223372036854775807) :
    Calls Try.prog 26 #[.agg #[.slice A (pack L).length c, .int .i64 L.length], .int .i64 v] w fun e w' =>
      ∃ M A' c', Hid (M = L ++ zenc (foldZ v)) ∧ L.length + 1 ≤ M.length ∧ M.length ≤ L.length + 69 ∧ e = .returned (.tuple #[.agg #[.slice A' (pack M).length c', .int .i64 M.length], .int .u16 0]) ∧ OwnB w' w.heap.size (.slice A' (pack M).length c') (pack M) ∧ Below w.heap.size w w' := by
  have hp : (pack L).length ≤ 1073741824 := by rw [pack_length]; unfold nb; omega
  have h := zput_any A c (pack L) L.length v w hb (by omega) hp hv
  have e : zputSpec (pack L) L.length v = (pack (L ++ zenc (foldZ v)), (L ++ zenc (foldZ v)).length, 0) := by
    unfold zputSpec
    rw [if_pos (sound_pack L), Int.toNat_natCast, bits_pack]
  rw [e] at h
  have hz := zenc_pos (foldZ v)
  exact h.mono fun e w' ⟨A', c', he, ho, hbel⟩ => ⟨_, A', c', rfl, by rw [List.length_append]; omega, by rw [List.length_append]; omega, he, ho, hbel⟩

theorem bs_two (w : World) (t : TypeId) (b d : UInt8) (g : Nat) (hg : g = w.heap.size) : Bs (w.alloc (.cells #[bv b, bv d] t)) (some ⟨g, 0, none⟩) [b, d] := fun i x h => by
  subst hg
  match i, h with
  | 0, h => simp at h; subst h; exact ⟨_, 0, rfl, box_cell _ _ _ _ _ rfl⟩
  | 1, h => simp at h; subst h; exact ⟨_, 0, rfl, box_cell _ _ _ _ _ rfl⟩

set_option maxHeartbeats 1000000 in
theorem known2_any (w : World) : Calls Try.prog 20 #[] w fun e w' => e = .returned (.bool true) ∧ Below w.heap.size w w' := by
  have e1 : zputSpec [] 0 0 = ([0], 1, 0) := by decide +kernel
  have e2 : zputSpec [] 0 (-1) = ([128, 128], 9, 0) := by decide +kernel
  have e3 : zgetSpec [128, 0] 9 0 = (0, 0, 11) := by decide +kernel
  have e4 : foldZ 64 = 128 := by decide +kernel
  have E1 := Lib.hid e1
  have E2 := Lib.hid e2
  have E3 := Lib.hid e3
  have E4 := Lib.hid e4
  clear e1 e2 e3 e4
  go_enter Try.func20, Try.ntmps20
  have kA := keepA
  go_wp2_with fail
  refine Calls.mono (zput_any none 0 [] 0 0 _ (Bs.nil _ _) (by decide) (by decide) (by decide)) ?_
  rw [E1.out]
  rintro e w1 ⟨A1, c1, rfl, hO1, hb1⟩
  have t1 := hb1
  go_wp2_with fail
  refine Calls.mono (zput_any none 0 [] 0 (-1) _ (Bs.nil _ _) (by decide) (by decide) (by decide)) ?_
  rw [E2.out]
  rintro e w2 ⟨A2, c2, rfl, hO2, hb2⟩
  have x2 := boxN hb2
  have t2 := on t1 hb2
  go_wp2_with fail
  refine Calls.mono (zget_any _ _ [128, 0] 9 0 _ (bs_two _ _ 128 0 _ (by simp)) (by decide) (by decide) (by decide)) ?_
  rw [E3.out]
  rintro e w3 ⟨rfl, hb3⟩
  have x3 := box hb3 x2
  have y3 := boxN2 hb3
  have t3 := on t2 hb3
  have hB3 := hO2.bs.go hb3
  obtain ⟨p, o, rfl, hp, hc⟩ := hB3.at_ (by decide)
  have d0 : w3.cell? ⟨p, o, none⟩ = some (.int .u8 128) := hc 0 (by decide)
  have d1 : w3.cell? ⟨p, o + 1, none⟩ = some (.int .u8 128) := hc 1 (by decide)
  clear hc
  go_wp2_with fail
  refine Calls.mono (fold_any 64 _ (by decide)) ?_
  rw [E4.out]
  rintro e w4 ⟨rfl, rfl⟩
  go_wp2
  go_ret
  exact ⟨rfl, t3⟩

end Go.Proofs.Ytbogjnfjnchfhaa
