/- Contracts of the document's own functions of layer 1: Put. -/
import Derived.Test.YtgjaopphfahhcaaRef2
import Derived.Test.YtgjaopphfahhcaaRef3
import Derived.Test.YtgjaopphfahhcaaRef4
namespace Go.Proofs.Ytgjaopphfahhcaa
open Go.RowKit

theorem and_one_big (x : Nat) (hx : x < 18446744073709551616) : bits .and .u64 (x : Int) 1 = ((x % 2 : Nat) : Int) := by
  have h := bits_mask .u64 64 (by decide) (fun n h0 h1 => by simp [IntKind.wrap, IntKind.bits, IntKind.signed]; omega) 1 (by decide) (x : Int) (by omega) (by omega)
  rw [show ((2 : Int) ^ 1 - 1) = 1 from rfl] at h
  rw [h]; omega

theorem bit_val (v k : Nat) (hv : v < 18446744073709551616) : Value.int .u8 (bits .and .u64 ((v : Int) / 2 ^ k) 1 % 256) = bv (b2u (v.testBit k)) := by
  rw [nat_shr, and_one_big _ (Nat.lt_of_le_of_lt (Nat.div_le_self _ _) hv), shr_bit, bv, b2u_toNat]
  congr 1
  have := b2n_le (v.testBit k)
  omega

theorem valB_take (v n t : Nat) (ht : t < n) : (valB v n).take (t + 1) = (valB v n).take t ++ [v.testBit (n - 1 - t)] := by
  rw [List.take_succ_eq_append_getElem (by rw [valB_length]; exact ht)]
  simp [valB]

set_option maxHeartbeats 1000000 in
theorem refPut_ok (A : Option Addr) (c : Nat) (l : List UInt8) (m : Nat) (v : Nat) (d : Nat) (w : World) (hb : Bs w A l) (hn : -9223372036854775808 ≤ (m : Int) ∧ (m : Int) ≤ 9223372036854775807) (hl : l.length ≤ 1099511627776)
    (hv : v < 18446744073709551616) (hw : d ≤ 64) (hs : soundB l m = true) :
    Calls Try.prog 19 #[.agg #[.slice A l.length c, .int .i64 m], .int .u64 v, .int .i64 d] w fun e w' =>
      ∃ A' c', e = .returned (.tuple #[.agg #[.slice A' (pack (bitl l m ++ valB v d)).length c', .int .i64 ((m + d : Nat) : Int)], .int .i64 0]) ∧ OwnB w' w.heap.size (.slice A' (pack (bitl l m ++ valB v d)).length c') (pack (bitl l m ++ valB v d)) ∧ Below w.heap.size w w' := by
  have hb0 := hb.below (below_alloc2 w (.cells #[.slice A l.length c, .int .i64 m] 24) (.cells #[.slice none 0 0, .int .i64 0] 24))
  have hm8 : m ≤ 8 * l.length := by
    have := ((soundB_iff l m).1 hs).2.1
    unfold nb at this; simp at this; omega
  have HS := Lib.hid hs
  clear hs
  have hd : decide ((d : Int) < 0) = false := by simp
  have h64 : ¬ (64 : Int) < d := by omega
  go_enter Try.func19, Try.ntmps19
  go_wp2_with (first
    | (go_at_call 18; refine (refSound_any A c l m _ hb0 hn hl).mono ?_; rw [HS.out]; rintro e w1 ⟨rfl, hb1⟩; obtain ⟨c0, c1, r0, r1, f0, f1, hsz⟩ := kept2 hb1 (by simp))
    | (go_at_call 30; refine (refList_any A c l m _ (hb0.below hb1) hm8 hl).mono ?_; rintro e w2 ⟨A2, c2, rfl, hown2, hb2⟩))
  go_loopw [9, 10] (fun vl i wr => ∃ j : Nat, j ≤ d ∧ i = .int .i64 ((j : Int) - 1) ∧ OwnB wr (w.heap.size + 2) vl (u8s (bitl l m ++ (valB v d).take (d - j))) ∧ 
      Below (w.heap.size + 2) ((w.alloc (.cells #[.slice A l.length c, .int .i64 m] 24)).alloc (.cells #[.slice none 0 0, .int .i64 0] 24)) wr)
    (fun _ i _ => (intOf i + 1).toNat)
  case atStart => exact ⟨d, Nat.le_refl _, by simp, by simpa using hown2.mono hsz, (by simpa using hb1 : Below (w.heap.size + 2) _ w1).trans (hb2.mono hsz)⟩
  case round =>
    obtain ⟨j, hj, rfl, hown, hbel⟩ := hrel
    clear hown2 hb2 c0 c1 r0 r1 f0 f1
    obtain ⟨c0, c1, r0, r1, f0, f1, hszr⟩ := kept2 hbel (by omega)
    by_cases hlt : 0 < j
    · obtain ⟨i, rfl⟩ : ∃ i, j = i + 1 := ⟨j - 1, by omega⟩
      have hval := bit_val v i hv
      have HV := Lib.hid hval
      clear hval
      rw [show ((i + 1 : Nat) : Int) - 1 = (i : Int) by omega]
      go_wp2_with (at_builtin; go_must (refine appB _ rfl (.tmp 31) (.tmp 38) rfl (w.heap.size + 2) _ _ rfl (hown.alloc _) wr.heap.size (b2u (v.testBit i)) rfl (box_cell _ _ _ _ _ (congrArg some HV.out)) (by rw [u8s_length, List.length_append, bitl_length, List.length_take, valB_length]; omega) (by simp; omega) ?_); intro g2 cap2 w3 hown3 hbel3)
      go_roundw
      case measure => simp [intOf]
      case rel =>
        refine ⟨i, by omega, rfl, ?_, (hbel.trans ((Below.refl _ _).alloc (by omega) _)).trans hbel3⟩
        rw [show d - i = (d - (i + 1)) + 1 by omega, valB_take _ _ _ (by omega), show d - 1 - (d - (i + 1)) = i by omega, ← List.append_assoc, u8s_snoc]; exact hown3
    · obtain rfl : j = 0 := by omega
      obtain ⟨L, HL⟩ : ∃ L, Hid (bitl l m ++ (valB v d).take (d - 0) = L) := ⟨_, rfl⟩
      have HL2 : Hid (L = bitl l m ++ valB v d) := by rw [← HL.out, List.take_of_length_le (by rw [valB_length]; exact Nat.le_refl _)]; rfl
      have hLl : L.length ≤ 17592186044416 := by rw [HL2.out, List.length_append, bitl_length, valB_length]; omega
      rw [HL.out] at hown
      obtain ⟨A', c', hv9, hc1, hc2, hBs⟩ := hown.isB
      rw [u8s_length] at hv9
      subst hv9
      rw [show ((0 : Nat) : Int) - 1 = -1 by omega]
      go_wp2_with (go_at_call 27; refine (refOf_any A' c' L _ hBs (by omega)).mono ?_; rintro e w4 ⟨A4, c4, rfl, hown4, hb4⟩; obtain ⟨_, _, r40, r41, f40, f41, hsz4⟩ := kept2 (hbel.trans (hb4.mono hszr)) (by simp))
      refine bodyPost_ret (v := .tuple #[.agg #[.slice A4 (pack L).length c4, .int .i64 L.length], .int .i64 0]) (by simp [results, Try.results19, go_sem, r40, r41]) rfl ?_
      have hne := (hown4.mono hszr).ne (show w.heap.size + 1 < w.heap.size + 2 by omega)
      refine ⟨_, _, by rw [HL2.out, List.length_append, bitl_length, valB_length], ?_, ?_⟩
      · rw [← HL2.out]; exact ((hown4.mono (by omega)).far hne _).far hne _
      · exact (((below_alloc2 _ _ _).trans ((hbel.trans (hb4.mono hszr)).mono (by omega))).setCell (by simp) _).setCell (by simp) _

set_option maxHeartbeats 1000000 in
theorem refPut_any (A : Option Addr) (c : Nat) (l : List UInt8) (n : Int) (v : Nat) (width : Int) (w : World) (hb : Bs w A l) (hn : -9223372036854775808 ≤ n ∧ n ≤ 9223372036854775807) (hl : l.length ≤ 1099511627776)
    (hv : v < 18446744073709551616) (hwd : -9223372036854775808 ≤ width ∧ width ≤ 9223372036854775807) :
    Calls Try.prog 19 #[.agg #[.slice A l.length c, .int .i64 n], .int .u64 v, .int .i64 width] w fun e w' =>
      ∃ A' c', e = .returned (.tuple #[.agg #[.slice A' (putSpec l n v width).1.length c', .int .i64 (putSpec l n v width).2.1], .int .i64 (putSpec l n v width).2.2]) ∧ OwnB w' w.heap.size (.slice A' (putSpec l n v width).1.length c') (putSpec l n v width).1 ∧ Below w.heap.size w w' := by
  have hb0 := hb.below (below_alloc2 w (.cells #[.slice A l.length c, .int .i64 n] 24) (.cells #[.slice none 0 0, .int .i64 0] 24))
  by_cases hs : soundB l n = false
  · rw [show putSpec l n v width = ([], 0, 11) from by simp [putSpec, hs]]
    have HS := Lib.hid hs
    clear hs
    go_enter Try.func19, Try.ntmps19
    go_wp2_with (go_at_call 18; refine (refSound_any A c l n _ hb0 hn hl).mono ?_; rw [HS.out]; rintro e w1 ⟨rfl, hb1⟩; obtain ⟨c0, c1, r0, r1, f0, f1, hsz⟩ := kept2 hb1 (by simp))
    refine bodyPost_ret (v := .tuple #[.agg #[.slice none 0 0, .int .i64 0], .int .i64 11]) (by simp [results, Try.results19, go_sem, r0, r1]) rfl ?_
    refine ⟨_, _, rfl, OwnB.nil _ _, (((below_alloc2 _ _ _).trans (hb1.mono (by simp; omega))).setCell (by simp) _).setCell (by simp) _⟩
  · by_cases hw : width < 0 ∨ 64 < width
    · rw [show putSpec l n v width = ([], 0, 1) from by simp [putSpec, hs, hw]]
      have HS := Lib.hid (show soundB l n = true by simpa using hs)
      clear hs
      have key : ∀ b, decide (width < 0) = b → (b = false → 64 < width) → 
          Calls Try.prog 19 #[.agg #[.slice A l.length c, .int .i64 n], .int .u64 v, .int .i64 width] w fun e w' =>
            ∃ A' c', e = .returned (.tuple #[.agg #[.slice A' 0 c', .int .i64 0], .int .i64 1]) ∧ OwnB w' w.heap.size (.slice A' 0 c') [] ∧ Below w.heap.size w w' := by
        intro b hd h64
        cases b
        all_goals
          try have hg := h64 rfl
          clear h64 hw
          go_enter Try.func19, Try.ntmps19
          go_wp2_with (go_at_call 18; refine (refSound_any A c l n _ hb0 hn hl).mono ?_; rw [HS.out]; rintro e w1 ⟨rfl, hb1⟩; obtain ⟨c0, c1, r0, r1, f0, f1, hsz⟩ := kept2 hb1 (by simp))
          refine bodyPost_ret (v := .tuple #[.agg #[.slice none 0 0, .int .i64 0], .int .i64 1]) (by simp [results, Try.results19, go_sem, r0, r1]) rfl ?_
          refine ⟨_, _, rfl, OwnB.nil _ _, (((below_alloc2 _ _ _).trans (hb1.mono (by simp; omega))).setCell (by simp) _).setCell (by simp) _⟩
      exact key _ rfl (by simp; omega)
    · obtain ⟨m, rfl⟩ := Int.eq_ofNat_of_zero_le (show 0 ≤ n from ((soundB_iff l n).1 (by simpa using hs)).1)
      obtain ⟨d, rfl⟩ := Int.eq_ofNat_of_zero_le (show 0 ≤ width by omega)
      have hd64 : d ≤ 64 := by omega
      rw [show putSpec l (m : Int) v (d : Int) = (pack (bitl l m ++ valB v d), m + d, 0) from by simp [putSpec, hs]; omega]
      exact refPut_ok A c l m v d w hb hn hl hv hd64 (by simpa using hs)

end Go.Proofs.Ytgjaopphfahhcaa
