/- Contracts of the statements' own helpers: some. -/
import Derived.Test.YtbogjnfjnchfhaaOwn
import Derived.Test.YtbogjnfjnchfhaaExt
import Derived.Test.YtbogjnfjnchfhaaRef1
import Derived.Test.YtbogjnfjnchfhaaRef3
namespace Go.Proofs.Ytbogjnfjnchfhaa
open Go.RowKit

/-- how many bits 'some' takes -/
def someN (l : List UInt8) (n : Int) : Nat := (min (max n 0) (8 * (l.length : Int))).toNat
theorem someN_le (l : List UInt8) (n : Int) : someN l n ≤ 8 * l.length := by unfold someN; omega

set_option maxHeartbeats 2000000 in
theorem some_any (A : Option Addr) (c : Nat) (l : List UInt8) (n : Int) (w : World) (hb : Bs w A l) (hn : -9223372036854775808 ≤ n ∧ n ≤ 9223372036854775807) (hl : l.length ≤ 1099511627776) :
    Calls Try.prog 19 #[.agg #[.slice A l.length c, .int .i64 n]] w fun e w' =>
      ∃ A' c', e = .returned (.agg #[.slice A' (pack (bitl l (someN l n))).length c', .int .i64 (someN l n)]) ∧ OwnB w' w.heap.size (.slice A' (pack (bitl l (someN l n))).length c') (pack (bitl l (someN l n))) ∧ Below w.heap.size w w' := by
  have hb0 := hb.below (below_alloc2 w (.cells #[.slice A l.length c, .int .i64 n] 24) (.cells #[.slice none 0 0, .int .i64 0] 24))
  obtain ⟨k, hk⟩ : ∃ k, k = someN l n := ⟨_, rfl⟩
  have hk8 : k ≤ 8 * l.length := by rw [hk]; exact someN_le l n
  have hcase : (n < 0 ∧ k ≤ 0) ∨ (0 ≤ n ∧ n ≤ 8 * (l.length : Int) ∧ n = (k : Int)) ∨ (8 * (l.length : Int) < n ∧ 8 * l.length ≤ k) := by rw [hk]; unfold someN; omega
  have HK := Lib.hid hk
  clear hk
  rw [← HK.out]
  rcases hcase with ⟨h1, h2⟩ | ⟨h1, h2, rfl⟩ | ⟨h1, h2⟩
  all_goals
    go_enter Try.func19, Try.ntmps19
    go_wp2
    go_loopw [4, 5] (fun vl i wr => ∃ t : Nat, t ≤ k ∧ i = .int .i64 t ∧ OwnB wr (w.heap.size + 2) vl (u8s (bitl l t)) ∧ 
        Below (w.heap.size + 2) ((w.alloc (.cells #[.slice A l.length c, .int .i64 _] 24)).alloc (.cells #[.slice none 0 0, .int .i64 0] 24)) wr)
      (fun _ i _ => k - (intOf i).toNat)
    case atStart => exact ⟨0, Nat.zero_le _, rfl, OwnB.nil _ _, Below.refl _ _⟩
    case round =>
      obtain ⟨t, ht, rfl, hown, hbel⟩ := hrel
      obtain ⟨c0, c1, r0, r1, f0, f1, hsz⟩ := kept2 hbel (by omega)
      have hBs : Bs wr A l := hb0.below (by simpa using hbel)
      by_cases hlt : t < k
      · try (exfalso; omega)
        all_goals
          go_wp2_with (first
            | (go_at_call 35; refine (refBit_any A c l _ t _ hBs (by omega) (by unfold maxLen; omega)).mono ?_; rintro e w2 ⟨rfl, hb2⟩)
            | (at_builtin; go_must (refine appB _ rfl (.tmp 19) (.tmp 23) rfl (w.heap.size + 2) _ _ rfl ((hown.below hb2).alloc _) w2.heap.size (b2u (bt l t)) rfl (box_cell _ _ _ _ _ rfl) (by rw [u8s_length, bitl_length]; omega) (by have := hb2.size; simp; omega) ?_); intro g2 cap2 w3 hown3 hbel3))
          go_roundw
          case measure => simp [intOf]; omega
          case rel => exact ⟨t + 1, by omega, by go_num, by rw [bitl_succ, u8s_snoc]; exact hown3, (hbel.trans (hb2.mono hsz)).trans (((Below.refl _ _).alloc (by have := hb2.size; omega) _).trans hbel3)⟩
      · have ht' : t = k := by omega
        obtain ⟨L, HL⟩ : ∃ L, Hid (bitl l t = L) := ⟨_, rfl⟩
        have HL2 : Hid (L = bitl l k) := by rw [← HL.out, ← ht']; rfl
        have hLl : L.length ≤ 17592186044416 := by rw [HL2.out, bitl_length]; omega
        rw [HL.out] at hown
        have hkt : k ≤ t := by omega
        clear ht'
        obtain ⟨A', c', hv9, hc1, hc2, hBs'⟩ := hown.isB
        rw [u8s_length] at hv9
        subst hv9
        go_wp2_with (go_at_call 36; refine (refOf_any A' c' L _ hBs' hLl).mono ?_; rintro e w4 ⟨A4, c4, rfl, hown4, hb4⟩; obtain ⟨_, _, r40, r41, f40, f41, hsz4⟩ := kept2 (hbel.trans (hb4.mono hsz)) (by simp))
        refine bodyPost_ret (v := .agg #[.slice A4 (pack L).length c4, .int .i64 L.length]) (by simp [results, Try.results19, go_sem, r40, r41]) rfl ?_
        have hne := (hown4.mono hsz).ne (show w.heap.size + 1 < w.heap.size + 2 by omega)
        refine ⟨_, _, by rw [HL2.out, bitl_length], ?_, ?_⟩
        · rw [← HL2.out]; exact ((hown4.mono (by omega)).far hne _).far hne _
        · exact (((below_alloc2 _ _ _).trans ((hbel.trans (hb4.mono hsz)).mono (by omega))).setCell (by simp) _).setCell (by simp) _

end Go.Proofs.Ytbogjnfjnchfhaa
