/- Contracts of the document's own functions of layer 1: Cut. -/
import Derived.Test.YtfooggamdbdniaaDoorOwn
import Derived.Test.YtfooggamdbdniaaDoorRef6
import Derived.Test.YtfooggamdbdniaaDoorRef3
namespace Go.Proofs.YtfooggamdbdniaaDoor
open Go.RowKit

set_option maxHeartbeats 1000000 in
theorem refCut_ok (A : Option Addr) (c : Nat) (l : List UInt8) (m a b : Nat) (w : World) (hb : Bs w A l) (hl : l.length ≤ 1099511627776) (hs : soundB l m = true) (hab : a ≤ b) (hbm : b ≤ m) :
    Calls Tryd.prog 17 #[.agg #[.slice A l.length c, .int .i64 m], .int .i64 a, .int .i64 b] w fun e w' =>
      ∃ A' c', e = .returned (.tuple #[.agg #[.slice A' (pack (cutl l a (b - a))).length c', .int .i64 ((b - a : Nat) : Int)], .int .i64 0]) ∧ OwnB w' w.heap.size (.slice A' (pack (cutl l a (b - a))).length c') (pack (cutl l a (b - a))) ∧ Below w.heap.size w w' := by
  have hb0 := hb.below (below_alloc2 w (.cells #[.slice A l.length c, .int .i64 m] 29) (.cells #[.slice none 0 0, .int .i64 0] 29))
  obtain ⟨m', hm, hm8, -⟩ := sound_nat hs
  obtain rfl : m = m' := by omega
  have HS := Lib.hid hs
  clear hs hm
  have h1 : decide ((a : Int) < 0) = false := by simp
  have h2 : decide (b < a) = false := by simp; omega
  have h3 : decide (m < b) = false := by simp; omega
  go_enter Tryd.func17, Tryd.ntmps17
  go_wp2_with (go_at_call 23; refine (refSound_any A c l m _ hb0 (by omega) hl).mono ?_; rw [HS.out]; rintro e w1 ⟨rfl, hb1⟩; obtain ⟨c0, c1, r0, r1, f0, f1, hsz⟩ := kept2 hb1 (by simp))
  go_loopw [9, 10] (fun vl i wr => ∃ t : Nat, t ≤ b - a ∧ i = .int .i64 ((a + t : Nat) : Int) ∧ OwnB wr (w.heap.size + 2) vl (u8s (cutl l a t)) ∧ 
      Below (w.heap.size + 2) ((w.alloc (.cells #[.slice A l.length c, .int .i64 m] 29)).alloc (.cells #[.slice none 0 0, .int .i64 0] 29)) wr)
    (fun _ i _ => b - (intOf i).toNat)
  case atStart => exact ⟨0, Nat.zero_le _, rfl, OwnB.nil _ _, by simpa using hb1⟩
  case round =>
    obtain ⟨t, ht, rfl, hown, hbel⟩ := hrel
    clear c0 c1 r0 r1 f0 f1 hsz
    obtain ⟨c0, c1, r0, r1, f0, f1, hsz⟩ := kept2 hbel (by omega)
    have hBs : Bs wr A l := hb0.below (by simpa using hbel)
    by_cases hlt : t < b - a
    · have hltI : a + t < b := by omega
      go_wp2_with (first
        | (go_at_call 30; refine (refBit_any A c l m (a + t) _ hBs (by omega) (by unfold maxLen; omega)).mono ?_; rintro e w2 ⟨rfl, hb2⟩)
        | (at_builtin; go_must (refine appB _ rfl (.tmp 36) (.tmp 40) rfl (w.heap.size + 2) _ _ rfl ((hown.below hb2).alloc _) w2.heap.size (b2u (bt l (a + t))) rfl (box_cell _ _ _ _ _ rfl) (by rw [u8s_length, cutl_length]; omega) (by have := hb2.size; simp; omega) ?_); intro g2 cap2 w3 hown3 hbel3))
      go_roundw
      case measure => simp [intOf]; omega
      case rel => exact ⟨t + 1, by omega, by go_num, by rw [cutl_succ, u8s_snoc]; exact hown3, (hbel.trans (hb2.mono hsz)).trans (((Below.refl _ _).alloc (by have := hb2.size; omega) _).trans hbel3)⟩
    · have ht' : t = b - a := by omega
      have hltI : ¬ a + t < b := by omega
      obtain ⟨L, HL⟩ : ∃ L, Hid (cutl l a t = L) := ⟨_, rfl⟩
      have HL2 : Hid (L = cutl l a (b - a)) := by rw [← HL.out, ← ht']; rfl
      have hLl : L.length ≤ 17592186044416 := by rw [HL2.out, cutl_length]; omega
      rw [HL.out] at hown
      have HT := Lib.hid ht'
      clear ht'
      obtain ⟨A', c', hv9, hc1, hc2, hBs'⟩ := hown.isB
      rw [u8s_length] at hv9
      subst hv9
      go_wp2_with (go_at_call 26; refine (refOf_any A' c' L _ hBs' hLl).mono ?_; rintro e w4 ⟨A4, c4, rfl, hown4, hb4⟩; obtain ⟨_, _, r40, r41, f40, f41, hsz4⟩ := kept2 (hbel.trans (hb4.mono hsz)) (by simp))
      refine bodyPost_ret (v := .tuple #[.agg #[.slice A4 (pack L).length c4, .int .i64 L.length], .int .i64 0]) (by simp [results, Tryd.results17, go_sem, r40, r41]) rfl ?_
      have hne := (hown4.mono hsz).ne (show w.heap.size + 1 < w.heap.size + 2 by omega)
      refine ⟨_, _, by rw [HL2.out, cutl_length], ?_, ?_⟩
      · rw [← HL2.out]; exact ((hown4.mono (by omega)).far hne _).far hne _
      · exact (((below_alloc2 _ _ _).trans ((hbel.trans (hb4.mono hsz)).mono (by omega))).setCell (by simp) _).setCell (by simp) _

set_option maxHeartbeats 1000000 in
theorem refCut_err (A : Option Addr) (c : Nat) (l : List UInt8) (n a b : Int) (w : World) (hb : Bs w A l) (hn : -9223372036854775808 ≤ n ∧ n ≤ 9223372036854775807) (hl : l.length ≤ 1099511627776)
    (ha : -9223372036854775808 ≤ a ∧ a ≤ 9223372036854775807) (hwd : -9223372036854775808 ≤ b ∧ b ≤ 9223372036854775807) (k : Nat) (hk : (cutSpec l n a b).2.2 = k) (hk0 : k ≠ 0) :
    Calls Tryd.prog 17 #[.agg #[.slice A l.length c, .int .i64 n], .int .i64 a, .int .i64 b] w fun e w' =>
      ∃ A' c', e = .returned (.tuple #[.agg #[.slice A' 0 c', .int .i64 0], .int .i64 k]) ∧ OwnB w' w.heap.size (.slice A' 0 c') [] ∧ Below w.heap.size w w' := by
  have hb0 := hb.below (below_alloc2 w (.cells #[.slice A l.length c, .int .i64 n] 29) (.cells #[.slice none 0 0, .int .i64 0] 29))
  by_cases hs : soundB l n = false
  · obtain rfl : k = 11 := by rw [← hk]; simp [cutSpec, hs]
    have HS := Lib.hid hs
    clear hs hk
    go_enter Tryd.func17, Tryd.ntmps17
    go_wp2_with (go_at_call 23; refine (refSound_any A c l n _ hb0 hn hl).mono ?_; rw [HS.out]; rintro e w1 ⟨rfl, hb1⟩; obtain ⟨c0, c1, r0, r1, f0, f1, hsz⟩ := kept2 hb1 (by simp))
    refine bodyPost_ret (v := .tuple #[.agg #[.slice none 0 0, .int .i64 0], .int .i64 11]) (by simp [results, Tryd.results17, go_sem, r0, r1]) rfl ?_
    exact ⟨_, _, rfl, OwnB.nil _ _, (((below_alloc2 _ _ _).trans (hb1.mono (by simp; omega))).setCell (by simp) _).setCell (by simp) _⟩
  · have HS := Lib.hid (show soundB l n = true by simpa using hs)
    have he : a < 0 ∨ b < a ∨ n < b := by
      apply Classical.byContradiction; intro he
      exact hk0 (by rw [← hk]; simp [cutSpec, hs, he])
    obtain rfl : k = 10 := by rw [← hk]; simp [cutSpec, hs, he]
    obtain ⟨m, rfl, hm8, -⟩ := sound_nat (show soundB l n = true by simpa using hs)
    clear hs hk
    have key : ∀ q q', decide (a < 0) = q → decide (b < a) = q' → (q = false → q' = false → (m : Int) < b) → 
        Calls Tryd.prog 17 #[.agg #[.slice A l.length c, .int .i64 m], .int .i64 a, .int .i64 b] w fun e w' =>
          ∃ A' c', e = .returned (.tuple #[.agg #[.slice A' 0 c', .int .i64 0], .int .i64 (10 : Nat)]) ∧ OwnB w' w.heap.size (.slice A' 0 c') [] ∧ Below w.heap.size w w' := by
      intro q q' h1 h2 h3
      cases q <;> cases q'
      all_goals
        try have hg := h3 rfl rfl
        clear h3 he
        go_enter Tryd.func17, Tryd.ntmps17
        go_wp2_with (go_at_call 23; refine (refSound_any A c l m _ hb0 hn hl).mono ?_; rw [HS.out]; rintro e w1 ⟨rfl, hb1⟩; obtain ⟨c0, c1, r0, r1, f0, f1, hsz⟩ := kept2 hb1 (by simp))
        refine bodyPost_ret (v := .tuple #[.agg #[.slice none 0 0, .int .i64 0], .int .i64 10]) (by simp [results, Tryd.results17, go_sem, r0, r1]) rfl ?_
        exact ⟨_, _, rfl, OwnB.nil _ _, (((below_alloc2 _ _ _).trans (hb1.mono (by simp; omega))).setCell (by simp) _).setCell (by simp) _⟩
    exact key _ _ rfl rfl (by simp; omega)

theorem refCut_any (A : Option Addr) (c : Nat) (l : List UInt8) (n a b : Int) (w : World) (hb : Bs w A l) (hn : -9223372036854775808 ≤ n ∧ n ≤ 9223372036854775807) (hl : l.length ≤ 1099511627776)
    (ha : -9223372036854775808 ≤ a ∧ a ≤ 9223372036854775807) (hwd : -9223372036854775808 ≤ b ∧ b ≤ 9223372036854775807) :
    Calls Tryd.prog 17 #[.agg #[.slice A l.length c, .int .i64 n], .int .i64 a, .int .i64 b] w fun e w' =>
      ∃ A' c', e = .returned (.tuple #[.agg #[.slice A' (cutSpec l n a b).1.length c', .int .i64 (cutSpec l n a b).2.1], .int .i64 (cutSpec l n a b).2.2]) ∧ OwnB w' w.heap.size (.slice A' (cutSpec l n a b).1.length c') (cutSpec l n a b).1 ∧ Below w.heap.size w w' := by
  by_cases h0 : (cutSpec l n a b).2.2 = 0
  · unfold cutSpec at h0
    split at h0
    · simp at h0
    · split at h0
      · simp at h0
      · rename_i hs he
        obtain ⟨m, rfl, hm8, -⟩ := sound_nat (show soundB l n = true by simpa using hs)
        obtain ⟨a, rfl⟩ := Int.eq_ofNat_of_zero_le (show 0 ≤ a by omega)
        obtain ⟨b, rfl⟩ := Int.eq_ofNat_of_zero_le (show 0 ≤ b by omega)
        rw [show cutSpec l m a b = (pack (cutl l a (b - a)), b - a, 0) from by simp only [cutSpec, if_neg hs, if_neg he, Int.toNat_natCast, show ((b : Int) - a).toNat = b - a by omega]]
        exact refCut_ok A c l m a b w hb hl (by simpa using hs) (by omega) (by omega)
  · have h1 : cutSpec l n a b = ([], 0, (cutSpec l n a b).2.2) := by
      unfold cutSpec at h0 ⊢
      split
      · rfl
      · split
        · rfl
        · rename_i hs he; simp [hs, he] at h0
    have h2 := refCut_err A c l n a b w hb hn hl ha hwd _ rfl h0
    rw [h1]
    exact h2

end Go.Proofs.YtfooggamdbdniaaDoor
