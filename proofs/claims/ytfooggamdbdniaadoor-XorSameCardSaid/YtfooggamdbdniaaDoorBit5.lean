/- Contracts of package bit: Put. -/
import Derived.Test.YtfooggamdbdniaaDoorOwn
import Derived.Test.YtfooggamdbdniaaDoorBit4
namespace Go.Proofs.YtfooggamdbdniaaDoor
open Go.RowKit

set_option maxHeartbeats 1000000 in
theorem put_ok (A : Option Addr) (c : Nat) (l : List UInt8) (m : Nat) (v : Nat) (d : Nat) (w : World) (hb : Bs w A l) (hl : l.length ≤ 1099511627776) (hv : v < 18446744073709551616) (hw : d ≤ 64) (hs : soundB l m = true) :
    Calls Tryd.prog 41 #[.agg #[.slice A l.length c, .int .i64 m], .int .u64 v, .int .i64 d] w fun e w' =>
      ∃ A' c', e = .returned (.tuple #[.agg #[.slice A' (pack (bitl l m ++ valB v d)).length c', .int .i64 ((m + d : Nat) : Int)], .int .u16 0]) ∧ OwnB w' w.heap.size (.slice A' (pack (bitl l m ++ valB v d)).length c') (pack (bitl l m ++ valB v d)) ∧ Below w.heap.size w w' := by
  have hb0 := hb.below (below_alloc2 w (.cells #[.slice A l.length c, .int .i64 m] 29) (.cells #[.slice none 0 0, .int .i64 0] 29))
  have hlm : l.length ≤ maxLen := by unfold maxLen; omega
  obtain ⟨m', hm, hm8, hnb⟩ := sound_nat hs
  obtain rfl : m = m' := by omega
  have hln : l.length ≤ nb (m + d) := by rw [hnb]; unfold nb; omega
  have hnl : nb (m + d) ≤ l.length + 9 := by rw [hnb]; unfold nb; omega
  have h8 : m + d ≤ 8 * nb (m + d) := by unfold nb; omega
  have hplen : (pack (bitl l m ++ valB v d)).length = nb (m + d) := by rw [pack_length, List.length_append, bitl_length, valB_length]
  obtain ⟨N, hN⟩ : ∃ N, N = nb (m + d) := ⟨_, rfl⟩
  rw [← hN] at hln hnl h8
  have HN := Lib.hid hN
  have HP := Lib.hid hplen
  have HS := Lib.hid hs
  clear hs hm hnb hN hplen
  have hd0 : decide ((d : Int) < 0) = false := by simp
  have h64 : ¬ (64 : Int) < d := by omega
  go_enter Tryd.func41, Tryd.ntmps41
  go_wp2_with (first
    | (go_at_call 20; refine (sound_any A c l m _ hb0 (by omega) hlm).mono ?_; rw [HS.out]; rintro e w1 ⟨rfl, hb1⟩; obtain ⟨c0, c1, r0, r1, f0, f1, hsz⟩ := kept2 hb1 (by simp))
    | (go_at_call 31; refine (bytesOf_sum m d _ (by omega)).mono ?_; rw [← HN.out]; rintro e w2 ⟨rfl, rfl⟩)
    | (at_make; go_must (refine mkB _ rfl (.tmp 26) (.tmp 26) rfl (w.heap.size + 2) N rfl rfl (by omega) hsz ?_); intro w3 hown3 hb3; clear c0 c1 r0 r1 f0 f1; have hb13 := hb1.trans (hb3.mono (by simpa using hsz)); obtain ⟨c0, c1, r0, r1, f0, f1, hsz3⟩ := kept2 hb13 (by simp))
    | (refine copyB _ rfl (.tmp 28) (.tmp 30) rfl (w.heap.size + 2) w1.heap.size N N _ rfl hown3 A c l rfl (hb0.below hb13) hln ?_; intro w4 hown4 hb4 hg4; clear c0 c1 r0 r1 f0 f1 hsz3; have hb14 := hb13.trans (hb4.mono (by simp)); obtain ⟨c0, c1, r0, r1, f0, f1, hsz4⟩ := kept2 hb14 (by simp)))
  have hLlen : (l ++ List.drop l.length (List.replicate N (0 : UInt8))).length = N := by rw [List.length_append, List.length_drop, List.length_replicate]; omega
  refine (write_n (w.heap.size + 2) w1.heap.size N N _ hLlen.symm m v d w4 hown4 (by omega) hw (by omega) hv (by rw [HN.out]; exact put_zero HS.out)).mono ?_
  clear hLlen
  rintro e w5 ⟨rfl, l5, hown5, hwr, hb5⟩
  clear c0 c1 r0 r1 f0 f1 hsz4
  have hb15 := hb14.trans (hb5.mono (by simp))
  obtain ⟨c0, c1, r0, r1, f0, f1, hsz5⟩ := kept2 hb15 (by simp)
  have hl5 : l5 = pack (bitl l m ++ valB v d) := put_done HS.out (by rw [HN.out] at hwr; exact hwr)
  have hlt5 := hown5.lt.2
  have HL5 := Lib.hid hl5
  clear hl5 hwr
  go_wp2
  refine bodyPost_ret (v := .tuple #[.agg #[.slice (some ⟨w1.heap.size, 0, none⟩) N N, .int .i64 ((m : Int) + d)], .int .u16 0]) (by simp [results, Tryd.results41, go_sem, r0, r1]) rfl ?_
  rw [HP.out, ← HN.out, ← HL5.out, Int.natCast_add]
  have hne := hown5.ne (show w.heap.size + 1 < w.heap.size + 2 by omega)
  exact ⟨_, _, rfl, ((hown5.mono (by omega)).far hne _).far hne _, (((below_alloc2 _ _ _).trans (hb15.mono (by simp; omega))).setCell (by simp) _).setCell (by simp) _⟩

set_option maxHeartbeats 1000000 in
theorem put_err (A : Option Addr) (c : Nat) (l : List UInt8) (n : Int) (v : Nat) (width : Int) (w : World) (hb : Bs w A l) (hn : -9223372036854775808 ≤ n ∧ n ≤ 9223372036854775807) (hl : l.length ≤ 1099511627776)
    (hwd : -9223372036854775808 ≤ width ∧ width ≤ 9223372036854775807) (k : Nat) (hk : (putSpec l n v width).2.2 = k) (hk0 : k ≠ 0) :
    Calls Tryd.prog 41 #[.agg #[.slice A l.length c, .int .i64 n], .int .u64 v, .int .i64 width] w fun e w' =>
      ∃ A' c', e = .returned (.tuple #[.agg #[.slice A' 0 c', .int .i64 0], .int .u16 k]) ∧ OwnB w' w.heap.size (.slice A' 0 c') [] ∧ Below w.heap.size w w' := by
  have hb0 := hb.below (below_alloc2 w (.cells #[.slice A l.length c, .int .i64 n] 29) (.cells #[.slice none 0 0, .int .i64 0] 29))
  have hlm : l.length ≤ maxLen := by unfold maxLen; omega
  by_cases hs : soundB l n = false
  · obtain rfl : k = 11 := by rw [← hk]; simp [putSpec, hs]
    have HS := Lib.hid hs
    clear hs hk
    go_enter Tryd.func41, Tryd.ntmps41
    go_wp2_with (go_at_call 20; refine (sound_any A c l n _ hb0 hn hlm).mono ?_; rw [HS.out]; rintro e w1 ⟨rfl, hb1⟩; obtain ⟨c0, c1, r0, r1, f0, f1, hsz⟩ := kept2 hb1 (by simp))
    refine bodyPost_ret (v := .tuple #[.agg #[.slice none 0 0, .int .i64 0], .int .u16 11]) (by simp [results, Tryd.results41, go_sem, r0, r1]) rfl ?_
    exact ⟨_, _, rfl, OwnB.nil _ _, (((below_alloc2 _ _ _).trans (hb1.mono (by simp; omega))).setCell (by simp) _).setCell (by simp) _⟩
  · have HS := Lib.hid (show soundB l n = true by simpa using hs)
    have he : width < 0 ∨ 64 < width := by
      apply Classical.byContradiction; intro he
      exact hk0 (by rw [← hk]; simp [putSpec, hs, he])
    obtain rfl : k = 1 := by rw [← hk]; simp [putSpec, hs, he]
    clear hs hk
    have key : ∀ b, decide (width < 0) = b → (b = false → 64 < width) → 
        Calls Tryd.prog 41 #[.agg #[.slice A l.length c, .int .i64 n], .int .u64 v, .int .i64 width] w fun e w' =>
          ∃ A' c', e = .returned (.tuple #[.agg #[.slice A' 0 c', .int .i64 0], .int .u16 (1 : Nat)]) ∧ OwnB w' w.heap.size (.slice A' 0 c') [] ∧ Below w.heap.size w w' := by
      intro b hd h64
      cases b
      all_goals
        try have hg := h64 rfl
        clear h64 he
        go_enter Tryd.func41, Tryd.ntmps41
        go_wp2_with (go_at_call 20; refine (sound_any A c l n _ hb0 hn hlm).mono ?_; rw [HS.out]; rintro e w1 ⟨rfl, hb1⟩; obtain ⟨c0, c1, r0, r1, f0, f1, hsz⟩ := kept2 hb1 (by simp))
        refine bodyPost_ret (v := .tuple #[.agg #[.slice none 0 0, .int .i64 0], .int .u16 1]) (by simp [results, Tryd.results41, go_sem, r0, r1]) rfl ?_
        exact ⟨_, _, rfl, OwnB.nil _ _, (((below_alloc2 _ _ _).trans (hb1.mono (by simp; omega))).setCell (by simp) _).setCell (by simp) _⟩
    exact key _ rfl (by simp; omega)

theorem put_any (A : Option Addr) (c : Nat) (l : List UInt8) (n : Int) (v : Nat) (width : Int) (w : World) (hb : Bs w A l) (hn : -9223372036854775808 ≤ n ∧ n ≤ 9223372036854775807) (hl : l.length ≤ 1099511627776)
    (hv : v < 18446744073709551616) (hwd : -9223372036854775808 ≤ width ∧ width ≤ 9223372036854775807) :
    Calls Tryd.prog 41 #[.agg #[.slice A l.length c, .int .i64 n], .int .u64 v, .int .i64 width] w fun e w' =>
      ∃ A' c', e = .returned (.tuple #[.agg #[.slice A' (putSpec l n v width).1.length c', .int .i64 (putSpec l n v width).2.1], .int .u16 (putSpec l n v width).2.2]) ∧ OwnB w' w.heap.size (.slice A' (putSpec l n v width).1.length c') (putSpec l n v width).1 ∧ Below w.heap.size w w' := by
  by_cases h0 : (putSpec l n v width).2.2 = 0
  · unfold putSpec at h0
    split at h0
    · simp at h0
    · split at h0
      · simp at h0
      · rename_i hs he
        obtain ⟨m, rfl, hm8, -⟩ := sound_nat (show soundB l n = true by simpa using hs)
        obtain ⟨d, rfl⟩ := Int.eq_ofNat_of_zero_le (show 0 ≤ width by omega)
        rw [show putSpec l m v d = (pack (bitl l m ++ valB v d), m + d, 0) from by simp only [putSpec, if_neg hs, if_neg he]; rfl]
        exact put_ok A c l m v d w hb hl hv (by omega) (by simpa using hs)
  · have h1 : putSpec l n v width = ([], 0, (putSpec l n v width).2.2) := by
      unfold putSpec at h0 ⊢
      split
      · rfl
      · split
        · rfl
        · rename_i hs he; simp [hs, he] at h0
    have h2 := put_err A c l n v width w hb hn hl hwd _ rfl h0
    rw [h1]
    exact h2

end Go.Proofs.YtfooggamdbdniaaDoor
