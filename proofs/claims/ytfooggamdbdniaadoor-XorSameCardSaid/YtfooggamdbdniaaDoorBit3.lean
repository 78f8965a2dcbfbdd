/- Contracts of package bit: Get. -/
import Derived.Test.YtfooggamdbdniaaDoorBit1
import Derived.Test.YtfooggamdbdniaaDoorBit2
namespace Go.Proofs.YtfooggamdbdniaaDoor
open Go.RowKit

set_option maxHeartbeats 1000000 in
theorem get_err (A : Option Addr) (c : Nat) (l : List UInt8) (n at_ width : Int) (w : World) (hb : Bs w A l) (hn : -9223372036854775808 ≤ n ∧ n ≤ 9223372036854775807) (hl : l.length ≤ 1099511627776)
    (ha : -9223372036854775808 ≤ at_ ∧ at_ ≤ 9223372036854775807) (hwd : -9223372036854775808 ≤ width ∧ width ≤ 9223372036854775807) (k : Nat) (hk : (getSpec l n at_ width).2 = k) (hk0 : k ≠ 0) :
    Calls Tryd.prog 37 #[.agg #[.slice A l.length c, .int .i64 n], .int .i64 at_, .int .i64 width] w fun e w' => e = .returned (.tuple #[.int .u64 0, .int .u16 k]) ∧ Below w.heap.size w w' := by
  have hb0 := hb.below (below_alloc w (.cells #[.slice A l.length c, .int .i64 n] 29))
  have hlm : l.length ≤ maxLen := by unfold maxLen; omega
  by_cases hs : soundB l n = false
  · obtain rfl : k = 11 := by rw [← hk]; simp [getSpec, hs]
    have HS := Lib.hid hs
    clear hs hk
    go_enter Tryd.func37, Tryd.ntmps37
    go_wp2_with (go_at_call 20; refine (sound_any A c l n _ hb0 hn hlm).mono ?_; rw [HS.out]; rintro e w1 ⟨rfl, hb1⟩; obtain ⟨c0, c1, hsz, _, _⟩ := kept1 hb1 (by simp))
    go_ret2
    exact ⟨rfl, (below_alloc _ _).trans (hb1.mono (by simp))⟩
  · have HS := Lib.hid (show soundB l n = true by simpa using hs)
    by_cases hw : width < 0 ∨ 64 < width
    · obtain rfl : k = 1 := by rw [← hk]; simp [getSpec, hs, hw]
      clear hs hk
      have key : ∀ b, decide (width < 0) = b → (b = false → 64 < width) → 
          Calls Tryd.prog 37 #[.agg #[.slice A l.length c, .int .i64 n], .int .i64 at_, .int .i64 width] w fun e w' => e = .returned (.tuple #[.int .u64 0, .int .u16 (1 : Nat)]) ∧ Below w.heap.size w w' := by
        intro b hd h64
        cases b
        all_goals
          try have hg := h64 rfl
          clear h64 hw
          go_enter Tryd.func37, Tryd.ntmps37
          go_wp2_with (go_at_call 20; refine (sound_any A c l n _ hb0 hn hlm).mono ?_; rw [HS.out]; rintro e w1 ⟨rfl, hb1⟩; obtain ⟨c0, c1, hsz, _, _⟩ := kept1 hb1 (by simp))
          go_ret2
          exact ⟨rfl, (below_alloc _ _).trans (hb1.mono (by simp))⟩
      exact key _ rfl (by simp; omega)
    · have he : at_ < 0 ∨ n < at_ ∨ n - at_ < width := by
        apply Classical.byContradiction; intro he
        exact hk0 (by rw [← hk]; simp [getSpec, hs, hw, he])
      obtain rfl : k = 10 := by rw [← hk]; simp [getSpec, hs, hw, he]
      obtain ⟨m, rfl, hm8, -⟩ := sound_nat (show soundB l n = true by simpa using hs)
      clear hs hk
      have hd : decide (width < 0) = false := by simp; omega
      have h64 : ¬ 64 < width := by omega
      have key : ∀ b, decide (at_ < 0) = b → (b = false → (m : Int) - width < at_) →
          Calls Tryd.prog 37 #[.agg #[.slice A l.length c, .int .i64 m], .int .i64 at_, .int .i64 width] w fun e w' => e = .returned (.tuple #[.int .u64 0, .int .u16 (10 : Nat)]) ∧ Below w.heap.size w w' := by
        intro b h1 h3
        cases b
        all_goals
          try have hg := h3 rfl
          clear h3 he hw
          go_enter Tryd.func37, Tryd.ntmps37
          go_wp2_with (go_at_call 20; refine (sound_any A c l m _ hb0 hn hlm).mono ?_; rw [HS.out]; rintro e w1 ⟨rfl, hb1⟩; obtain ⟨c0, c1, hsz, _, _⟩ := kept1 hb1 (by simp))
          go_ret2
          exact ⟨rfl, (below_alloc _ _).trans (hb1.mono (by simp))⟩
      exact key _ rfl (by simp; omega)

set_option maxHeartbeats 1000000 in
theorem get_ok (A : Option Addr) (c : Nat) (l : List UInt8) (m a d : Nat) (w : World) (hb : Bs w A l) (hl : l.length ≤ 1099511627776) (hs : soundB l m = true) (hd : d ≤ 64) (had : a + d ≤ m) :
    Calls Tryd.prog 37 #[.agg #[.slice A l.length c, .int .i64 m], .int .i64 a, .int .i64 d] w fun e w' => e = .returned (.tuple #[.int .u64 (numB (cutl l a d)), .int .u16 0]) ∧ Below w.heap.size w w' := by
  have hb0 := hb.below (below_alloc w (.cells #[.slice A l.length c, .int .i64 m] 29))
  have hlm : l.length ≤ maxLen := by unfold maxLen; omega
  obtain ⟨m', hm, hm8, -⟩ := sound_nat hs
  obtain rfl : m = m' := by omega
  have HS := Lib.hid hs
  clear hs hm
  have hd0 : decide ((d : Int) < 0) = false := by simp
  have h64 : ¬ (64 : Int) < d := by omega
  have h1 : decide ((a : Int) < 0) = false := by simp
  have h3 : ¬ (m : Int) - d < a := by omega
  go_enter Tryd.func37, Tryd.ntmps37
  go_wp2_with (first
    | (go_at_call 20; refine (sound_any A c l m _ hb0 (by omega) hlm).mono ?_; rw [HS.out]; rintro e w1 ⟨rfl, hb1⟩; obtain ⟨c0, c1, hsz, _, _⟩ := kept1 hb1 (by simp))
    | (go_at_call 44; refine (read_any A c l a d _ (hb0.below hb1) hl hd (by omega)).mono ?_; rintro e w2 ⟨rfl, hb2⟩))
  go_ret2
  exact ⟨rfl, ((below_alloc _ _).trans (hb1.mono (by simp))).trans (hb2.mono (by omega))⟩

theorem get_any (A : Option Addr) (c : Nat) (l : List UInt8) (n at_ width : Int) (w : World) (hb : Bs w A l) (hn : -9223372036854775808 ≤ n ∧ n ≤ 9223372036854775807) (hl : l.length ≤ 1099511627776)
    (ha : -9223372036854775808 ≤ at_ ∧ at_ ≤ 9223372036854775807) (hwd : -9223372036854775808 ≤ width ∧ width ≤ 9223372036854775807) :
    Calls Tryd.prog 37 #[.agg #[.slice A l.length c, .int .i64 n], .int .i64 at_, .int .i64 width] w fun e w' =>
      e = .returned (.tuple #[.int .u64 (getSpec l n at_ width).1, .int .u16 (getSpec l n at_ width).2]) ∧ Below w.heap.size w w' := by
  by_cases h0 : (getSpec l n at_ width).2 = 0
  · unfold getSpec at h0
    split at h0
    · simp at h0
    · split at h0
      · simp at h0
      · split at h0
        · simp at h0
        · rename_i hs hw he
          obtain ⟨m, rfl, hm8, -⟩ := sound_nat (show soundB l n = true by simpa using hs)
          obtain ⟨a, rfl⟩ := Int.eq_ofNat_of_zero_le (show 0 ≤ at_ by omega)
          obtain ⟨d, rfl⟩ := Int.eq_ofNat_of_zero_le (show 0 ≤ width by omega)
          rw [show getSpec l m a d = (numB (cutl l a d), 0) from by simp only [getSpec, if_neg hs, if_neg hw, if_neg he]; rfl]
          exact get_ok A c l m a d w hb hl (by simpa using hs) (by omega) (by omega)
  · have h1 : (getSpec l n at_ width).1 = 0 := by
      unfold getSpec at h0 ⊢
      split
      · rfl
      · split
        · rfl
        · split
          · rfl
          · rename_i hs hw he; simp [hs, hw, he] at h0
    rw [h1]
    exact get_err A c l n at_ width w hb hn hl ha hwd _ rfl h0

end Go.Proofs.YtfooggamdbdniaaDoor
