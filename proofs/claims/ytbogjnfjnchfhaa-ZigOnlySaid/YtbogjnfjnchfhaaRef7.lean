/- Contracts of the document's own functions of layer 1: Get, its errors. -/
import Derived.Test.YtbogjnfjnchfhaaRef6
namespace Go.Proofs.Ytbogjnfjnchfhaa
open Go.RowKit

set_option maxHeartbeats 1000000 in
theorem refGet_err (A : Option Addr) (c : Nat) (l : List UInt8) (n at_ width : Int) (w : World) (hb : Bs w A l) (hn : -9223372036854775808 ≤ n ∧ n ≤ 9223372036854775807) (hl : l.length ≤ 1099511627776)
    (ha : -9223372036854775808 ≤ at_ ∧ at_ ≤ 9223372036854775807) (hwd : -9223372036854775808 ≤ width ∧ width ≤ 9223372036854775807) (k : Nat) (hk : (getSpec l n at_ width).2 = k) (hk0 : k ≠ 0) :
    Calls Try.prog 43 #[.agg #[.slice A l.length c, .int .i64 n], .int .i64 at_, .int .i64 width] w fun e w' => e = .returned (.tuple #[.int .u64 0, .int .i64 k]) ∧ Below w.heap.size w w' := by
  have hb0 := hb.below (below_alloc w (.cells #[.slice A l.length c, .int .i64 n] 24))
  by_cases hs : soundB l n = false
  · obtain rfl : k = 11 := by rw [← hk]; simp [getSpec, hs]
    have HS := Lib.hid hs
    clear hs hk
    go_enter Try.func43, Try.ntmps43
    go_wp2_with (go_at_call 34; refine (refSound_any A c l n _ hb0 hn hl).mono ?_; rw [HS.out]; rintro e w1 ⟨rfl, hb1⟩; obtain ⟨c0, c1, hsz, _, _⟩ := kept1 hb1 (by simp))
    go_ret2
    exact ⟨rfl, (below_alloc _ _).trans (hb1.mono (by simp))⟩
  · have HS := Lib.hid (show soundB l n = true by simpa using hs)
    by_cases hw : width < 0 ∨ 64 < width
    · obtain rfl : k = 1 := by rw [← hk]; simp [getSpec, hs, hw]
      clear hs hk
      have key : ∀ b, decide (width < 0) = b → (b = false → 64 < width) → 
          Calls Try.prog 43 #[.agg #[.slice A l.length c, .int .i64 n], .int .i64 at_, .int .i64 width] w fun e w' => e = .returned (.tuple #[.int .u64 0, .int .i64 (1 : Nat)]) ∧ Below w.heap.size w w' := by
        intro b hd h64
        cases b
        all_goals
          try have hg := h64 rfl
          clear h64 hw
          go_enter Try.func43, Try.ntmps43
          go_wp2_with (go_at_call 34; refine (refSound_any A c l n _ hb0 hn hl).mono ?_; rw [HS.out]; rintro e w1 ⟨rfl, hb1⟩; obtain ⟨c0, c1, hsz, _, _⟩ := kept1 hb1 (by simp))
          go_ret2
          exact ⟨rfl, (below_alloc _ _).trans (hb1.mono (by simp))⟩
      exact key _ rfl (by simp; omega)
    · have he : at_ < 0 ∨ n < at_ ∨ n - at_ < width := by
        apply Classical.byContradiction; intro he
        exact hk0 (by rw [← hk]; simp [getSpec, hs, hw, he])
      obtain rfl : k = 10 := by rw [← hk]; simp [getSpec, hs, hw, he]
      obtain ⟨m, rfl, hm8, -⟩ := sound_nat (show soundB l n = true by simpa using hs)
      clear hs hk
      have hd : decide (width < 0) = false := by simp; omega
      have h64 : ¬ 64 < width := by omega
      have key : ∀ b b', decide (at_ < 0) = b → decide ((m : Int) < at_) = b' → (b = false → b' = false → (m : Int) - at_ < width) → (b = false → 0 ≤ at_) → (b' = false → at_ ≤ m) →
          Calls Try.prog 43 #[.agg #[.slice A l.length c, .int .i64 m], .int .i64 at_, .int .i64 width] w fun e w' => e = .returned (.tuple #[.int .u64 0, .int .i64 (10 : Nat)]) ∧ Below w.heap.size w w' := by
        intro b b' h1 h2 h3 h4 h5
        cases b <;> cases b'
        all_goals
          try have hg := h3 rfl rfl
          try have hg4 := h4 rfl
          try have hg5 := h5 rfl
          clear h3 h4 h5 he hw
          go_enter Try.func43, Try.ntmps43
          go_wp2_with (go_at_call 34; refine (refSound_any A c l m _ hb0 hn hl).mono ?_; rw [HS.out]; rintro e w1 ⟨rfl, hb1⟩; obtain ⟨c0, c1, hsz, _, _⟩ := kept1 hb1 (by simp))
          go_ret2
          exact ⟨rfl, (below_alloc _ _).trans (hb1.mono (by simp))⟩
      exact key _ _ rfl rfl (by simp; omega) (by simp) (by simp)

theorem refGet_any (A : Option Addr) (c : Nat) (l : List UInt8) (n at_ width : Int) (w : World) (hb : Bs w A l) (hn : -9223372036854775808 ≤ n ∧ n ≤ 9223372036854775807) (hl : l.length ≤ 1099511627776)
    (ha : -9223372036854775808 ≤ at_ ∧ at_ ≤ 9223372036854775807) (hwd : -9223372036854775808 ≤ width ∧ width ≤ 9223372036854775807) :
    Calls Try.prog 43 #[.agg #[.slice A l.length c, .int .i64 n], .int .i64 at_, .int .i64 width] w fun e w' =>
      e = .returned (.tuple #[.int .u64 (getSpec l n at_ width).1, .int .i64 (getSpec l n at_ width).2]) ∧ Below w.heap.size w w' := by
  by_cases h0 : (getSpec l n at_ width).2 = 0
  · unfold getSpec at h0
    split at h0
    · simp at h0
    · split at h0
      · simp at h0
      · split at h0
        · simp at h0
        · rename_i hs hw he
          obtain ⟨m, rfl, hm8, -⟩ := sound_nat (show soundB l n = true by simpa using hs)
          obtain ⟨a, rfl⟩ := Int.eq_ofNat_of_zero_le (show 0 ≤ at_ by omega)
          obtain ⟨d, rfl⟩ := Int.eq_ofNat_of_zero_le (show 0 ≤ width by omega)
          rw [show getSpec l m a d = (numB (cutl l a d), 0) from by simp only [getSpec, if_neg hs, if_neg hw, if_neg he]; rfl]
          exact refGet_ok A c l m a d w hb hl (by simpa using hs) (by omega) (by omega)
  · have h1 : (getSpec l n at_ width).1 = 0 := by
      unfold getSpec at h0 ⊢
      split
      · rfl
      · split
        · rfl
        · split
          · rfl
          · rename_i hs hw he; simp [hs, hw, he] at h0
    rw [h1]
    exact refGet_err A c l n at_ width w hb hn hl ha hwd _ rfl h0

end Go.Proofs.Ytbogjnfjnchfhaa
