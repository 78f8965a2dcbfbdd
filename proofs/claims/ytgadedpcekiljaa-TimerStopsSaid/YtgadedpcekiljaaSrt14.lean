/- slices.Sort at []uint32: Sort. -/
import Derived.Test.YtgadedpcekiljaaSrt13
set_option linter.unusedSimpArgs false
set_option linter.unusedVariables false
namespace Go.Proofs.Ytgadedpcekiljaa
open Go.RowKit
set_option maxRecDepth 100000

theorem swo_ltN : Go.Sort.SWO ltN where
  irrefl := fun x => by simp [ltN]
  trans := fun x y z h1 h2 => by simp [ltN] at h1 h2 ⊢; omega
  ntrans := fun x y z h1 h2 => by simp [ltN] at h1 h2 ⊢; omega
/-- what a sorted row holds -/
def SortOf (d d' : Array Nat) : Prop := d'.toList.Perm d.toList ∧ d'.toList.Pairwise (· ≤ ·)
theorem SortOf.of {d d' : Array Nat} (hp : Go.Sort.PermIn 0 d.size d d') (hs : Go.Sort.SortedIn ltN 0 d.size d') : SortOf d d' := by
  obtain ⟨h1, h2, h3⟩ := hp
  rw [← h1] at h3
  rw [Array.extract_eq_self_of_le (Nat.le_refl _)] at h3
  rw [h1, Array.extract_eq_self_of_le (Nat.le_refl _)] at h3
  refine ⟨h3, List.pairwise_iff_getElem.2 fun i j hi hj hij => ?_⟩
  have h4 := hs i j (Nat.zero_le _) hij (by rw [← h1]; simpa using hj)
  rw [getElem!_pos d' i (by simpa using hi), getElem!_pos d' j (by simpa using hj)] at h4
  simp [ltN] at h4
  simpa using h4
set_option maxHeartbeats 4000000 in
theorem sort_u32 {B : Nat} {w0 w : World} {ts : List Kt} {g n c : Nat} {d : Array Nat} (h : Sep B w0 w (thS g n c d :: ts)) (hn : n ≤ 1000000000000) :
    Calls Try.prog 23 #[.slice (some ⟨g, 0, none⟩) n c] w fun e w' => e = .returned (.tuple #[]) ∧ ∃ d', Sep B w0 w' (thS g n c d' :: ts) ∧ SortOf d d' := by
  have hnd := srt_len h
  have H1 := Lib.hid (len_any n w hn)
  obtain ⟨k, hk⟩ : ∃ k, k = Go.Sort.bitsLen n := ⟨_, rfl⟩
  have hk40 := bl_le n hn
  rw [← hk] at H1 hk40
  have H2 := Lib.hid (pdq_any ltN swo_ltN less_u32 n h 0 n k (Nat.sub_zero _) (Nat.zero_le _) (Nat.le_refl _) hn (by omega) (Or.inl rfl))
  have HN := Lib.hid hnd
  clear h hk hnd
  go_enter Try.func23, Try.ntmps23
  go_wp2_with fail
  refine H1.out.mono ?_
  rintro e w1 ⟨rfl, hw1⟩
  rw [hw1]
  clear hw1 H1
  go_wp2_with fail
  refine H2.out.mono ?_
  rintro e w2 ⟨rfl, d', h1, h2, h3⟩
  have H3 : Hid (Sep B w0 w2 (thS g n c d' :: ts) ∧ SortOf d d') := Lib.hid ⟨h1, SortOf.of (by rw [← HN.out]; exact h2) (by rw [← HN.out]; exact h3)⟩
  clear h1 h2 h3 H2
  go_wp2_with fail
  go_end0
  exact ⟨rfl, d', H3.out⟩
/-- of no elements -/
theorem ins_nil (w : World) : Calls Try.prog 26 #[.slice none 0 0, .int .i64 0, .int .i64 0] w fun e w' => e = .returned (.tuple #[]) ∧ w' = w := by
  go_enter Try.func26, Try.ntmps26
  go_wp2_with fail
  go_loopw [6] (fun s wr => s = .int .i64 1 ∧ wr = w) (fun s _ => 0)
  case atStart => exact ⟨by first | rfl | go_num, rfl⟩
  case round =>
    obtain ⟨rfl, rfl⟩ := hrel
    go_wp2_with fail
    go_end0
    exact ⟨rfl, rfl⟩
theorem pdq_nil (w : World) (k : Nat) : Calls Try.prog 24 #[.slice none 0 0, .int .i64 0, .int .i64 0, .int .i64 (k : Nat)] w fun e w' => e = .returned (.tuple #[]) ∧ w' = w := by
  have H1 := Lib.hid (ins_nil w)
  go_enter Try.func24, Try.ntmps24
  go_wp2_with fail
  go_loopw [1, 2, 3, 8, 9] (fun s1 s2 s3 s8 s9 wr => s1 = .int .i64 0 ∧ s2 = .int .i64 0 ∧ s3 = .int .i64 (k : Nat) ∧ s8 = .bool true ∧ s9 = .bool true ∧ wr = w) (fun _ _ _ _ _ _ => 0)
  case atStart => exact ⟨rfl, rfl, rfl, rfl, rfl, rfl⟩
  case round =>
    obtain ⟨rfl, rfl, rfl, rfl, rfl, hwr⟩ := hrel
    rw [hwr]
    clear hwr
    go_wp2_with fail
    refine H1.out.mono ?_
    rintro e w2 ⟨rfl, hw2⟩
    rw [hw2]
    clear hw2 H1
    go_wp2_with fail
    first | go_end0 | (refine bodyPost_ret (results_none rfl _ _ _) rfl ?_)
    exact ⟨rfl, rfl⟩
theorem sort_nil (w : World) : Calls Try.prog 23 #[.slice none 0 0] w fun e w' => e = .returned (.tuple #[]) ∧ w' = w := by
  have H1 := Lib.hid (len_any 0 w (by omega))
  have H2 := Lib.hid (pdq_nil w (Go.Sort.bitsLen 0))
  obtain ⟨k, hk⟩ : ∃ k, k = Go.Sort.bitsLen 0 := ⟨_, rfl⟩
  rw [← hk] at H1 H2
  clear hk
  go_enter Try.func23, Try.ntmps23
  go_wp2_with fail
  refine H1.out.mono ?_
  rintro e w1 ⟨rfl, hw1⟩
  rw [hw1]
  clear hw1 H1
  go_wp2_with fail
  refine H2.out.mono ?_
  rintro e w2 ⟨rfl, hw2⟩
  rw [hw2]
  clear hw2 H2
  go_wp2_with fail
  go_end0
  exact ⟨rfl, rfl⟩

end Go.Proofs.Ytgadedpcekiljaa
