/- Contracts of the statements' own helpers: known. -/
import Derived.Test.YtbogjnfjnchfhaaOwn
import Derived.Test.YtbogjnfjnchfhaaExt
import Derived.Test.YtbogjnfjnchfhaaBit3
import Derived.Test.YtbogjnfjnchfhaaBit5
namespace Go.Proofs.Ytbogjnfjnchfhaa
open Go.RowKit

theorem kn1 (w : World) : Calls Try.prog 30 #[.agg #[.slice none 0 0, .int .i64 0], .int .u64 5, .int .i64 3] w fun e w' =>
    ∃ A' c', e = .returned (.tuple #[.agg #[.slice A' 1 c', .int .i64 3], .int .u16 0]) ∧ OwnB w' w.heap.size (.slice A' 1 c') [160] ∧ Below w.heap.size w w' := by
  have h := put_any none 0 [] 0 5 3 w (Bs.nil _ _) (by omega) (by simp) (by omega) (by omega)
  rw [show putSpec [] 0 5 3 = ([160], 3, 0) from by decide] at h
  exact h
theorem kn2 (A : Option Addr) (c : Nat) (w : World) (hb : Bs w A [160]) : Calls Try.prog 30 #[.agg #[.slice A 1 c, .int .i64 3], .int .u64 1, .int .i64 6] w fun e w' =>
    ∃ A' c', e = .returned (.tuple #[.agg #[.slice A' 2 c', .int .i64 9], .int .u16 0]) ∧ OwnB w' w.heap.size (.slice A' 2 c') [160, 128] ∧ Below w.heap.size w w' := by
  have h := put_any A c [160] 3 1 6 w hb (by omega) (by simp) (by omega) (by omega)
  rw [show putSpec [160] 3 1 6 = ([160, 128], 9, 0) from by decide] at h
  exact h
theorem kn3 (A : Option Addr) (c : Nat) (w : World) (hb : Bs w A [160, 128]) : Calls Try.prog 31 #[.agg #[.slice A 2 c, .int .i64 9], .int .i64 0, .int .i64 3] w fun e w' =>
    e = .returned (.tuple #[.int .u64 5, .int .u16 0]) ∧ Below w.heap.size w w' := by
  have h := get_any A c [160, 128] 9 0 3 w hb (by omega) (by simp) (by omega) (by omega)
  rw [show getSpec [160, 128] 9 0 3 = (5, 0) from by decide] at h
  exact h
theorem kn4 (A : Option Addr) (c : Nat) (w : World) (hb : Bs w A [160, 128]) : Calls Try.prog 31 #[.agg #[.slice A 2 c, .int .i64 9], .int .i64 8, .int .i64 2] w fun e w' =>
    e = .returned (.tuple #[.int .u64 0, .int .u16 10]) ∧ Below w.heap.size w w' := by
  have h := get_any A c [160, 128] 9 8 2 w hb (by omega) (by simp) (by omega) (by omega)
  rw [show getSpec [160, 128] 9 8 2 = (0, 10) from by decide] at h
  exact h
theorem kn5 (A : Option Addr) (c : Nat) (w : World) (hb : Bs w A [161]) : Calls Try.prog 32 #[.agg #[.slice A 1 c, .int .i64 3]] w fun e w' =>
    e = .returned (.bool false) ∧ Below w.heap.size w w' := by
  have h := sound_any A c [161] 3 w hb (by omega) (by simp [maxLen])
  rw [show soundB [161] 3 = false from by decide] at h
  exact h

set_option maxHeartbeats 1000000 in
theorem known_any (w : World) : Calls Try.prog 12 #[] w fun e w' => e = .returned (.bool true) ∧ Below w.heap.size w w' := by
  go_enter Try.func12, Try.ntmps12
  go_wp2_with fail
  refine (kn1 _).mono ?_
  rintro e w1 ⟨A1, c1, rfl, hown1, hb1⟩
  go_wp2_with fail
  obtain ⟨_, _, hv1, _, _, hB1⟩ := hown1.isB
  injection hv1 with e1 e2 e3
  subst e1; clear e2 e3
  refine (kn2 A1 c1 _ (hB1.below (below_alloc _ _))).mono ?_
  rintro e w2 ⟨A2, c2, rfl, hown2, hb2⟩
  have hb2' : Below w.heap.size w w2 := (hb1.trans (below_alloc _ _ |>.mono hb1.size)).trans (hb2.mono (by have := hb1.size; simp; omega))
  obtain ⟨g, cap, hv2, _, hg2, _⟩ := hown2.form (by decide)
  injection hv2 with e1 e2 e3
  subst e1; subst e3; clear e2
  have hc0 := hown2.cell 0 (by decide)
  have hc1 := hown2.cell 1 (by decide)
  obtain ⟨_, _, hv2, _, _, hB2⟩ := hown2.isB
  injection hv2 with e1 e2 e3
  subst e1; clear e2 e3
  clear hown1 hown2 hB1
  go_wp2_with fail
  refine (kn3 _ c2 _ (hB2.below (below_alloc _ _))).mono ?_
  rintro e w3 ⟨rfl, hb3⟩
  obtain ⟨q0, q1, hsz3, _, _⟩ := kept1 hb3 (by simp)
  go_wp2_with fail
  refine (kn4 _ c2 _ ((hB2.below (below_alloc _ _)).below hb3)).mono ?_
  rintro e w4 ⟨rfl, hb4⟩
  have hb34 := hb3.trans (hb4.mono (by simpa using hsz3))
  clear q0 q1
  obtain ⟨q0, q1, hsz4, _, _⟩ := kept1 hb34 (by simp)
  have hd0 : w4.cell? ⟨g, 0, none⟩ = some (bv 160) := by rw [hb34.cell (show g < _ by simp; omega), World.cell?_alloc_lt _ _ _ hg2]; exact hc0
  have hd1 : w4.cell? ⟨g, 1, none⟩ = some (bv 128) := by rw [hb34.cell (show g < _ by simp; omega), World.cell?_alloc_lt _ _ _ hg2]; exact hc1
  have hd0' : w4.cell? ⟨g, 0, none⟩ = some (.int .u8 160) := hd0
  have hd1' : w4.cell? ⟨g, 1, none⟩ = some (.int .u8 128) := hd1
  clear hc0 hc1 hd0 hd1
  go_wp2_with fail
  refine (kn5 _ 1 _ ?_).mono ?_
  · intro i b hi
    match i, hi with
    | 0, hi => simp at hi; subst hi; exact ⟨_, _, rfl, box_cell _ _ _ _ _ rfl⟩
  rintro e w5 ⟨rfl, hb5⟩
  go_wp2
  go_ret
  refine ⟨rfl, ((hb2'.trans ((below_alloc _ _).mono hb2'.size)).trans (hb34.mono ?_)).trans (((below_alloc w4 _).mono ?_).trans (hb5.mono ?_))⟩
  · have := hb2'.size; simp; omega
  · have := hb2'.size; omega
  · have := hb2'.size; simp; omega

end Go.Proofs.Ytbogjnfjnchfhaa
