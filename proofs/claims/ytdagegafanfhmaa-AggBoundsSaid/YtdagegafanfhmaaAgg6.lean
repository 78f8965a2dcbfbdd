/- Mean of a sum of one word; the chapter's example. -/
import Derived.Test.YtdagegafanfhmaaAgg5
namespace Go.Proofs.Ytdagegafanfhmaa
open Go.RowKit

theorem div64_small (lo n : Nat) (w : World) (hn : n ≠ 0) (hl : lo < 18446744073709551616) (hn2 : n < 18446744073709551616) :
    Calls Try.prog 52 #[.int .u64 0, .int .u64 lo, .int .u64 n] w fun e w' => e = .returned (.tuple #[.int .u64 (lo / n : Nat), .int .u64 (lo % n : Nat)]) ∧ Below w.heap.size w w' := by
  have hz : ((n : Int) == 0) = false := by simp; omega
  have hz2 : decide ((n : Int) ≤ 0) = false := by simp; omega
  have hz3 : (n == 0) = false := by simp; omega
  have hz4 : decide (n ≤ 0) = false := by simp; omega
  go_enter Try.func52, Try.ntmps52
  go_wp2_with fail
  go_quiet (fail)
  go_wp2_with fail
  refine bodyPost_ret (v := .tuple #[.int .u64 (IntKind.u64.wrap ((lo : Int) / n)), .int .u64 ((lo : Int) % n)]) (by simp [results, Try.results52, go_sem]) rfl ⟨?_, below_drewN (Below.refl _ _) _⟩
  have h1 : lo / n ≤ lo := Nat.div_le_self _ _
  have h2 : IntKind.u64.wrap ((lo : Int) / n) = ((lo / n : Nat) : Int) := by
    rw [IntKind.wrap_u64, ← Int.natCast_ediv]
    generalize lo / n = q at h1 ⊢
    omega
  rw [h2, ← Int.natCast_emod]

set_option maxRecDepth 100000 in
theorem mean_small (n : Nat) (ft : Int) (fv : Nat) (lt : Int) (lv mn mx lo : Nat) (w : World) (hn : n ≠ 0) (hl : lo < 18446744073709551616) (hn2 : n < 18446744073709551616) :
    Calls Try.prog 36 #[.agg #[.int .u64 n, .int .i64 ft, .int .u64 fv, .int .i64 lt, .int .u64 lv, .int .u64 mn, .int .u64 mx, .int .u64 0, .int .u64 lo]] w fun e w' =>
      ∃ x : Int, Hid (x = (lo / n : Nat)) ∧ e = .returned (.tuple #[.int .u64 x, .bool true]) ∧ Below w.heap.size w w' := by
  have hz : ((n : Int) == 0) = false := by simp; omega
  have hz2 : decide ((n : Int) ≤ 0) = false := by simp; omega
  have hz3 : (n == 0) = false := by simp; omega
  have hz4 : decide (n ≤ 0) = false := by simp; omega
  go_enter Try.func36, Try.ntmps36
  go_wp2_with (go_at_call 52; refine (div64_small lo n _ hn hl hn2).mono ?_; rintro e w1 ⟨rfl, hb1⟩)
  refine bodyPost_ret (v := .tuple #[.int .u64 ((lo : Int) / n), .bool true]) (by simp [results, Try.results36, go_sem]) rfl ⟨_, Lib.hid (by rw [Int.natCast_ediv]), rfl, go1 (w := w) hb1⟩

theorem ss_two (w : World) (t1 t2 : Int) (v1 v2 : Nat) (T : TypeId) : Ss (w.alloc (.cells #[.int .i64 t1, .int .u64 v1, .int .i64 t2, .int .u64 v2] T)) (some ⟨w.heap.size, 0, none⟩) [(t1, v1), (t2, v2)] := by
  intro i s h
  have hb := Blk.new w T #[.int .i64 t1, .int .u64 v1, .int .i64 t2, .int .u64 v2]
  match i, h with
  | 0, h => simp at h; subst h; exact ⟨w.heap.size, 0, rfl, hb.cell 0, hb.cell 1⟩
  | 1, h => simp at h; subst h; exact ⟨w.heap.size, 0, rfl, hb.cell 2, hb.cell 3⟩
theorem aggof_two (t1 t2 : Int) (v1 v2 : Nat) (A : Option Addr) (c : Nat) (n : Nat) (ft : Int) (fv : Nat) (lt : Int) (lv mn mx hi lo e0 : Nat) (hR : aggOf [(t1, v1), (t2, v2)] = (⟨n, ft, fv, lt, lv, mn, mx, hi, lo⟩, e0)) (w : World) (hS : Ss w A [(t1, v1), (t2, v2)]) (hs : okS [(t1, v1), (t2, v2)]) :
    Calls Try.prog 33 #[.slice A 2 c] w fun e w' => e = .returned (.tuple #[.agg #[.int .u64 n, .int .i64 ft, .int .u64 fv, .int .i64 lt, .int .u64 lv, .int .u64 mn, .int .u64 mx, .int .u64 hi, .int .u64 lo], .int .u16 e0]) ∧ Below w.heap.size w w' := by
  refine Calls.mono (aggof_any A c [(t1, v1), (t2, v2)] w hS hs (by simp)) ?_
  rintro e w' ⟨rfl, hb⟩
  rw [hR]
  exact ⟨rfl, hb⟩
theorem mean_known (w : World) : Calls Try.prog 36 #[.agg #[.int .u64 2, .int .i64 1, .int .u64 2, .int .i64 3, .int .u64 5, .int .u64 2, .int .u64 5, .int .u64 0, .int .u64 7]] w fun e w' =>
      e = .returned (.tuple #[.int .u64 3, .bool true]) ∧ Below w.heap.size w w' := by
  refine Calls.mono (mean_small 2 1 2 3 5 2 5 7 w (by decide) (by decide) (by decide)) ?_
  rintro e w' ⟨x, hx, rfl, hb⟩
  rw [hx.out]
  exact ⟨rfl, hb⟩
theorem agg_e2 : aggOf [(1, 2), (3, 5)] = (⟨2, 1, 2, 3, 5, 2, 5, 0, 7⟩, 0) := by rfl
theorem agg_e0 : aggOf [(1, 0), (1, 0)] = (⟨0, 0, 0, 0, 0, 0, 0, 0, 0⟩, 240) := by rfl
theorem agg_ok2 : okS [(1, 2), (3, 5)] := by unfold okS; simp
theorem agg_ok0 : okS [(1, 0), (1, 0)] := by unfold okS; simp

set_option maxRecDepth 100000 in
theorem known_any (w : World) : Calls Try.prog 31 #[] w fun e w' => e = .returned (.bool true) ∧ Below w.heap.size w w' := by
  go_enter Try.func31, Try.ntmps31
  have kA := keepA
  go_wp2_with (first
    | (go_at_call 33; refine (aggof_two 1 3 2 5 _ 2 2 1 2 3 5 2 5 0 7 0 agg_e2 _ (ss_two _ _ _ _ _ _) agg_ok2).mono ?_; rintro e w1 ⟨rfl, hb1⟩)
    | (go_at_call 36; refine (mean_known _).mono ?_; rintro e w2 ⟨rfl, hb2⟩; have A2 := (Blk.new w1 50 #[Value.int IntKind.u64 2, Value.int IntKind.i64 1, Value.int IntKind.u64 2, Value.int IntKind.i64 3, Value.int IntKind.u64 5, Value.int IntKind.u64 2, Value.int IntKind.u64 5, Value.int IntKind.u64 0, Value.int IntKind.u64 7]).go hb2)
    | (go_at_call 33; refine (aggof_two 1 1 0 0 _ 2 0 0 0 0 0 0 0 0 0 240 agg_e0 _ (ss_two _ _ _ _ _ _) agg_ok0).mono ?_; rintro e w3 ⟨rfl, hb3⟩; have A3 := (A2.go hb3).nine))
  have t3 := on (on (go1 (w := w) hb1) hb2) hb3
  exact bodyPost_ret (v := .bool true) (by simp [results, Try.results31, go_sem]) rfl ⟨rfl, t3.alloc t3.size _⟩

end Go.Proofs.Ytdagegafanfhmaa
