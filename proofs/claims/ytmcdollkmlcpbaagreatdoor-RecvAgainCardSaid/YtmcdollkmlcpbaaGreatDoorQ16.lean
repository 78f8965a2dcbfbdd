/- Joined: Zig2. -/
import Derived.Test.YtmcdollkmlcpbaaGreatDoorQ13
import Derived.WalkMore
set_option linter.unusedSimpArgs false
set_option linter.unusedVariables false
namespace Go.Proofs.YtmcdollkmlcpbaaGreatDoor
open Go.RowKit
set_option maxHeartbeats 1000000 in
theorem fitting_any (n : Nat) (w : World) (hn : n < 18446744073709551616) :
  Calls Tryz.prog 109 #[.int .u64 n] w fun e w' => e = .returned (.agg #[.int .u64 (zp (zk n) : Nat), .int .i64 (zl (zk n) : Nat), .int .i64 (zw (zk n) : Nat)]) ∧ Below w.heap.size w w' := by
 go_enter Tryz.func109, Tryz.ntmps109
 have kA := keepA
 go_wp2_with fail
 go_step3
 go_wp2_with fail
 go_step3
 go_wp2_with fail
 refine Calls.mono (rows_any _) ?_
 rintro e w1 ⟨rfl, hb1⟩
 go_wp2_with fail
 have s1 := hb1.size
 simp only [World.size_alloc] at s1
 have hbr : Below (w.heap.size + 2) ((w.alloc (.cells #[.int .u64 0, .int .i64 0, .int .i64 0] 192)).alloc (.cells #[.int .u64 0, .int .i64 0, .int .i64 0] 192)) w1 := hb1.mono (by simp)
 go_loopw [7] (fun i wr => ∃ k : Nat, k ≤ zk n ∧ i = .int .i64 k ∧ Below (w.heap.size + 2) ((w.alloc (.cells #[.int .u64 0, .int .i64 0, .int .i64 0] 192)).alloc (.cells #[.int .u64 0, .int .i64 0, .int .i64 0] 192)) wr)
  (fun i _ => 6 - (intOf i).toNat)
 case atStart => exact ⟨0, Nat.zero_le _, rfl, hbr⟩
 case round =>
  obtain ⟨k, hk, rfl, hbel⟩ := hrel
  have sr := hbel.size
  simp only [World.size_alloc] at sr
  have hk6 : k < 6 := by have := zk_le n; omega
  have hix := rows_at k hk6
  have hw64 := zw_le k
  have HB := hbel
  have Q0 := Lib.hid (((Blk.new w 192 #[.int .u64 0, .int .i64 0, .int .i64 0]).alloc (.cells #[.int .u64 0, .int .i64 0, .int .i64 0] 192)).below hbel (by omega))
  have Q1 : Hid (Blk wr (w.heap.size + 1) 192 #[.int .u64 0, .int .i64 0, .int .i64 0]) := by
   have h := (Blk.new (w.alloc (.cells #[.int .u64 0, .int .i64 0, .int .i64 0] 192)) 192 #[.int .u64 0, .int .i64 0, .int .i64 0]).below hbel (by simp)
   rw [World.size_alloc] at h
   exact Lib.hid h
  have q0 := Q0.out.tri
  have q1 := Q1.out.tri
  have kF := keepF
  by_cases hlt : k < zk n
  ·have hnf := zk_not n k hlt
   have hsh : ((n : Int) / 2 ^ zw k == 0) = false := by
    rw [nat_shr, beq_eq_false_iff_ne]
    intro h
    have h2 : n / 2 ^ zw k = 0 := by omega
    rw [Nat.div_eq_zero_iff] at h2
    have := Nat.two_pow_pos (zw k)
    omega
   have Hk := Lib.hid hlt
   clear hnf hlt
   go_wp2
   go_roundw
   case measure => simp [intOf]; omega
   case rel => exact ⟨k + 1, Hk.out, by go_num, HB.alloc (by omega) _⟩
  ·obtain rfl : k = zk n := by omega
   have hf := zk_fits n hn
   have hsh : ((n : Int) / 2 ^ zw (zk n) == 0) = true := by
    rw [nat_shr, beq_iff_eq, Nat.div_eq_of_lt hf]; rfl
   clear hf hlt hk
   go_wp2
   rw [Exit.noGoto_ret]
   refine bodyPost_ret (results_cell_row Tryz.results109 _ _ w.heap.size 192 #[.int .u64 (zp (zk n) : Nat), .int .i64 (zl (zk n) : Nat), .int .i64 (zw (zk n) : Nat)] (0, 0) _ rfl ?_ Tryz.underlying192 rfl (by kernel_rfl)) rfl ⟨rfl, ?_⟩
   ·exact Blk.set3 ((((Q0.out.alloc _).far _ _ (by simp)).far _ _ (by simp)).far _ _ (by simp)) _ _ _
   ·exact (((((((((below_alloc2 _ _ _).trans (HB.mono (by omega))).alloc (by omega) _).setCell (by simp) _).setCell (by simp) _).setCell (by simp) _).setCell (by simp) _).setCell (by simp) _).setCell (by simp) _)
end Go.Proofs.YtmcdollkmlcpbaaGreatDoor
