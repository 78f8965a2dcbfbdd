/- Contracts of package zig: prefixed, Get. -/
import Derived.Test.YtbogjnfjnchfhaaZig3
import Derived.WalkMore
namespace Go.Proofs.Ytbogjnfjnchfhaa
open Go.RowKit

/-- a number that lies out of the bits -/
theorem get_out (A : Option Addr) (c : Nat) (M : List Bool) (a d : Int) (w : World) (hb : Bs w A (pack M)) (ha : -9223372036854775808 ≤ a ∧ a ≤ 9223372036854775807) (hd : 0 ≤ d ∧ d ≤ 64) (had : a < 0 ∨ M.length < a + d) (hL : M.length ≤ 137438953472) :
    Calls Try.prog 31 #[.agg #[.slice A (pack M).length c, .int .i64 M.length], .int .i64 a, .int .i64 d] w fun e w' => e = .returned (.tuple #[.int .u64 0, .int .u16 10]) ∧ Below w.heap.size w w' := by
  have hp := pack_le M hL
  refine get_err A c (pack M) M.length a d w hb (by omega) (by omega) ha (by omega) 10 ?_ (by decide)
  unfold getSpec
  rw [if_neg (by rw [sound_pack]; decide), if_neg (by omega), if_pos (by omega)]

set_option maxHeartbeats 2000000 in
theorem prefixed_out (A : Option Addr) (c : Nat) (M : List Bool) (a : Int) (w : World) (hb : Bs w A (pack M)) (ha : -9223372036854775808 ≤ a ∧ a ≤ 9223372036854775807) (had : a < 0 ∨ M.length < a) (hL : M.length ≤ 137438953472) :
    Calls Try.prog 42 #[.agg #[.slice A (pack M).length c, .int .i64 M.length], .int .i64 a] w fun e w' => e = .returned (.tuple #[.agg #[.int .u64 0, .int .i64 0, .int .i64 0], .int .u16 10]) ∧ Below w.heap.size w w' := by
  have X0 := Blk.new w 24 #[.slice A (pack M).length c, .int .i64 M.length]
  have R0 : Blk ((w.alloc (.cells #[.slice A (pack M).length c, .int .i64 M.length] 24)).alloc (.cells #[.int .u64 0, .int .i64 0, .int .i64 0] 68)) (w.heap.size + 1) 68 #[.int .u64 0, .int .i64 0, .int .i64 0] := by
    have h := Blk.new (w.alloc (.cells #[.slice A (pack M).length c, .int .i64 M.length] 24)) 68 #[.int .u64 0, .int .i64 0, .int .i64 0]
    rw [World.size_alloc] at h
    exact h
  have F0 : Blk (((w.alloc (.cells #[.slice A (pack M).length c, .int .i64 M.length] 24)).alloc (.cells #[.int .u64 0, .int .i64 0, .int .i64 0] 68)).alloc (.cells #[.int .u64 0, .int .i64 0, .int .i64 0] 68)) (w.heap.size + 2) 68 #[.int .u64 0, .int .i64 0, .int .i64 0] := by
    have h := Blk.new ((w.alloc (.cells #[.slice A (pack M).length c, .int .i64 M.length] 24)).alloc (.cells #[.int .u64 0, .int .i64 0, .int .i64 0] 68)) 68 #[.int .u64 0, .int .i64 0, .int .i64 0]
    rw [World.size_alloc, World.size_alloc] at h
    exact h
  have HX := Lib.hid X0
  have HR0 := Lib.hid R0
  have HF0 := Lib.hid F0
  clear X0 R0 F0
  go_enter Try.func42, Try.ntmps42
  have kA := keepA
  have kF := keepF
  go_wp2_with fail
  go_step3
  go_wp2_with fail
  go_step3
  go_wp2_with fail
  refine Calls.mono (rows_any _) ?_
  rintro e w1 ⟨rfl, hb1⟩
  have X1 := Lib.hid (HX.out.go hb1)
  have R1 := Lib.hid (HR0.out.go hb1)
  have F1 := Lib.hid (HF0.out.go hb1)
  have t1 := go1 (w := w) hb1
  clear HX HR0 HF0
  go_wp2_with fail
  go_loopw [12] (fun i wr => ∃ k : Nat, Hid (k = 0) ∧ i = .int .i64 k ∧ w1 = wr) (fun i _ => 6 - (intOf i).toNat)
  case atStart => exact ⟨0, rfl, rfl, rfl⟩
  case round =>
    obtain ⟨k, Hk, rfl, rfl⟩ := hrel
    have hk6 : k < 6 := by have := Hk.out; omega
    have hix := rows_at k hk6
    have xr := X1.out.duo.1
    have rr := R1.out.tri
    have hzl := zl_pos k
    go_wp2_with fail
    refine Calls.mono (get_out A c M _ _ _ (hb.on t1) (by omega) (by omega) (by omega) hL) ?_
    rintro e w2 ⟨rfl, hb2⟩
    have R2 := R1.out.go hb2
    have r2 := R2.tri
    have t2 := on t1 hb2
    have s2 := t1.size
    go_wp2
    rw [Exit.noGoto_ret]
    have S2 := (R2.set3 (.int .u64 0) (.int .i64 0) (.int .i64 0))
    refine bodyPost_ret (results_row_tmp Try.results42 _ _ (w.heap.size + 1) 68 #[.int .u64 0, .int .i64 0, .int .i64 0] _ rfl S2 Try.underlying68 rfl (by kernel_rfl) (.int .u16 10) rfl) rfl ⟨rfl, ?_⟩
    exact (((t2.setCell (by simp) _).setCell (by simp) _).setCell (by simp) _)

set_option maxHeartbeats 2000000 in
theorem prefixed_in (A : Option Addr) (c : Nat) (M : List Bool) (a : Nat) (w : World) (hb : Bs w A (pack M)) (had : a ≤ M.length) (hL : M.length ≤ 137438953472) (r : Nat) (hr : r = zrow (M.drop a)) :
    Calls Try.prog 42 #[.agg #[.slice A (pack M).length c, .int .i64 M.length], .int .i64 a] w fun e w' =>
      e = .returned (if M.length < a + zl r then .tuple #[.agg #[.int .u64 0, .int .i64 0, .int .i64 0], .int .u16 10] else .tuple #[.agg #[.int .u64 (zp r : Nat), .int .i64 (zl r : Nat), .int .i64 (zw r : Nat)], .int .u16 0]) ∧ Below w.heap.size w w' := by
  have hr5 : r ≤ 5 := by rw [hr]; exact ones_le 5 _
  have hrl : r ≤ M.length - a := by rw [hr]; have := ones_len 5 (M.drop a); rw [List.length_drop] at this; exact this
  have HR := Lib.hid hr
  clear hr
  have X0 := Blk.new w 24 #[.slice A (pack M).length c, .int .i64 M.length]
  have R0 : Blk ((w.alloc (.cells #[.slice A (pack M).length c, .int .i64 M.length] 24)).alloc (.cells #[.int .u64 0, .int .i64 0, .int .i64 0] 68)) (w.heap.size + 1) 68 #[.int .u64 0, .int .i64 0, .int .i64 0] := by
    have h := Blk.new (w.alloc (.cells #[.slice A (pack M).length c, .int .i64 M.length] 24)) 68 #[.int .u64 0, .int .i64 0, .int .i64 0]
    rw [World.size_alloc] at h
    exact h
  have F0 : Blk (((w.alloc (.cells #[.slice A (pack M).length c, .int .i64 M.length] 24)).alloc (.cells #[.int .u64 0, .int .i64 0, .int .i64 0] 68)).alloc (.cells #[.int .u64 0, .int .i64 0, .int .i64 0] 68)) (w.heap.size + 2) 68 #[.int .u64 0, .int .i64 0, .int .i64 0] := by
    have h := Blk.new ((w.alloc (.cells #[.slice A (pack M).length c, .int .i64 M.length] 24)).alloc (.cells #[.int .u64 0, .int .i64 0, .int .i64 0] 68)) 68 #[.int .u64 0, .int .i64 0, .int .i64 0]
    rw [World.size_alloc, World.size_alloc] at h
    exact h
  have HX := Lib.hid X0
  have HR0 := Lib.hid R0
  have HF0 := Lib.hid F0
  clear X0 R0 F0
  go_enter Try.func42, Try.ntmps42
  have kA := keepA
  have kF := keepF
  go_wp2_with fail
  go_step3
  go_wp2_with fail
  go_step3
  go_wp2_with fail
  refine Calls.mono (rows_any _) ?_
  rintro e w1 ⟨rfl, hb1⟩
  have X1 := Lib.hid (HX.out.go hb1)
  have R1 := Lib.hid (HR0.out.go hb1)
  have F1 := Lib.hid (HF0.out.go hb1)
  have t1 := go1 (w := w) hb1
  clear HX HR0 HF0
  go_wp2_with fail
  go_loopw [12] (fun i wr => ∃ k : Nat, k ≤ r ∧ i = .int .i64 k ∧ Below w1.heap.size w1 wr) (fun i _ => 6 - (intOf i).toNat)
  case atStart => exact ⟨0, Nat.zero_le _, rfl, Below.refl _ _⟩
  case round =>
    obtain ⟨k, hk, rfl, hbel⟩ := hrel
    have hk6 : k < 6 := by omega
    have hix := rows_at k hk6
    have hzl := zl_pos k
    have tr := on t1 hbel
    have Xr := X1.out.go hbel
    have Rr := R1.out.go hbel
    have Fr := F1.out.go hbel
    have xr := Xr.duo.1
    have rr := Rr.tri
    have fr := Fr.tri
    have HXr := Lib.hid Xr
    have HRr := Lib.hid Rr
    have HFr := Lib.hid Fr
    clear Xr Rr Fr
    by_cases hlt : k < r
    · have hz1 : zl k = k + 1 := by have : ∀ j < 5, zl j = j + 1 := by decide
                                    exact this k (by omega)
      have hfit : a + zl k ≤ M.length := by omega
      have hnot := zrow_not (M.drop a) k (by rw [← HR.out]; exact hlt) (by rw [List.length_drop]; omega)
      have HNOT := Lib.hid hnot
      have Hlt := Lib.hid hlt
      clear hz1 hnot hlt
      go_wp2_with fail
      refine Calls.mono (get_E A c M _ _ _ (hb.on tr) (by omega) (by omega) (by omega) hL) ?_
      rintro e w2 ⟨N, HN, rfl, hb2⟩
      have p2 := ((Blk.new wr 68 #[.int .u64 (zp k : Nat), .int .i64 (zl k : Nat), .int .i64 (zw k : Nat)]).go hb2).tri
      have hne : ((N : Int) == (zp k : Int)) = false := by
        rw [beq_eq_false_iff_ne]
        intro h
        apply HNOT.out
        have h2 := HN.out
        rw [Int.toNat_natCast, Int.toNat_natCast] at h2
        rw [← h2]; omega
      go_wp2
      go_roundw
      case measure => simp [intOf]; omega
      case rel => exact ⟨k + 1, Hlt.out, by go_num, on hbel hb2⟩
    · obtain rfl : k = r := by omega
      by_cases hfit : M.length < a + zl k
      · have Hfit := Lib.hid hfit
        go_wp2_with fail
        refine Calls.mono (get_out A c M _ _ _ (hb.on tr) (by omega) (by omega) (by omega) hL) ?_
        rintro e w2 ⟨rfl, hb2⟩
        have R2 := HRr.out.go hb2
        have r2 := R2.tri
        have t2 := on tr hb2
        have s2 := tr.size
        go_wp2
        rw [Exit.noGoto_ret]
        have S2 := (R2.set3 (.int .u64 0) (.int .i64 0) (.int .i64 0))
        refine bodyPost_ret (results_row_tmp Try.results42 _ _ (w.heap.size + 1) 68 #[.int .u64 0, .int .i64 0, .int .i64 0] _ rfl S2 Try.underlying68 rfl (by kernel_rfl) (.int .u16 10) rfl) rfl ⟨by rw [if_pos Hfit.out], ?_⟩
        exact (((t2.setCell (by simp) _).setCell (by simp) _).setCell (by simp) _)
      · have Hfit := Lib.hid hfit
        have hyes := zrow_num (M.drop a) (by rw [← HR.out, List.length_drop]; omega)
        rw [← HR.out] at hyes
        have HYES := Lib.hid hyes
        clear hyes
        go_wp2_with fail
        refine Calls.mono (get_E A c M _ _ _ (hb.on tr) (by omega) (by omega) (by omega) hL) ?_
        rintro e w2 ⟨N, HN, rfl, hb2⟩
        have p2 := ((Blk.new wr 68 #[.int .u64 (zp k : Nat), .int .i64 (zl k : Nat), .int .i64 (zw k : Nat)]).go hb2).tri
        have heq : ((N : Int) == (zp k : Int)) = true := by
          rw [beq_iff_eq]
          have h2 := HN.out
          rw [Int.toNat_natCast, Int.toNat_natCast, HYES.out] at h2
          rw [h2]
        have R2 := HRr.out.go hb2
        have F2 := HFr.out.go hb2
        have r2 := R2.tri
        have f2 := F2.tri
        have t2 := on tr hb2
        have s2 := tr.size
        go_wp2
        rw [Exit.noGoto_ret]
        have S2 := ((((R2.far ⟨w.heap.size + 2, 0, none⟩ (.int .u64 (zp k : Nat)) (by simp)).far ⟨w.heap.size + 2, 1, none⟩ (.int .i64 (zl k : Nat)) (by simp)).far ⟨w.heap.size + 2, 2, none⟩ (.int .i64 (zw k : Nat)) (by simp)).set3 (.int .u64 (zp k : Nat)) (.int .i64 (zl k : Nat)) (.int .i64 (zw k : Nat)))
        refine bodyPost_ret (results_row_tmp Try.results42 _ _ (w.heap.size + 1) 68 #[.int .u64 (zp k : Nat), .int .i64 (zl k : Nat), .int .i64 (zw k : Nat)] _ rfl S2 Try.underlying68 rfl (by kernel_rfl) (.int .u16 0) rfl) rfl ⟨by rw [if_neg Hfit.out], ?_⟩
        exact ((((((t2.setCell (by simp; omega) _).setCell (by simp; omega) _).setCell (by simp; omega) _).setCell (by simp) _).setCell (by simp) _).setCell (by simp) _)

end Go.Proofs.Ytbogjnfjnchfhaa
