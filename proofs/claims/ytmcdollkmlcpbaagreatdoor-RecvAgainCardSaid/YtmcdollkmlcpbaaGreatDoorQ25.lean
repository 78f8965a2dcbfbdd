/- Joined: Zig3, Zig4, Zig5, Zig6. -/
import Derived.Test.YtmcdollkmlcpbaaGreatDoorQ7
import Derived.Test.YtmcdollkmlcpbaaGreatDoorQ16
import Derived.Test.YtmcdollkmlcpbaaGreatDoorQ10
import Derived.Test.YtmcdollkmlcpbaaGreatDoorQ11
import Derived.Deep.DeepCutAuto
import Derived.WalkMore
import Derived.Test.YtmcdollkmlcpbaaGreatDoorQ13
import Derived.Outline
import Derived.Test.YtmcdollkmlcpbaaGreatDoorQ4
set_option linter.unusedSimpArgs false
set_option linter.unusedVariables false
namespace Go.Proofs.YtmcdollkmlcpbaaGreatDoor
open Go.RowKit
def zputSpec (l : List UInt8) (n v : Int) : List UInt8 × Nat × Nat :=
 if soundB l n = true then (pack (bitl l n.toNat ++ zenc (foldZ v)), (bitl l n.toNat ++ zenc (foldZ v)).length, 0) else ([], 0, 11)
theorem zputSpec_join (l : List UInt8) (n v : Int) (Z : List Bool) (hZ : Z = zenc (foldZ v)) : joinSpec [(l, n), (pack Z, (Z.length : Int))] = zputSpec l n v := by
 subst hZ
 unfold joinSpec zputSpec
 have e : catE [(l, n), (pack (zenc (foldZ v)), ((zenc (foldZ v)).length : Int))] = bitl l n.toNat ++ zenc (foldZ v) := by simp [catE, bits_pack]
 have e2 : soundE [(l, n), (pack (zenc (foldZ v)), ((zenc (foldZ v)).length : Int))] = soundB l n := by simp [soundE, sound_pack]
 rw [e, e2]
theorem BsL.two' {w : World} {t : TypeId} {g : Nat} (hg : g = w.heap.size) {A B : Option Addr} {c d : Nat} {l m : List UInt8} {i j : Int} (ha : Bs w A l) (hb : Bs w B m) (hi : -9223372036854775808 ≤ i ∧ i ≤ 9223372036854775807) (hj : -9223372036854775808 ≤ j ∧ j ≤ 9223372036854775807) :
  BsL (w.alloc (.cells #[.slice A l.length c, .int .i64 i, .slice B m.length d, .int .i64 j] t)) (some ⟨g, 0, none⟩) [(l, i), (m, j)] := fun k e he => by
 subst hg
 match k, he with
 | 0, he => simp at he; subst he; exact ⟨_, 0, A, c, rfl, box_cell _ _ _ _ _ rfl, box_cell _ _ _ _ _ rfl, ha.up, hi⟩
 | 1, he => simp at he; subst he; exact ⟨_, 0, B, d, rfl, box_cell _ _ _ _ _ rfl, box_cell _ _ _ _ _ rfl, hb.up, hj⟩
set_option maxHeartbeats 1000000 in
theorem zput_any (A : Option Addr) (c : Nat) (l : List UInt8) (n v : Int) (w : World) (hb : Bs w A l) (hn : -9223372036854775808 ≤ n ∧ n ≤ 9223372036854775807) (hl : l.length ≤ 1073741824) (hv : -9223372036854775808 ≤ v ∧ v ≤ 9223372036854775807) :
  Calls Tryz.prog 92 #[.agg #[.slice A l.length c, .int .i64 n], .int .i64 v] w fun e w' =>
   ∃ A' c', e = .returned (.tuple #[.agg #[.slice A' (zputSpec l n v).1.length c', .int .i64 (zputSpec l n v).2.1], .int .u16 (zputSpec l n v).2.2]) ∧ OwnB w' w.heap.size (.slice A' (zputSpec l n v).1.length c') (zputSpec l n v).1 ∧ Below w.heap.size w w' := by
 obtain ⟨N, hN⟩ : ∃ N, N = foldZ v := ⟨_, rfl⟩
 have hNl : N < 18446744073709551616 := by rw [hN]; exact foldZ_lt v hv
 have HN := Lib.hid hN
 have hzw := zw_le (zk N)
 have hzl := zl_pos (zk N)
 have hzp : zp (zk N) < 32 := by unfold zp; split <;> omega
 clear hN
 have X0 := Lib.hid ((Blk.new w 33 #[.slice A l.length c, .int .i64 n]).alloc (.cells #[.slice none 0 0, .int .i64 0] 33))
 have R0 : Hid (Blk ((w.alloc (.cells #[.slice A l.length c, .int .i64 n] 33)).alloc (.cells #[.slice none 0 0, .int .i64 0] 33)) (w.heap.size + 1) 33 #[.slice none 0 0, .int .i64 0]) := by
  have h := Blk.new (w.alloc (.cells #[.slice A l.length c, .int .i64 n] 33)) 33 #[.slice none 0 0, .int .i64 0]
  rw [World.size_alloc] at h
  exact Lib.hid h
 go_enter Tryz.func92, Tryz.ntmps92
 have kA := keepA
 go_wp2_with fail
 refine Calls.mono (fold_any v _ hv) ?_
 rw [← HN.out]
 rintro e w1 ⟨rfl, rfl⟩
 go_wp2_with fail
 refine Calls.mono (fitting_any N _ hNl) ?_
 rintro e w1 ⟨rfl, hb1⟩
 have X1 := Lib.hid (X0.out.go hb1)
 have R1 := Lib.hid (R0.out.go hb1)
 have t1 := (below_alloc2 w _ _).trans (hb1.mono (by simp; omega))
 go_wp2_with fail
 refine Calls.mono (put_E none 0 [] _ _ _ (Bs.nil _ _) (by omega) (by omega) (by simp)) ?_
 rintro e w2 ⟨M, A2, c2, HM, hMl, rfl, hB2, hb2⟩
 have X2 := Lib.hid (X1.out.go hb2)
 have R2 := Lib.hid (R1.out.go hb2)
 have P2 := (Blk.new w1 192 #[.int .u64 (zp (zk N) : Nat), .int .i64 (zl (zk N) : Nat), .int .i64 (zw (zk N) : Nat)]).go hb2
 have p2 := P2.tri
 have t2 := on t1 hb2
 have hM2 : M.length ≤ 64 := by simpa using hMl
 clear X1 R1 hMl P2
 go_wp2_with fail
 refine Calls.mono (put_O A2 c2 M _ _ _ hB2.up (by omega) (by omega) (by omega)) ?_
 rintro e w3 ⟨Z, A3, c3, HZ, hZl, rfl, hO3, hb3⟩
 have X3 := X2.out.go hb3
 have R3 := R2.out.go hb3
 have C3 := (Blk.new w2 33 #[.slice A2 (pack M).length c2, .int .i64 M.length]).go hb3
 have t3 := on t2 hb3
 have g1 := X3.lt
 have g2 := R3.lt
 have g3 := C3.lt
 have s1 := t2.size
 have hne1 : w.heap.size ≠ w2.heap.size := by have := X2.out.lt; omega
 have hne2 : w.heap.size + 1 ≠ w2.heap.size := by have := R2.out.lt; omega
 have k3 := C3.duo
 go_upto_region 5 with fail
 obtain ⟨w4, hw4⟩ : ∃ w4, w4 = (w3.setCell ⟨w2.heap.size, 0, none⟩ (.slice A3 (pack Z).length c3)).setCell ⟨w2.heap.size, 1, none⟩ (.int .i64 Z.length) := ⟨_, rfl⟩
 rw [← hw4]
 have X4 : Blk w4 w.heap.size 33 #[.slice A l.length c, .int .i64 n] := by rw [hw4]; exact (X3.far _ _ hne1).far _ _ hne1
 have R4 : Blk w4 (w.heap.size + 1) 33 #[.slice none 0 0, .int .i64 0] := by rw [hw4]; exact (R3.far _ _ hne2).far _ _ hne2
 have C4 : Blk w4 w2.heap.size 33 #[.slice A3 (pack Z).length c3, .int .i64 Z.length] := by rw [hw4]; exact C3.set2 _ _
 have t4 : Below w.heap.size w w4 := by rw [hw4]; exact (t3.setCell s1 _).setCell s1 _
 have hne3 := hO3.ne (show w2.heap.size < (w2.alloc (.cells #[.slice A2 (pack M).length c2, .int .i64 M.length] 33)).heap.size by simp)
 have hB4 : Bs w4 A3 (pack Z) := by rw [hw4]; exact ((hO3.far hne3 _).far hne3 _).bs
 clear X3 R3 C3 k3 hw4 hne1 hne2 hne3 hO3
 have x4 := X4.duo.1
 have k4 := C4.duo.1
 have hZ : Hid (joinSpec [(l, n), (pack Z, (Z.length : Int))] = zputSpec l n v) := Lib.hid (zputSpec_join l n v Z (by
  rw [HZ.out, HM.out, ← HN.out]; unfold zenc; simp))
 go_wp2_with fail
 refine Calls.mono (join_any _ 2 [(l, n), (pack Z, (Z.length : Int))] _ (BsL.two' rfl (hb.on t4) hB4 hn (by omega)) (by simp) (fun e he => by
  simp only [List.mem_cons, List.not_mem_nil, or_false] at he
  rcases he with rfl | rfl
  ·exact hl
  ·have := pack_le Z (Nat.le_refl _); simp only; omega)) ?_
 rw [hZ.out]
 rintro e w5 ⟨A5, c5, rfl, hO5, hb5⟩
 have R5 := R4.go hb5
 have r5 := R5.duo
 have t5 := on t4 hb5
 go_wp2
 have s5 := t4.size
 have hne5 := hO5.ne (show w.heap.size + 1 < (w4.alloc (.cells #[.slice A l.length c, .int .i64 n, .slice A3 (pack Z).length c3, .int .i64 Z.length] 33)).heap.size by have := R4.lt; simp; omega)
 refine bodyPost_ret (v := .tuple #[.agg #[.slice A5 (zputSpec l n v).1.length c5, .int .i64 (zputSpec l n v).2.1], .int .u16 (zputSpec l n v).2.2]) (by simp [results, Tryz.results92, go_sem, r5]) rfl ?_
 exact ⟨_, _, rfl, ((hO5.mono (by simp; omega)).far hne5 _).far hne5 _, (t5.setCell (by simp) _).setCell (by simp) _⟩
end Go.Proofs.YtmcdollkmlcpbaaGreatDoor
namespace Go.Proofs.YtmcdollkmlcpbaaGreatDoor
open Go.RowKit
theorem getM_out (A : Option Addr) (c : Nat) (M : List Bool) (a d : Int) (w : World) (hb : Bs w A (pack M)) (ha : -9223372036854775808 ≤ a ∧ a ≤ 9223372036854775807) (hd : 0 ≤ d ∧ d ≤ 64) (had : a < 0 ∨ M.length < a + d) (hL : M.length ≤ 137438953472) :
  Calls Tryz.prog 94 #[.agg #[.slice A (pack M).length c, .int .i64 M.length], .int .i64 a, .int .i64 d] w fun e w' => e = .returned (.tuple #[.int .u64 0, .int .u16 10]) ∧ Below w.heap.size w w' := by
 have hp := pack_le M hL
 refine get_err A c (pack M) M.length a d w hb (by omega) (by omega) ha (by omega) 10 ?_ (by decide)
 unfold getSpec
 rw [if_neg (by rw [sound_pack]; decide), if_neg (by omega), if_pos (by omega)]
set_option maxHeartbeats 2000000 in
theorem prefixed_out (A : Option Addr) (c : Nat) (M : List Bool) (a : Int) (w : World) (hb : Bs w A (pack M)) (ha : -9223372036854775808 ≤ a ∧ a ≤ 9223372036854775807) (had : a < 0 ∨ M.length < a) (hL : M.length ≤ 137438953472) :
  Calls Tryz.prog 112 #[.agg #[.slice A (pack M).length c, .int .i64 M.length], .int .i64 a] w fun e w' => e = .returned (.tuple #[.agg #[.int .u64 0, .int .i64 0, .int .i64 0], .int .u16 10]) ∧ Below w.heap.size w w' := by
 have X0 := Blk.new w 33 #[.slice A (pack M).length c, .int .i64 M.length]
 have R0 : Blk ((w.alloc (.cells #[.slice A (pack M).length c, .int .i64 M.length] 33)).alloc (.cells #[.int .u64 0, .int .i64 0, .int .i64 0] 192)) (w.heap.size + 1) 192 #[.int .u64 0, .int .i64 0, .int .i64 0] := by
  have h := Blk.new (w.alloc (.cells #[.slice A (pack M).length c, .int .i64 M.length] 33)) 192 #[.int .u64 0, .int .i64 0, .int .i64 0]
  rw [World.size_alloc] at h
  exact h
 have F0 : Blk (((w.alloc (.cells #[.slice A (pack M).length c, .int .i64 M.length] 33)).alloc (.cells #[.int .u64 0, .int .i64 0, .int .i64 0] 192)).alloc (.cells #[.int .u64 0, .int .i64 0, .int .i64 0] 192)) (w.heap.size + 2) 192 #[.int .u64 0, .int .i64 0, .int .i64 0] := by
  have h := Blk.new ((w.alloc (.cells #[.slice A (pack M).length c, .int .i64 M.length] 33)).alloc (.cells #[.int .u64 0, .int .i64 0, .int .i64 0] 192)) 192 #[.int .u64 0, .int .i64 0, .int .i64 0]
  rw [World.size_alloc, World.size_alloc] at h
  exact h
 have HX := Lib.hid X0
 have HR0 := Lib.hid R0
 have HF0 := Lib.hid F0
 clear X0 R0 F0
 go_enter Tryz.func112, Tryz.ntmps112
 have kA := keepA
 have kF := keepF
 go_wp2_with fail
 go_step3
 go_wp2_with fail
 go_step3
 go_wp2_with fail
 refine Calls.mono (rows_any _) ?_
 rintro e w1 ⟨rfl, hb1⟩
 have X1 := Lib.hid (HX.out.go hb1)
 have R1 := Lib.hid (HR0.out.go hb1)
 have F1 := Lib.hid (HF0.out.go hb1)
 have t1 := go1 (w := w) hb1
 clear HX HR0 HF0
 go_wp2_with fail
 go_loopw [12] (fun i wr => ∃ k : Nat, Hid (k = 0) ∧ i = .int .i64 k ∧ w1 = wr) (fun i _ => 6 - (intOf i).toNat)
 case atStart => exact ⟨0, rfl, rfl, rfl⟩
 case round =>
  obtain ⟨k, Hk, rfl, rfl⟩ := hrel
  have hk6 : k < 6 := by have := Hk.out; omega
  have hix := rows_at k hk6
  have xr := X1.out.duo.1
  have rr := R1.out.tri
  have hzl := zl_pos k
  go_wp2_with fail
  refine Calls.mono (getM_out A c M _ _ _ (hb.on t1) (by omega) (by omega) (by omega) hL) ?_
  rintro e w2 ⟨rfl, hb2⟩
  have R2 := R1.out.go hb2
  have r2 := R2.tri
  have t2 := on t1 hb2
  have s2 := t1.size
  go_wp2
  rw [Exit.noGoto_ret]
  have S2 := (R2.set3 (.int .u64 0) (.int .i64 0) (.int .i64 0))
  refine bodyPost_ret (results_row_tmp Tryz.results112 _ _ (w.heap.size + 1) 192 #[.int .u64 0, .int .i64 0, .int .i64 0] _ rfl S2 Tryz.underlying192 rfl (by kernel_rfl) (.int .u16 10) rfl) rfl ⟨rfl, ?_⟩
  exact (((t2.setCell (by simp) _).setCell (by simp) _).setCell (by simp) _)
set_option maxHeartbeats 2000000 in
theorem prefixed_in (A : Option Addr) (c : Nat) (M : List Bool) (a : Nat) (w : World) (hb : Bs w A (pack M)) (had : a ≤ M.length) (hL : M.length ≤ 137438953472) (r : Nat) (hr : r = zrow (M.drop a)) :
  Calls Tryz.prog 112 #[.agg #[.slice A (pack M).length c, .int .i64 M.length], .int .i64 a] w fun e w' =>
   e = .returned (if M.length < a + zl r then .tuple #[.agg #[.int .u64 0, .int .i64 0, .int .i64 0], .int .u16 10] else .tuple #[.agg #[.int .u64 (zp r : Nat), .int .i64 (zl r : Nat), .int .i64 (zw r : Nat)], .int .u16 0]) ∧ Below w.heap.size w w' := by
 have hr5 : r ≤ 5 := by rw [hr]; exact ones_le 5 _
 have hrl : r ≤ M.length - a := by rw [hr]; have := ones_len 5 (M.drop a); rw [List.length_drop] at this; exact this
 have HR := Lib.hid hr
 clear hr
 have X0 := Blk.new w 33 #[.slice A (pack M).length c, .int .i64 M.length]
 have R0 : Blk ((w.alloc (.cells #[.slice A (pack M).length c, .int .i64 M.length] 33)).alloc (.cells #[.int .u64 0, .int .i64 0, .int .i64 0] 192)) (w.heap.size + 1) 192 #[.int .u64 0, .int .i64 0, .int .i64 0] := by
  have h := Blk.new (w.alloc (.cells #[.slice A (pack M).length c, .int .i64 M.length] 33)) 192 #[.int .u64 0, .int .i64 0, .int .i64 0]
  rw [World.size_alloc] at h
  exact h
 have F0 : Blk (((w.alloc (.cells #[.slice A (pack M).length c, .int .i64 M.length] 33)).alloc (.cells #[.int .u64 0, .int .i64 0, .int .i64 0] 192)).alloc (.cells #[.int .u64 0, .int .i64 0, .int .i64 0] 192)) (w.heap.size + 2) 192 #[.int .u64 0, .int .i64 0, .int .i64 0] := by
  have h := Blk.new ((w.alloc (.cells #[.slice A (pack M).length c, .int .i64 M.length] 33)).alloc (.cells #[.int .u64 0, .int .i64 0, .int .i64 0] 192)) 192 #[.int .u64 0, .int .i64 0, .int .i64 0]
  rw [World.size_alloc, World.size_alloc] at h
  exact h
 have HX := Lib.hid X0
 have HR0 := Lib.hid R0
 have HF0 := Lib.hid F0
 clear X0 R0 F0
 go_enter Tryz.func112, Tryz.ntmps112
 have kA := keepA
 have kF := keepF
 go_wp2_with fail
 go_step3
 go_wp2_with fail
 go_step3
 go_wp2_with fail
 refine Calls.mono (rows_any _) ?_
 rintro e w1 ⟨rfl, hb1⟩
 have X1 := Lib.hid (HX.out.go hb1)
 have R1 := Lib.hid (HR0.out.go hb1)
 have F1 := Lib.hid (HF0.out.go hb1)
 have t1 := go1 (w := w) hb1
 clear HX HR0 HF0
 go_wp2_with fail
 go_loopw [12] (fun i wr => ∃ k : Nat, k ≤ r ∧ i = .int .i64 k ∧ Below w1.heap.size w1 wr) (fun i _ => 6 - (intOf i).toNat)
 case atStart => exact ⟨0, Nat.zero_le _, rfl, Below.refl _ _⟩
 case round =>
  obtain ⟨k, hk, rfl, hbel⟩ := hrel
  have hk6 : k < 6 := by omega
  have hix := rows_at k hk6
  have hzl := zl_pos k
  have tr := on t1 hbel
  have Xr := X1.out.go hbel
  have Rr := R1.out.go hbel
  have Fr := F1.out.go hbel
  have xr := Xr.duo.1
  have rr := Rr.tri
  have fr := Fr.tri
  have HXr := Lib.hid Xr
  have HRr := Lib.hid Rr
  have HFr := Lib.hid Fr
  clear Xr Rr Fr
  by_cases hlt : k < r
  ·have hz1 : zl k = k + 1 := by
    have : ∀ j < 5, zl j = j + 1 := by decide
    exact this k (by omega)
   have hfit : a + zl k ≤ M.length := by omega
   have hnot := zrow_not (M.drop a) k (by rw [← HR.out]; exact hlt) (by rw [List.length_drop]; omega)
   have HNOT := Lib.hid hnot
   have Hlt := Lib.hid hlt
   clear hz1 hnot hlt
   go_wp2_with fail
   refine Calls.mono (get_E A c M _ _ _ (hb.on tr) (by omega) (by omega) (by omega) hL) ?_
   rintro e w2 ⟨N, HN, rfl, hb2⟩
   have p2 := ((Blk.new wr 192 #[.int .u64 (zp k : Nat), .int .i64 (zl k : Nat), .int .i64 (zw k : Nat)]).go hb2).tri
   have hne : ((N : Int) == (zp k : Int)) = false := by
    rw [beq_eq_false_iff_ne]
    intro h
    apply HNOT.out
    have h2 := HN.out
    rw [Int.toNat_natCast, Int.toNat_natCast] at h2
    rw [← h2]; omega
   go_wp2
   go_roundw
   case measure => simp [intOf]; omega
   case rel => exact ⟨k + 1, Hlt.out, by go_num, on hbel hb2⟩
  ·obtain rfl : k = r := by omega
   by_cases hfit : M.length < a + zl k
   ·have Hfit := Lib.hid hfit
    go_wp2_with fail
    refine Calls.mono (getM_out A c M _ _ _ (hb.on tr) (by omega) (by omega) (by omega) hL) ?_
    rintro e w2 ⟨rfl, hb2⟩
    have R2 := HRr.out.go hb2
    have r2 := R2.tri
    have t2 := on tr hb2
    have s2 := tr.size
    go_wp2
    rw [Exit.noGoto_ret]
    have S2 := (R2.set3 (.int .u64 0) (.int .i64 0) (.int .i64 0))
    refine bodyPost_ret (results_row_tmp Tryz.results112 _ _ (w.heap.size + 1) 192 #[.int .u64 0, .int .i64 0, .int .i64 0] _ rfl S2 Tryz.underlying192 rfl (by kernel_rfl) (.int .u16 10) rfl) rfl ⟨by rw [if_pos Hfit.out], ?_⟩
    exact (((t2.setCell (by simp) _).setCell (by simp) _).setCell (by simp) _)
   ·have Hfit := Lib.hid hfit
    have hyes := zrow_num (M.drop a) (by rw [← HR.out, List.length_drop]; omega)
    rw [← HR.out] at hyes
    have HYES := Lib.hid hyes
    clear hyes
    go_wp2_with fail
    refine Calls.mono (get_E A c M _ _ _ (hb.on tr) (by omega) (by omega) (by omega) hL) ?_
    rintro e w2 ⟨N, HN, rfl, hb2⟩
    have p2 := ((Blk.new wr 192 #[.int .u64 (zp k : Nat), .int .i64 (zl k : Nat), .int .i64 (zw k : Nat)]).go hb2).tri
    have heq : ((N : Int) == (zp k : Int)) = true := by
     rw [beq_iff_eq]
     have h2 := HN.out
     rw [Int.toNat_natCast, Int.toNat_natCast, HYES.out] at h2
     rw [h2]
    have R2 := HRr.out.go hb2
    have F2 := HFr.out.go hb2
    have r2 := R2.tri
    have f2 := F2.tri
    have t2 := on tr hb2
    have s2 := tr.size
    go_wp2
    rw [Exit.noGoto_ret]
    have S2 := ((((R2.far ⟨w.heap.size + 2, 0, none⟩ (.int .u64 (zp k : Nat)) (by simp)).far ⟨w.heap.size + 2, 1, none⟩ (.int .i64 (zl k : Nat)) (by simp)).far ⟨w.heap.size + 2, 2, none⟩ (.int .i64 (zw k : Nat)) (by simp)).set3 (.int .u64 (zp k : Nat)) (.int .i64 (zl k : Nat)) (.int .i64 (zw k : Nat)))
    refine bodyPost_ret (results_row_tmp Tryz.results112 _ _ (w.heap.size + 1) 192 #[.int .u64 (zp k : Nat), .int .i64 (zl k : Nat), .int .i64 (zw k : Nat)] _ rfl S2 Tryz.underlying192 rfl (by kernel_rfl) (.int .u16 0) rfl) rfl ⟨by rw [if_neg Hfit.out], ?_⟩
    exact ((((((t2.setCell (by simp; omega) _).setCell (by simp; omega) _).setCell (by simp; omega) _).setCell (by simp) _).setCell (by simp) _).setCell (by simp) _)
end Go.Proofs.YtmcdollkmlcpbaaGreatDoor
namespace Go.Proofs.YtmcdollkmlcpbaaGreatDoor
open Go.RowKit
def zres (a : Nat) (z : Nat × Nat × Nat) : Int × Nat × Nat := if z.2.2 = 0 then (unfoldZ z.1, a + z.2.1, 0) else (0, 0, z.2.2)
theorem zres_out {a : Nat} {L : List Bool} (h : L.length < zl (zrow L) + zw (zrow L)) : zres a (zget L) = (0, 0, 10) := by
 have e : zget L = (0, 0, 10) := by unfold zget; rw [if_pos h]
 rw [e]; rfl
theorem zres_bad {a N : Nat} {L : List Bool} (h : ¬ L.length < zl (zrow L) + zw (zrow L)) (hN : N = numB ((L.drop (zl (zrow L))).take (zw (zrow L)))) (hk : zk N ≠ zrow L) : zres a (zget L) = (0, 0, 11) := by
 have e : zget L = (0, 0, 11) := by unfold zget; rw [if_neg h, ← hN, if_pos hk]
 rw [e]; rfl
theorem zres_ok {a N : Nat} {L : List Bool} (h : ¬ L.length < zl (zrow L) + zw (zrow L)) (hN : N = numB ((L.drop (zl (zrow L))).take (zw (zrow L)))) (hk : zk N = zrow L) : zres a (zget L) = (unfoldZ N, a + (zl (zrow L) + zw (zrow L)), 0) := by
 have e : zget L = (N, zl (zrow L) + zw (zrow L), 0) := by unfold zget; rw [if_neg h, ← hN, if_neg (by simpa using hk)]
 rw [e]; rfl
theorem tri1 {w w' : World} (h : Below w.heap.size w w') {a b c : Addr} {x y z : Value} (t : w.cell? a = some x ∧ w.cell? b = some y ∧ w.cell? c = some z) : w'.cell? a = some x ∧ w'.cell? b = some y ∧ w'.cell? c = some z :=
 ⟨cel h t.1, cel h t.2.1, cel h t.2.2⟩
theorem ret_int3 {k j i : IntKind} {a b c d e f : Int} (h : a = b) (h2 : c = d) (h3 : e = f) : Ending.returned (.tuple #[.int k a, .int j c, .int i e]) = .returned (.tuple #[.int k b, .int j d, .int i f]) := by rw [h, h2, h3]
theorem zp_inj (i j : Nat) (hi : i ≤ 5) (hj : j ≤ 5) (h : zp i = zp j) : i = j := by
 have : ∀ i ≤ 5, ∀ j ≤ 5, zp i = zp j → i = j := by decide
 exact this i hi j hj h
set_option maxHeartbeats 2000000 in
theorem zget_in (A : Option Addr) (c : Nat) (M : List Bool) (a : Nat) (w : World) (hb : Bs w A (pack M)) (had : a ≤ M.length) (hL : M.length ≤ 1073741824) (R : Int × Nat × Nat) (hR : R = zres a (zget (M.drop a))) :
  Calls Tryz.prog 95 #[.agg #[.slice A (pack M).length c, .int .i64 M.length], .int .i64 a] w fun e w' =>
   e = .returned (.tuple #[.int .i64 R.1, .int .i64 R.2.1, .int .u16 R.2.2]) ∧ Below w.heap.size w w' := by
 obtain ⟨r, hr⟩ : ∃ r, r = zrow (M.drop a) := ⟨_, rfl⟩
 have hr5 : r ≤ 5 := by rw [hr]; exact ones_le 5 _
 have hzl := zl_pos r
 have hzw := zw_le r
 have hdl : (M.drop a).length = M.length - a := List.length_drop
 have HR := Lib.hid hR
 have Hr := Lib.hid hr
 have Hdl := Lib.hid hdl
 clear hr hR hdl
 go_enter Tryz.func95, Tryz.ntmps95
 have kA := keepA
 go_wp2_with fail
 refine Calls.mono (soundM A c M _ hb.up (by omega)) ?_
 rintro e w1 ⟨rfl, hb1⟩
 have x1 := boxN hb1
 have t1 := go1 (w := w) hb1
 go_wp2_with fail
 refine Calls.mono (prefixed_in A c M a _ (hb.below t1) had (by omega) r Hr.out) ?_
 by_cases h1 : M.length < a + zl r
 ·rw [if_pos h1]
  rintro e w2 ⟨rfl, hb2⟩
  have t2 := on t1 hb2
  have hRv : R = (0, 0, 10) := by rw [HR.out]; exact zres_out (by rw [← Hr.out, Hdl.out]; omega)
  subst hRv
  go_wp2
  go_ret3
  exact ⟨rfl, onA t2⟩
 ·rw [if_neg h1]
  rintro e w2 ⟨rfl, hb2⟩
  have x2 := box hb2 x1
  have t2 := on t1 hb2
  clear x1
  by_cases h2 : M.length < a + zl r + zw r
  ·have hRv : R = (0, 0, 10) := by rw [HR.out]; exact zres_out (by rw [← Hr.out, Hdl.out]; omega)
   subst hRv
   go_wp2_with fail
   refine Calls.mono (getM_out A c M _ _ _ (hb.on t2) (by omega) (by omega) (by omega) (by omega)) ?_
   rintro e w3 ⟨rfl, hb3⟩
   have t3 := on t2 hb3
   go_wp2
   go_ret3
   exact ⟨rfl, t3⟩
  ·go_wp2_with fail
   refine Calls.mono (get_E A c M _ _ _ (hb.on t2) (by omega) (by omega) (by omega) (by omega)) ?_
   rintro e w3 ⟨N, HN, rfl, hb3⟩
   have p3 := ((Blk.new w2 192 #[.int .u64 (zp r : Nat), .int .i64 (zl r : Nat), .int .i64 (zw r : Nat)]).go hb3).tri
   have t3 := on t2 hb3
   have hNl : N < 18446744073709551616 := by
    have h := numB_lt ((M.drop ((a : Int) + zl r).toNat).take ((zw r : Int)).toNat)
    rw [← HN.out] at h
    have h5 : 2 ^ ((M.drop ((a : Int) + zl r).toNat).take ((zw r : Int)).toNat).length ≤ 2 ^ 64 := Nat.pow_le_pow_right (by decide) (by rw [List.length_take]; omega)
    omega
   have hNe : N = numB (((M.drop a).drop (zl (zrow (M.drop a)))).take (zw (zrow (M.drop a)))) := by
    rw [HN.out, ← Hr.out, List.drop_drop, Int.toNat_natCast, show ((a : Int) + zl r).toNat = a + zl r by omega]
   have HNe := Lib.hid hNe
   have Hfit : Hid (¬ (M.drop a).length < zl (zrow (M.drop a)) + zw (zrow (M.drop a))) := Lib.hid (by rw [← Hr.out, Hdl.out]; omega)
   clear hNe
   have hp := plus_cell w3
   have p30 := p3.1
   by_cases h3 : zk N = r
   ·have hRv : R = (unfoldZ N, a + (zl r + zw r), 0) := by rw [HR.out, zres_ok Hfit.out HNe.out (by rw [h3, Hr.out]), ← Hr.out]
    subst hRv
    have hfit := fitting_any N
    rw [h3] at hfit
    have HF := fun w => Lib.hid (hfit w hNl)
    clear h3 hfit
    go_wp2_with fail
    refine wp_region_ext (by kernel_rfl) (by kernel_rfl) ?_
    repeat (go_big_quiet_step ((go_at_call 109; exact ext_of (HF _).out)))
    refine wpQuiet_nil ?_
    rintro w4 ⟨x, rfl⟩
    have hb4 := plus_below w3 x
    clear hp
    generalize plus w3 x = w4 at *
    have p4 := tri1 hb4 p30
    have t4 := on t3 hb4
    have hubd := unfoldZ_bd N hNl
    clear p30 p3 HF
    go_wp2_with fail
    go_quiet ((go_at_call 113; exact quiet_eq (unfold_any N _ hNl)))
    go_wp2
    go_ret3
    refine ⟨ret_int3 rfl (by omega) rfl, ?_⟩
    exact below_drewN (onA t4) _
   ·have hRv : R = (0, 0, 11) := by rw [HR.out, zres_bad Hfit.out HNe.out (by rw [← Hr.out]; exact h3)]
    subst hRv
    have hz : ((zp (zk N) : Int) == (zp r : Int)) = false := by
     rw [beq_eq_false_iff_ne]
     intro h
     exact h3 (zp_inj _ _ (zk_le N) hr5 (by omega))
    go_wp2_with fail
    refine wp_region_ext (by kernel_rfl) (by kernel_rfl) ?_
    repeat (go_big_quiet_step ((go_at_call 109; exact ext_of (fitting_any N _ hNl))))
    refine wpQuiet_nil ?_
    rintro w4 ⟨x, rfl⟩
    have hb4 := plus_below w3 x
    clear hp
    generalize plus w3 x = w4 at *
    have t4 := on t3 hb4
    go_wp2
    go_ret3
    exact ⟨rfl, t4⟩
end Go.Proofs.YtmcdollkmlcpbaaGreatDoor
namespace Go.Proofs.YtmcdollkmlcpbaaGreatDoor
open Go.RowKit
def zgetSpec (l : List UInt8) (n a : Int) : Int × Nat × Nat :=
 if soundB l n = false then (0, 0, 11) else if a < 0 ∨ n < a then (0, 0, 10) else zres a.toNat (zget ((bitl l n.toNat).drop a.toNat))
theorem zget_any (A : Option Addr) (c : Nat) (l : List UInt8) (n a : Int) (w : World) (hb : Bs w A l) (hn : -9223372036854775808 ≤ n ∧ n ≤ 9223372036854775807) (hl : l.length ≤ 134217728) (ha : -9223372036854775808 ≤ a ∧ a ≤ 9223372036854775807) :
  Calls Tryz.prog 95 #[.agg #[.slice A l.length c, .int .i64 n], .int .i64 a] w fun e w' =>
   e = .returned (.tuple #[.int .i64 (zgetSpec l n a).1, .int .i64 (zgetSpec l n a).2.1, .int .u16 (zgetSpec l n a).2.2]) ∧ Below w.heap.size w w' := by
 by_cases hs : soundB l n = false
 ·have e : zgetSpec l n a = (0, 0, 11) := by unfold zgetSpec; rw [if_pos hs]
  rw [e]
  have HS := Lib.hid hs
  clear hs e
  go_enter Tryz.func95, Tryz.ntmps95
  go_wp2_with fail
  refine Calls.mono (sound_any A c l n _ hb.up hn (by unfold maxLen; omega)) ?_
  rw [HS.out]
  rintro e w1 ⟨rfl, hb1⟩
  go_wp2
  go_ret3
  exact ⟨rfl, go1 (w := w) hb1⟩
 ·have hs1 : soundB l n = true := by simpa using hs
  obtain ⟨m, rfl, hm8, -⟩ := sound_nat hs1
  have hpk := pack_sound hs1
  obtain ⟨M, hM⟩ : ∃ M, M = bitl l m := ⟨_, rfl⟩
  have hml : m = M.length := by rw [hM, bitl_length]
  by_cases ho : a < 0 ∨ (m : Int) < a
  ·have e : zgetSpec l m a = (0, 0, 10) := by unfold zgetSpec; rw [if_neg hs, if_pos ho]
   rw [e]
   clear e hs hs1
   rw [← hM] at hpk
   clear hM
   subst hpk
   subst hml
   go_enter Tryz.func95, Tryz.ntmps95
   go_wp2_with fail
   refine Calls.mono (soundM A c M _ hb.up (by omega)) ?_
   rintro e w1 ⟨rfl, hb1⟩
   have x1 := boxN hb1
   have t1 := go1 (w := w) hb1
   go_wp2_with fail
   refine Calls.mono (prefixed_out A c M a _ (hb.below t1) ha ho (by omega)) ?_
   rintro e w2 ⟨rfl, hb2⟩
   have t2 := on t1 hb2
   go_wp2
   go_ret3
   exact ⟨rfl, onA t2⟩
  ·obtain ⟨b, rfl⟩ := Int.eq_ofNat_of_zero_le (show 0 ≤ a by omega)
   have e : zgetSpec l m b = zres b (zget (M.drop b)) := by unfold zgetSpec; rw [if_neg hs, if_neg ho, Int.toNat_natCast, Int.toNat_natCast, ← hM]
   rw [e]
   clear e hs hs1
   rw [← hM] at hpk
   clear hM
   subst hpk
   subst hml
   exact zget_in A c M b w hb (by omega) (by omega) _ rfl
theorem zputM (A : Option Addr) (c : Nat) (L : List Bool) (v : Int) (w : World) (hb : Bs w A (pack L)) (hL : L.length ≤ 1073741824) (hv : -9223372036854775808 ≤ v ∧ v ≤ 9223372036854775807) :
  Calls Tryz.prog 92 #[.agg #[.slice A (pack L).length c, .int .i64 L.length], .int .i64 v] w fun e w' =>
   ∃ M A' c', Hid (M = L ++ zenc (foldZ v)) ∧ L.length + 1 ≤ M.length ∧ M.length ≤ L.length + 69 ∧ e = .returned (.tuple #[.agg #[.slice A' (pack M).length c', .int .i64 M.length], .int .u16 0]) ∧ OwnB w' w.heap.size (.slice A' (pack M).length c') (pack M) ∧ Below w.heap.size w w' := by
 have hp : (pack L).length ≤ 1073741824 := by rw [pack_length]; unfold nb; omega
 have h := zput_any A c (pack L) L.length v w hb (by omega) hp hv
 have e : zputSpec (pack L) L.length v = (pack (L ++ zenc (foldZ v)), (L ++ zenc (foldZ v)).length, 0) := by
  unfold zputSpec
  rw [if_pos (sound_pack L), Int.toNat_natCast, bits_pack]
 rw [e] at h
 have hz := zenc_pos (foldZ v)
 exact h.mono fun e w' ⟨A', c', he, ho, hbel⟩ => ⟨_, A', c', rfl, by rw [List.length_append]; omega, by rw [List.length_append]; omega, he, ho, hbel⟩
end Go.Proofs.YtmcdollkmlcpbaaGreatDoor
