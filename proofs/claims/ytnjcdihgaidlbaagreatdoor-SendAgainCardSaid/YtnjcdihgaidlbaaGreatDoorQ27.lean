/- Joined: Zig3, Zig6. -/
import Derived.Test.YtnjcdihgaidlbaaGreatDoorQ8
import Derived.Test.YtnjcdihgaidlbaaGreatDoorQ17
import Derived.Test.YtnjcdihgaidlbaaGreatDoorQ11
import Derived.Test.YtnjcdihgaidlbaaGreatDoorQ12
import Derived.Deep.DeepCutAuto
import Derived.Test.YtnjcdihgaidlbaaGreatDoorQ14
import Derived.Outline
import Derived.Test.YtnjcdihgaidlbaaGreatDoorQ5
import Derived.WalkMore
set_option linter.unusedSimpArgs false
set_option linter.unusedVariables false
namespace Go.Proofs.YtnjcdihgaidlbaaGreatDoor
open Go.RowKit
def zputSpec (l : List UInt8) (n v : Int) : List UInt8 × Nat × Nat :=
 if soundB l n = true then (pack (bitl l n.toNat ++ zenc (foldZ v)), (bitl l n.toNat ++ zenc (foldZ v)).length, 0) else ([], 0, 11)
theorem zputSpec_join (l : List UInt8) (n v : Int) (Z : List Bool) (hZ : Z = zenc (foldZ v)) : joinSpec [(l, n), (pack Z, (Z.length : Int))] = zputSpec l n v := by
 subst hZ
 unfold joinSpec zputSpec
 have e : catE [(l, n), (pack (zenc (foldZ v)), ((zenc (foldZ v)).length : Int))] = bitl l n.toNat ++ zenc (foldZ v) := by simp [catE, bits_pack]
 have e2 : soundE [(l, n), (pack (zenc (foldZ v)), ((zenc (foldZ v)).length : Int))] = soundB l n := by simp [soundE, sound_pack]
 rw [e, e2]
theorem BsL.two' {w : World} {t : TypeId} {g : Nat} (hg : g = w.heap.size) {A B : Option Addr} {c d : Nat} {l m : List UInt8} {i j : Int} (ha : Bs w A l) (hb : Bs w B m) (hi : -9223372036854775808 ≤ i ∧ i ≤ 9223372036854775807) (hj : -9223372036854775808 ≤ j ∧ j ≤ 9223372036854775807) :
  BsL (w.alloc (.cells #[.slice A l.length c, .int .i64 i, .slice B m.length d, .int .i64 j] t)) (some ⟨g, 0, none⟩) [(l, i), (m, j)] := fun k e he => by
 subst hg
 match k, he with
 | 0, he => simp at he; subst he; exact ⟨_, 0, A, c, rfl, box_cell _ _ _ _ _ rfl, box_cell _ _ _ _ _ rfl, ha.up, hi⟩
 | 1, he => simp at he; subst he; exact ⟨_, 0, B, d, rfl, box_cell _ _ _ _ _ rfl, box_cell _ _ _ _ _ rfl, hb.up, hj⟩
set_option maxHeartbeats 1000000 in
theorem zput_any (A : Option Addr) (c : Nat) (l : List UInt8) (n v : Int) (w : World) (hb : Bs w A l) (hn : -9223372036854775808 ≤ n ∧ n ≤ 9223372036854775807) (hl : l.length ≤ 1073741824) (hv : -9223372036854775808 ≤ v ∧ v ≤ 9223372036854775807) :
  Calls Tryz.prog 105 #[.agg #[.slice A l.length c, .int .i64 n], .int .i64 v] w fun e w' =>
   ∃ A' c', e = .returned (.tuple #[.agg #[.slice A' (zputSpec l n v).1.length c', .int .i64 (zputSpec l n v).2.1], .int .u16 (zputSpec l n v).2.2]) ∧ OwnB w' w.heap.size (.slice A' (zputSpec l n v).1.length c') (zputSpec l n v).1 ∧ Below w.heap.size w w' := by
 obtain ⟨N, hN⟩ : ∃ N, N = foldZ v := ⟨_, rfl⟩
 have hNl : N < 18446744073709551616 := by rw [hN]; exact foldZ_lt v hv
 have HN := Lib.hid hN
 have hzw := zw_le (zk N)
 have hzl := zl_pos (zk N)
 have hzp : zp (zk N) < 32 := by unfold zp; split <;> omega
 clear hN
 have X0 := Lib.hid ((Blk.new w 44 #[.slice A l.length c, .int .i64 n]).alloc (.cells #[.slice none 0 0, .int .i64 0] 44))
 have R0 : Hid (Blk ((w.alloc (.cells #[.slice A l.length c, .int .i64 n] 44)).alloc (.cells #[.slice none 0 0, .int .i64 0] 44)) (w.heap.size + 1) 44 #[.slice none 0 0, .int .i64 0]) := by
  have h := Blk.new (w.alloc (.cells #[.slice A l.length c, .int .i64 n] 44)) 44 #[.slice none 0 0, .int .i64 0]
  rw [World.size_alloc] at h
  exact Lib.hid h
 go_enter Tryz.func105, Tryz.ntmps105
 have kA := keepA
 go_wp2_with fail
 refine Calls.mono (fold_any v _ hv) ?_
 rw [← HN.out]
 rintro e w1 ⟨rfl, rfl⟩
 go_wp2_with fail
 refine Calls.mono (fitting_any N _ hNl) ?_
 rintro e w1 ⟨rfl, hb1⟩
 have X1 := Lib.hid (X0.out.go hb1)
 have R1 := Lib.hid (R0.out.go hb1)
 have t1 := (below_alloc2 w _ _).trans (hb1.mono (by simp; omega))
 go_wp2_with fail
 refine Calls.mono (put_E none 0 [] _ _ _ (Bs.nil _ _) (by omega) (by omega) (by simp)) ?_
 rintro e w2 ⟨M, A2, c2, HM, hMl, rfl, hB2, hb2⟩
 have X2 := Lib.hid (X1.out.go hb2)
 have R2 := Lib.hid (R1.out.go hb2)
 have P2 := (Blk.new w1 204 #[.int .u64 (zp (zk N) : Nat), .int .i64 (zl (zk N) : Nat), .int .i64 (zw (zk N) : Nat)]).go hb2
 have p2 := P2.tri
 have t2 := on t1 hb2
 have hM2 : M.length ≤ 64 := by simpa using hMl
 clear X1 R1 hMl P2
 go_wp2_with fail
 refine Calls.mono (put_O A2 c2 M _ _ _ hB2.up (by omega) (by omega) (by omega)) ?_
 rintro e w3 ⟨Z, A3, c3, HZ, hZl, rfl, hO3, hb3⟩
 have X3 := X2.out.go hb3
 have R3 := R2.out.go hb3
 have C3 := (Blk.new w2 44 #[.slice A2 (pack M).length c2, .int .i64 M.length]).go hb3
 have t3 := on t2 hb3
 have g1 := X3.lt
 have g2 := R3.lt
 have g3 := C3.lt
 have s1 := t2.size
 have hne1 : w.heap.size ≠ w2.heap.size := by have := X2.out.lt; omega
 have hne2 : w.heap.size + 1 ≠ w2.heap.size := by have := R2.out.lt; omega
 have k3 := C3.duo
 go_upto_region 5 with fail
 obtain ⟨w4, hw4⟩ : ∃ w4, w4 = (w3.setCell ⟨w2.heap.size, 0, none⟩ (.slice A3 (pack Z).length c3)).setCell ⟨w2.heap.size, 1, none⟩ (.int .i64 Z.length) := ⟨_, rfl⟩
 rw [← hw4]
 have X4 : Blk w4 w.heap.size 44 #[.slice A l.length c, .int .i64 n] := by rw [hw4]; exact (X3.far _ _ hne1).far _ _ hne1
 have R4 : Blk w4 (w.heap.size + 1) 44 #[.slice none 0 0, .int .i64 0] := by rw [hw4]; exact (R3.far _ _ hne2).far _ _ hne2
 have C4 : Blk w4 w2.heap.size 44 #[.slice A3 (pack Z).length c3, .int .i64 Z.length] := by rw [hw4]; exact C3.set2 _ _
 have t4 : Below w.heap.size w w4 := by rw [hw4]; exact (t3.setCell s1 _).setCell s1 _
 have hne3 := hO3.ne (show w2.heap.size < (w2.alloc (.cells #[.slice A2 (pack M).length c2, .int .i64 M.length] 44)).heap.size by simp)
 have hB4 : Bs w4 A3 (pack Z) := by rw [hw4]; exact ((hO3.far hne3 _).far hne3 _).bs
 clear X3 R3 C3 k3 hw4 hne1 hne2 hne3 hO3
 have x4 := X4.duo.1
 have k4 := C4.duo.1
 have hZ : Hid (joinSpec [(l, n), (pack Z, (Z.length : Int))] = zputSpec l n v) := Lib.hid (zputSpec_join l n v Z (by
  rw [HZ.out, HM.out, ← HN.out]; unfold zenc; simp))
 go_wp2_with fail
 refine Calls.mono (join_any _ 2 [(l, n), (pack Z, (Z.length : Int))] _ (BsL.two' rfl (hb.on t4) hB4 hn (by omega)) (by simp) (fun e he => by
  simp only [List.mem_cons, List.not_mem_nil, or_false] at he
  rcases he with rfl | rfl
  ·exact hl
  ·have := pack_le Z (Nat.le_refl _); simp only; omega)) ?_
 rw [hZ.out]
 rintro e w5 ⟨A5, c5, rfl, hO5, hb5⟩
 have R5 := R4.go hb5
 have r5 := R5.duo
 have t5 := on t4 hb5
 go_wp2
 have s5 := t4.size
 have hne5 := hO5.ne (show w.heap.size + 1 < (w4.alloc (.cells #[.slice A l.length c, .int .i64 n, .slice A3 (pack Z).length c3, .int .i64 Z.length] 44)).heap.size by have := R4.lt; simp; omega)
 refine bodyPost_ret (v := .tuple #[.agg #[.slice A5 (zputSpec l n v).1.length c5, .int .i64 (zputSpec l n v).2.1], .int .u16 (zputSpec l n v).2.2]) (by simp [results, Tryz.results105, go_sem, r5]) rfl ?_
 exact ⟨_, _, rfl, ((hO5.mono (by simp; omega)).far hne5 _).far hne5 _, (t5.setCell (by simp) _).setCell (by simp) _⟩
end Go.Proofs.YtnjcdihgaidlbaaGreatDoor
namespace Go.Proofs.YtnjcdihgaidlbaaGreatDoor
open Go.RowKit
theorem zputM (A : Option Addr) (c : Nat) (L : List Bool) (v : Int) (w : World) (hb : Bs w A (pack L)) (hL : L.length ≤ 1073741824) (hv : -9223372036854775808 ≤ v ∧ v ≤ 9223372036854775807) :
  Calls Tryz.prog 105 #[.agg #[.slice A (pack L).length c, .int .i64 L.length], .int .i64 v] w fun e w' =>
   ∃ M A' c', Hid (M = L ++ zenc (foldZ v)) ∧ L.length + 1 ≤ M.length ∧ M.length ≤ L.length + 69 ∧ e = .returned (.tuple #[.agg #[.slice A' (pack M).length c', .int .i64 M.length], .int .u16 0]) ∧ OwnB w' w.heap.size (.slice A' (pack M).length c') (pack M) ∧ Below w.heap.size w w' := by
 have hp : (pack L).length ≤ 1073741824 := by rw [pack_length]; unfold nb; omega
 have h := zput_any A c (pack L) L.length v w hb (by omega) hp hv
 have e : zputSpec (pack L) L.length v = (pack (L ++ zenc (foldZ v)), (L ++ zenc (foldZ v)).length, 0) := by
  unfold zputSpec
  rw [if_pos (sound_pack L), Int.toNat_natCast, bits_pack]
 rw [e] at h
 have hz := zenc_pos (foldZ v)
 exact h.mono fun e w' ⟨A', c', he, ho, hbel⟩ => ⟨_, A', c', rfl, by rw [List.length_append]; omega, by rw [List.length_append]; omega, he, ho, hbel⟩
end Go.Proofs.YtnjcdihgaidlbaaGreatDoor
