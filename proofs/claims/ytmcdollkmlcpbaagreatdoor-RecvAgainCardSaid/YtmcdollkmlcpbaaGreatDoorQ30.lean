/- Joined: Xr11. -/
import Derived.Test.YtmcdollkmlcpbaaGreatDoorQ28
import Derived.Deep.RegionHeld3
set_option linter.unusedSimpArgs false
set_option linter.unusedVariables false
namespace Go.Proofs.YtmcdollkmlcpbaaGreatDoor
open Go.RowKit
set_option maxRecDepth 100000 in
set_option maxHeartbeats 1000000 in
theorem encode_same (p l b v D : Nat) (w : World) (hv : v < 18446744073709551616) (hp : p < 18446744073709551616) (hlb : l + b ≤ 64) (hD : D = v ^^^ p) (h0 : v ^^^ p = 0) :
  Calls Tryz.prog 110 #[.agg #[.bool true, .int .u64 p, .int .u8 l, .int .u8 b], .int .u64 v] w fun e w' => EncOut [false] ⟨true, p, l, b⟩ w.heap.size e w' ∧ Below w.heap.size w w' := by
 have hmx : Tryz.prog.follows .mixedOrders = true := by kernel_rfl
 have hl : l < 256 := by omega
 have hb : b < 256 := by omega
 obtain ⟨W, hW⟩ : ∃ W, W = ((w.alloc (.cells #[.bool true, .int .u64 p, .int .u8 l, .int .u8 b] 86)).alloc (.cells #[.slice none 0 0, .int .i64 0] 33)).alloc (.cells #[.bool false, .int .u64 0, .int .u8 0, .int .u8 0] 86) := ⟨_, rfl⟩
 have s1 : (w.alloc (.cells #[.bool true, .int .u64 p, .int .u8 l, .int .u8 b] 86)).heap.size = w.heap.size + 1 := by simp
 have s2 : ((w.alloc (.cells #[.bool true, .int .u64 p, .int .u8 l, .int .u8 b] 86)).alloc (.cells #[.slice none 0 0, .int .i64 0] 33)).heap.size = w.heap.size + 2 := by simp
 have B0 : Blk W w.heap.size 86 #[.bool true, .int .u64 p, .int .u8 l, .int .u8 b] := by rw [hW]; exact ((Blk.new w _ _).alloc _).alloc _
 have B1 : Blk W (w.heap.size + 1) 33 #[.slice none 0 0, .int .i64 0] := by
  rw [hW]
  have := (Blk.new (w.alloc (.cells #[.bool true, .int .u64 p, .int .u8 l, .int .u8 b] 86)) 33 #[.slice none 0 0, .int .i64 0]).alloc (.cells #[.bool false, .int .u64 0, .int .u8 0, .int .u8 0] 86)
  rwa [s1] at this
 have B2 : Blk W (w.heap.size + 2) 86 #[.bool false, .int .u64 0, .int .u8 0, .int .u8 0] := by
  rw [hW]
  have := Blk.new ((w.alloc (.cells #[.bool true, .int .u64 p, .int .u8 l, .int .u8 b] 86)).alloc (.cells #[.slice none 0 0, .int .i64 0] 33)) 86 #[.bool false, .int .u64 0, .int .u8 0, .int .u8 0]
  rwa [s2] at this
 have tW : Below w.heap.size w W := by rw [hW]; exact ((below_alloc w _).alloc (by simp) _).alloc (by simp; omega) _
 have zW : W.heap.size = w.heap.size + 3 := by rw [hW]; simp
 clear s1 s2
 have HB0 := Lib.hid B0
 have HB1 := Lib.hid B1
 have HB2 := Lib.hid B2
 have HzW := Lib.hid zW
 have HtW := Lib.hid tW
 have q : ∀ x, (plus W x).cell? ⟨w.heap.size, 0, none⟩ = some (.bool true) ∧ (plus W x).cell? ⟨w.heap.size, 1, none⟩ = some (.int .u64 p) ∧ (plus W x).cell? ⟨w.heap.size, 2, none⟩ = some (.int .u8 l) ∧ (plus W x).cell? ⟨w.heap.size, 3, none⟩ = some (.int .u8 b) := fun x =>
  ((HB0.out.below (plus_below W x) HB0.out.lt : Blk (plus W x) w.heap.size 86 #[.bool true, .int .u64 p, .int .u8 l, .int .u8 b])).quad.1
 have hx : bits .xor .u64 (v : Int) (p : Int) = (D : Int) := by rw [xor_int v p hv hp, hD]
 have HW := Lib.hid hW
 have HD := Lib.hid hD
 clear B0 B1 B2 zW tW hW hD
 have hd0 : ((D : Int) == 0) = true := by rw [HD.out, h0]; rfl
 go_enter Tryz.func110, Tryz.ntmps110
 go_wp2_with fail
 rw [← HW.out]
 refine wp_region_fresh_tail 7 [] [5, 6] (fun k V z => if k = 5 then V = .agg #[.int .i64 l, .int .i64 b] else ∃ g, V = .pointer (some ⟨g, 0, none⟩) ∧ Blk z g 176 #[.int .i64 0, .int .i64 0] ∧ W.heap.size ≤ g) hmx (by kernel_rfl) (by kernel_rfl) ?_
 simp only [List.take_succ_cons, List.take_zero, List.drop_succ_cons, List.drop_zero]
 iterate 5 (refine walkF_one none W rfl (by kernel_rfl) ?_; go_big_quiet_step (fail); refine wpQuiet_nil ?_)
 refine walkF_make none W rfl rfl rfl (by kernel_rfl) (fun x => ?_) ?_
 ·refine grow_call ?_ ((bandOf_any true p l b (plus W x) hl hb).mono ?_)
  ·simp [execOp, go_sem]
  ·rintro e w4 ⟨rfl, b4⟩
   exact ⟨_, rfl, b4, rfl⟩
 rintro V1 z1 rfl g1
 conv => arg 11; simp [Act.put]
 refine walkF_make none W rfl rfl rfl (by kernel_rfl) (fun x => ?_) ?_
 ·have hr : ∀ w' : World, (execOp (Act.eval { tmps := #[], defers := [] }) { dst := none, op := .alloc 176, type := 0, pos := "", after := #[], guard := none }).run Tryz.prog w' = .ok (.value (.pointer (some ⟨w'.heap.size, 0, none⟩))) (w'.alloc (.cells #[.int .i64 0, .int .i64 0] 176)) := fun w' => by simp [execOp, go_sem]
  have hr2 := hr (plus W x)
  unfold growUpon
  simp only [execOp] at hr2 ⊢
  rw [hr2]
  exact ⟨below_alloc _ _, _, rfl, Blk.new _ _ _, (plus_below W x).size⟩
 rintro V2 z2 ⟨g, rfl, hg, hgz⟩ g2
 conv => arg 11; simp [Act.put]
 refine walkF_end ?_
 intro w' h0 hE
 have hg' : Blk w' g 176 #[.int .i64 0, .int .i64 0] := hg.below (hE 6) hg.lt
 have HG := Lib.hid hg'
 have hgz3 : w.heap.size + 3 ≤ g := by have := HzW.out; omega
 have EB := Lib.hid (⟨(HB0.out.below h0 HB0.out.lt).far _ _ (by simp; omega) |>.far _ _ (by simp; omega), (HB1.out.below h0 HB1.out.lt).far _ _ (by simp; omega) |>.far _ _ (by simp; omega), (HB2.out.below h0 HB2.out.lt).far _ _ (by simp; omega) |>.far _ _ (by simp; omega), hg'.set2 _ _, ((HtW.out.trans (Below.mono h0 (by have := HtW.out.size; omega))).setCell (by simp; omega) _).setCell (by simp; omega) _, hgz3⟩ : EncB w ((w'.setCell ⟨g, 0, none⟩ (.int .i64 l)).setCell ⟨g, 1, none⟩ (.int .i64 b)) g true p l b)
 obtain ⟨⟨-, -⟩, y0, y1⟩ := HG.out.duo
 obtain ⟨⟨x0, x1⟩, -⟩ := HG.out.duo
 have EQ := EB.out.h0.quad.1
 clear hE q hg hg' hgz h0
 go_wp2_with fail
 obtain ⟨W2, hW2⟩ : ∃ W2, W2 = (w'.setCell ⟨g, 0, none⟩ (.int .i64 l)).setCell ⟨g, 1, none⟩ (.int .i64 b) := ⟨_, rfl⟩
 have hsz : w'.heap.size = W2.heap.size := by rw [hW2]; simp [World.setCell]
 rw [← hW2] at EB
 rw [← hW2]
 clear hsz hW2 HG y0 y1 x0 x1 hd0
 clear EQ
 obtain ⟨q0, q1, q2, q3⟩ := EB.out.h0.quad.1
 have dq : W2.drew.cell? ⟨w.heap.size, 0, none⟩ = some (.bool true) ∧ W2.drew.cell? ⟨w.heap.size, 1, none⟩ = some (.int .u64 p) ∧ W2.drew.cell? ⟨w.heap.size, 2, none⟩ = some (.int .u8 l) ∧ W2.drew.cell? ⟨w.heap.size, 3, none⟩ = some (.int .u8 b) := ⟨q0, q1, q2, q3⟩
 have hR : Rw ((W2.alloc (.cells #[.int .u64 0, .int .i64 1] 209)).drew) encFd 2 (some ⟨W2.heap.size, 0, none⟩) [(0, 1)] := rw_new (Blk.new W2 _ _).drew
 have dq2 : ((W2.alloc (.cells #[.int .u64 0, .int .i64 1] 209)).drew).cell? ⟨w.heap.size, 0, none⟩ = some (.bool true) ∧ ((W2.alloc (.cells #[.int .u64 0, .int .i64 1] 209)).drew).cell? ⟨w.heap.size, 1, none⟩ = some (.int .u64 p) ∧ ((W2.alloc (.cells #[.int .u64 0, .int .i64 1] 209)).drew).cell? ⟨w.heap.size, 2, none⟩ = some (.int .u8 l) ∧ ((W2.alloc (.cells #[.int .u64 0, .int .i64 1] 209)).drew).cell? ⟨w.heap.size, 3, none⟩ = some (.int .u8 b) := (EB.out.h0.alloc _ : Blk (W2.alloc (.cells #[.int .u64 0, .int .i64 1] 209)) _ _ _).quad.1
 have HN := Lib.hid (numbers_any (some ⟨W2.heap.size, 0, none⟩) 1 [(0, 1)] _ hR (by simp) (by simp))
 have H23 : Hid (∀ w3, Below ((W2.alloc (.cells #[.int .u64 0, .int .i64 1] 209)).drew).heap.size ((W2.alloc (.cells #[.int .u64 0, .int .i64 1] 209)).drew) w3 → Below W2.heap.size W2 w3) := Lib.hid fun w3 h => (below_alloc W2 (.cells #[.int .u64 0, .int .i64 1] 209)).drew.trans (h.mono (by simp [World.drew]))
 have ne1 : ∀ i j : Nat, (⟨w.heap.size + 1, i, none⟩ : Addr).block ≠ (⟨w.heap.size, j, none⟩ : Addr).block := fun i j => by simp
 have ne2 : ∀ i j : Nat, (⟨w.heap.size + 1 + 1, i, none⟩ : Addr).block ≠ (⟨w.heap.size, j, none⟩ : Addr).block := fun i j => by simp; omega
 have hlt := EB.out.zz
 have nf1 := fun (W : World) (i j : Nat) (u : Value) => World.cell?_setCell_far W ⟨w.heap.size + 1, i, none⟩ ⟨w.heap.size, j, none⟩ u (ne1 i j)
 have nf2 := fun (W : World) (i j : Nat) (u : Value) => World.cell?_setCell_far W ⟨w.heap.size + 1 + 1, i, none⟩ ⟨w.heap.size, j, none⟩ u (ne2 i j)
 clear ne1 ne2
 go_region_held3 (fun w' => w'.cell? ⟨w.heap.size, 0, none⟩ = some (.bool true) ∧ w'.cell? ⟨w.heap.size, 1, none⟩ = some (.int .u64 p) ∧ w'.cell? ⟨w.heap.size, 2, none⟩ = some (.int .u8 l) ∧ w'.cell? ⟨w.heap.size, 3, none⟩ = some (.int .u8 b)) (first | with_reducible exact dq | with_reducible exact dq2 | with_reducible exact rr | (simp only [nf1, nf2]; with_reducible exact rr))
  ((go_at_call 120; refine HN.out.mono ?_; rintro e w3 ⟨A3, n3, c3, rfl, hn3, o3, b3⟩; have Hn3 := Lib.hid hn3; clear hn3; have b23 := H23.out w3 b3; have EB4 := Lib.hid (EB.out.go b23); have rr := EB4.out.h0.quad.1; obtain ⟨⟨y0, y1⟩, x0, x1⟩ := EB4.out.h1.duo; obtain ⟨⟨m0, m1, m2, m3⟩, k0, k1, k2, k3⟩ := EB4.out.h2.quad))
 go_wp2_with fail
 have hc : catFd [(0, 1)] = [false] := by simp [catFd, valB]
 rw [hc] at o3 ⊢
 have hnn : n3 = (pack [false]).length := by rw [Hn3.out, hc]
 obtain ⟨f1, f2, f3⟩ := EB4.out.fin (.slice A3 n3 c3) (.int .i64 1) (.bool true) (.int .u64 p) (.int .u8 l) (.int .u8 b)
 obtain ⟨⟨r0, r1⟩, -⟩ := f1.duo
 obtain ⟨⟨s0, s1, s2, s3⟩, -⟩ := f2.quad
 refine bodyPost_ret (v := .tuple #[.agg #[.slice A3 n3 c3, .int .i64 1], .agg #[.bool true, .int .u64 p, .int .u8 l, .int .u8 b]]) (by simp [results, Tryz.results110, go_sem, r0, r1, s0, s1, s2, s3]) rfl ⟨⟨A3, n3, c3, hnn, rfl, ?_⟩, f3⟩
 exact o3.encFin (by simp [World.drew]; omega) _ _ _ _ _ _
end Go.Proofs.YtmcdollkmlcpbaaGreatDoor
