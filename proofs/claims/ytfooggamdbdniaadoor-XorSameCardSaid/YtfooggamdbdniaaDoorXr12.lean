/- The program's encode of layer 3: a value in the old band. -/
import Derived.Test.YtfooggamdbdniaaDoorXr10
namespace Go.Proofs.YtfooggamdbdniaaDoor
open Go.RowKit

set_option maxRecDepth 100000 in
set_option maxHeartbeats 1000000 in
theorem encode_old (p l b v D : Nat) (w : World) (hv : v < 18446744073709551616) (hp : p < 18446744073709551616) (hlb : l + b ≤ 64) (hD : D = v ^^^ p) (h0 : v ^^^ p ≠ 0) (hh : holdsX l b (v ^^^ p) = true) :
    Calls Tryd.prog 21 #[.agg #[.bool true, .int .u64 p, .int .u8 l, .int .u8 b], .int .u64 v] w fun e w' => EncOut (true :: false :: valB ((v ^^^ p) / 2 ^ (64 - l - b)) b) ⟨true, v, l, b⟩ w.heap.size e w' ∧ Below w.heap.size w w' := by
  have hmx : Tryd.prog.follows .mixedOrders = true := by kernel_rfl
  have hl : l < 256 := by omega
  have hb : b < 256 := by omega
  obtain ⟨W, hW⟩ : ∃ W, W = ((w.alloc (.cells #[.bool true, .int .u64 p, .int .u8 l, .int .u8 b] 24)).alloc (.cells #[.slice none 0 0, .int .i64 0] 29)).alloc (.cells #[.bool false, .int .u64 0, .int .u8 0, .int .u8 0] 24) := ⟨_, rfl⟩
  have s1 : (w.alloc (.cells #[.bool true, .int .u64 p, .int .u8 l, .int .u8 b] 24)).heap.size = w.heap.size + 1 := by simp
  have s2 : ((w.alloc (.cells #[.bool true, .int .u64 p, .int .u8 l, .int .u8 b] 24)).alloc (.cells #[.slice none 0 0, .int .i64 0] 29)).heap.size = w.heap.size + 2 := by simp
  have B0 : Blk W w.heap.size 24 #[.bool true, .int .u64 p, .int .u8 l, .int .u8 b] := by rw [hW]; exact ((Blk.new w _ _).alloc _).alloc _
  have B1 : Blk W (w.heap.size + 1) 29 #[.slice none 0 0, .int .i64 0] := by
    rw [hW]
    have := (Blk.new (w.alloc (.cells #[.bool true, .int .u64 p, .int .u8 l, .int .u8 b] 24)) 29 #[.slice none 0 0, .int .i64 0]).alloc (.cells #[.bool false, .int .u64 0, .int .u8 0, .int .u8 0] 24)
    rwa [s1] at this
  have B2 : Blk W (w.heap.size + 2) 24 #[.bool false, .int .u64 0, .int .u8 0, .int .u8 0] := by
    rw [hW]
    have := Blk.new ((w.alloc (.cells #[.bool true, .int .u64 p, .int .u8 l, .int .u8 b] 24)).alloc (.cells #[.slice none 0 0, .int .i64 0] 29)) 24 #[.bool false, .int .u64 0, .int .u8 0, .int .u8 0]
    rwa [s2] at this
  have tW : Below w.heap.size w W := by rw [hW]; exact ((below_alloc w _).alloc (by simp) _).alloc (by simp; omega) _
  have zW : W.heap.size = w.heap.size + 3 := by rw [hW]; simp
  clear s1 s2
  have HB0 := Lib.hid B0
  have HB1 := Lib.hid B1
  have HB2 := Lib.hid B2
  have HzW := Lib.hid zW
  have HtW := Lib.hid tW
  have q : ∀ x, (plus W x).cell? ⟨w.heap.size, 0, none⟩ = some (.bool true) ∧ (plus W x).cell? ⟨w.heap.size, 1, none⟩ = some (.int .u64 p) ∧ (plus W x).cell? ⟨w.heap.size, 2, none⟩ = some (.int .u8 l) ∧ (plus W x).cell? ⟨w.heap.size, 3, none⟩ = some (.int .u8 b) := fun x =>
    ((HB0.out.below (plus_below W x) HB0.out.lt : Blk (plus W x) w.heap.size 24 #[.bool true, .int .u64 p, .int .u8 l, .int .u8 b])).quad.1
  have hx : bits .xor .u64 (v : Int) (p : Int) = (D : Int) := by rw [xor_int v p hv hp, hD]
  have HW := Lib.hid hW
  have HD := Lib.hid hD
  clear B0 B1 B2 zW tW hW hD
  have hd0 : ((D : Int) == 0) = false := by rw [HD.out]; exact beq_eq_false_iff_ne.2 (by omega)
  go_enter Tryd.func21, Tryd.ntmps21
  go_wp2_with fail
  rw [← HW.out]
  refine wp_region_fresh_tail 7 [] [5, 6] (fun k V z => if k = 5 then V = .agg #[.int .i64 l, .int .i64 b] else ∃ g, V = .pointer (some ⟨g, 0, none⟩) ∧ Blk z g 50 #[.int .i64 0, .int .i64 0] ∧ W.heap.size ≤ g) hmx (by kernel_rfl) (by kernel_rfl) ?_
  simp only [List.take_succ_cons, List.take_zero, List.drop_succ_cons, List.drop_zero]
  iterate 5 (refine walkF_one none W rfl (by kernel_rfl) ?_; go_big_quiet_step (fail); refine wpQuiet_nil ?_)
  refine walkF_make none W rfl rfl rfl (by kernel_rfl) (fun x => ?_) ?_
  · refine grow_call ?_ ((bandOf_any true p l b (plus W x) hl hb).mono ?_)
    · simp [execOp, go_sem]
    · rintro e w4 ⟨rfl, b4⟩
      exact ⟨_, rfl, b4, rfl⟩
  rintro V1 z1 rfl g1
  conv => arg 11; simp [Act.put]
  refine walkF_make none W rfl rfl rfl (by kernel_rfl) (fun x => ?_) ?_
  · have hr : ∀ w' : World, (execOp (Act.eval { tmps := #[], defers := [] }) { dst := none, op := .alloc 50, type := 0, pos := "", after := #[], guard := none }).run Tryd.prog w' = .ok (.value (.pointer (some ⟨w'.heap.size, 0, none⟩))) (w'.alloc (.cells #[.int .i64 0, .int .i64 0] 50)) := fun w' => by simp [execOp, go_sem]
    have hr2 := hr (plus W x)
    unfold growUpon
    simp only [execOp] at hr2 ⊢
    rw [hr2]
    exact ⟨below_alloc _ _, _, rfl, Blk.new _ _ _, (plus_below W x).size⟩
  rintro V2 z2 ⟨g, rfl, hg, hgz⟩ g2
  conv => arg 11; simp [Act.put]
  refine walkF_end ?_
  intro w' h0 hE
  have hg' : Blk w' g 50 #[.int .i64 0, .int .i64 0] := hg.below (hE 6) hg.lt
  have HG := Lib.hid hg'
  have hgz3 : w.heap.size + 3 ≤ g := by have := HzW.out; omega
  have EB := Lib.hid (⟨(HB0.out.below h0 HB0.out.lt).far _ _ (by simp; omega) |>.far _ _ (by simp; omega), (HB1.out.below h0 HB1.out.lt).far _ _ (by simp; omega) |>.far _ _ (by simp; omega), (HB2.out.below h0 HB2.out.lt).far _ _ (by simp; omega) |>.far _ _ (by simp; omega), hg'.set2 _ _, ((HtW.out.trans (Below.mono h0 (by have := HtW.out.size; omega))).setCell (by simp; omega) _).setCell (by simp; omega) _, hgz3⟩ : EncB w ((w'.setCell ⟨g, 0, none⟩ (.int .i64 l)).setCell ⟨g, 1, none⟩ (.int .i64 b)) g true p l b)
  obtain ⟨⟨-, -⟩, y0, y1⟩ := HG.out.duo
  obtain ⟨⟨x0, x1⟩, -⟩ := HG.out.duo
  have EQ := EB.out.h0.quad.1
  clear hE q hg hg' hgz h0
  go_wp2_with fail
  obtain ⟨W2, hW2⟩ : ∃ W2, W2 = (w'.setCell ⟨g, 0, none⟩ (.int .i64 l)).setCell ⟨g, 1, none⟩ (.int .i64 b) := ⟨_, rfl⟩
  have hsz : w'.heap.size = W2.heap.size := by rw [hW2]; simp [World.setCell]
  rw [← hW2] at EB
  rw [← hW2]
  clear hsz hW2 HG y0 y1 x0 x1 EQ hd0
  obtain ⟨s0, hs0⟩ : ∃ s0 : Nat, s0 = 64 - l - b := ⟨_, rfl⟩
  have hs0' : (64 : Int) - l - b = s0 := by omega
  obtain ⟨nn, hnn⟩ : ∃ nn : Nat, nn = D / 2 ^ s0 := ⟨_, rfl⟩
  have f3 : (D : Int) / 2 ^ s0 = (nn : Int) := by rw [nat_shr, hnn]
  have hDl : D < 18446744073709551616 := by rw [HD.out]; exact xor_lt64 hv hp
  have hnl : nn < 18446744073709551616 := by rw [hnn]; exact Nat.lt_of_le_of_lt (Nat.div_le_self _ _) hDl
  have j4 : min s0 64 = s0 := by omega
  have Hs0 := Lib.hid hs0
  have Hs0' := Lib.hid hs0'
  have Hnn := Lib.hid hnn
  clear hs0 hs0' hnn
  have hHo := holds_any l b D W2 hlb hDl
  rw [HD.out, hh, ← HD.out] at hHo
  have b2 := EB.out.h3.duo.1
  go_wp2_with fail
  refine hHo.mono ?_
  rintro e w3 ⟨rfl, b3⟩
  have EB3 := Lib.hid (EB.out.go b3)
  clear hHo b2
  obtain ⟨b20, b21⟩ := EB3.out.h3.duo.1
  go_wp2_with fail
  have qq : ∀ x, (plus w3 x).cell? ⟨g, 0, none⟩ = some (.int .i64 l) ∧ (plus w3 x).cell? ⟨g, 1, none⟩ = some (.int .i64 b) := fun x => (EB3.out.h3.below (plus_below w3 x) EB3.out.h3.lt : Blk (plus w3 x) g 50 #[.int .i64 l, .int .i64 b]).duo.1
  clear b20 b21
  refine wp_region_fresh_tail 12 (List.replicate 9 none ++ [some 8]) [3, 8, 9, 12] (fun k V z => if k = 3 then V = .int .i64 s0 else if k = 8 then ∃ g, V = .slice (some ⟨g, 0, none⟩) 2 2 ∧ Rw z encFd 2 (some ⟨g, 0, none⟩) [(2, 2), (nn, b)] else ∃ A n c, V = .agg #[.slice A n c, .int .i64 ((catFd [(2, 2), (nn, b)]).length : Nat)] ∧ n = (pack (catFd [(2, 2), (nn, b)])).length ∧ OwnB z w3.heap.size (.slice A n c) (pack (catFd [(2, 2), (nn, b)]))) hmx (by kernel_rfl) (by kernel_rfl) ?_
  simp only [List.take_succ_cons, List.take_zero, List.drop_succ_cons, List.drop_zero]
  iterate 3 (refine walkF_one none w3 rfl (by kernel_rfl) ?_; go_big_quiet_step (fail); refine wpQuiet_nil ?_)
  refine walkF_make none w3 rfl rfl rfl (by kernel_rfl) (fun x => ?_) ?_
  · refine grow_call ?_ ((behind_any l b (plus w3 x) (by omega) (by omega)).mono ?_)
    · simp [execOp, go_sem]
    · rintro e w4 ⟨rfl, b4⟩
      exact ⟨_, rfl, b4, by rw [if_pos (by rfl), Hs0'.out]⟩
  intro V1 z1 hV1 g1
  obtain rfl : V1 = .int .i64 s0 := hV1
  conv => arg 11; simp [Act.put]
  iterate 4 (refine walkF_one none w3 rfl (by kernel_rfl) ?_; go_big_quiet_step (fail); refine wpQuiet_nil ?_)
  refine walkF_make none w3 rfl rfl rfl (by kernel_rfl) (fun x => ?_) ?_
  · refine grow_val (v := .slice (some ⟨(plus w3 x).heap.size, 0, none⟩) 2 2) (w' := (plus w3 x).alloc (.cells #[.int .u64 2, .int .i64 2, .int .u64 nn, .int .i64 b] 71)) ?_ (below_alloc _ _) ?_
    · simp [execOp, go_sem]
    · exact ⟨_, rfl, rw_new (Blk.new _ _ _)⟩
  intro V8 z8 hV8 g8
  obtain ⟨gs, rfl, hR8⟩ : ∃ g, V8 = .slice (some ⟨g, 0, none⟩) 2 2 ∧ Rw z8 encFd 2 (some ⟨g, 0, none⟩) [(2, 2), (nn, b)] := hV8
  conv => arg 11; simp [Act.put]
  refine walkF_make (some 8) z8 rfl rfl rfl (by kernel_rfl) (fun x => ?_) ?_
  · refine grow_call ?_ ((numbers_any (some ⟨gs, 0, none⟩) 2 [(2, 2), (nn, b)] (plus z8 x) (hR8.below (plus_below z8 x) (Nat.le_refl _)) (by simp; omega) (by simp)).mono ?_)
    · simp [execOp, go_sem]
    · rintro e w4 ⟨A4, n4, c4, rfl, hn4, o4, b4⟩
      exact ⟨_, rfl, b4, _, _, _, rfl, hn4, o4.mono (Nat.le_trans (Below.size g8) (plus_below z8 x).size)⟩
  intro V9 z9 hV9 g9
  obtain ⟨A3, n3, c3, rfl, hn3, o3⟩ : ∃ A n c, V9 = .agg #[.slice A n c, .int .i64 ((catFd [(2, 2), (nn, b)]).length : Nat)] ∧ n = (pack (catFd [(2, 2), (nn, b)])).length ∧ OwnB z9 w3.heap.size (.slice A n c) (pack (catFd [(2, 2), (nn, b)])) := hV9
  conv => arg 11; simp [Act.put]
  have HM : Hid (catFd [(2, 2), (nn, b)] = true :: false :: valB nn b) := Lib.hid (by
    show valB 2 2 ++ (valB nn b ++ []) = _
    rw [List.append_nil, show valB 2 2 = [true, false] from by decide]
    rfl)
  rw [HM.out] at hn3 o3 ⊢
  generalize hMM : true :: false :: valB nn b = MM at hn3 o3 ⊢
  have Hn3 := Lib.hid hn3
  have HMM := Lib.hid hMM
  clear hn3 hMM
  iterate 2 (refine walkF_one none w3 rfl (by kernel_rfl) ?_; go_big_quiet_step (fail); refine wpQuiet_nil ?_)
  refine walkF_end ?_
  intro w5 h5 hE
  have h95 : Gr z9 w5 := hE 9
  have EB5 := Lib.hid (EB3.out.go h5)
  have o5 := o3.below h95
  clear hE qq h95 o3 hR8
  go_wp2_with (go_at_call 28; refine (after_any l b v _ hl hb).mono ?_; rintro e w6 ⟨rfl, b6⟩; have EB4 := Lib.hid (EB5.out.go b6); have o4 := o5.below b6; obtain ⟨⟨y0, y1⟩, x0, x1⟩ := EB4.out.h1.duo; obtain ⟨⟨m0, m1, m2, m3⟩, k0, k1, k2, k3⟩ := EB4.out.h2.quad)
  have hfin : true :: false :: valB ((v ^^^ p) / 2 ^ (64 - l - b)) b = MM := by rw [← HMM.out, Hnn.out, Hs0.out, HD.out]
  rw [hfin]
  obtain ⟨f1, f2, f3⟩ := EB4.out.fin (.slice A3 n3 c3) (.int .i64 (MM.length : Nat)) (.bool true) (.int .u64 v) (.int .u8 l) (.int .u8 b)
  obtain ⟨⟨r0, r1⟩, -⟩ := f1.duo
  obtain ⟨⟨s0, s1, s2, s3⟩, -⟩ := f2.quad
  refine bodyPost_ret (v := .tuple #[.agg #[.slice A3 n3 c3, .int .i64 (MM.length : Nat)], .agg #[.bool true, .int .u64 v, .int .u8 l, .int .u8 b]]) (by simp [results, Tryd.results21, go_sem, r0, r1, s0, s1, s2, s3]) rfl ⟨⟨A3, n3, c3, Hn3.out, rfl, ?_⟩, f3⟩
  exact o4.encFin (by have := EB3.out.zz; omega) _ _ _ _ _ _

end Go.Proofs.YtfooggamdbdniaaDoor
