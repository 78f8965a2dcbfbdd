/- The program's encode of layer 3: a value in a new band. -/
import Derived.Test.YtfooggamdbdniaaDoorXr10
namespace Go.Proofs.YtfooggamdbdniaaDoor
open Go.RowKit

set_option maxRecDepth 100000 in
set_option maxHeartbeats 1000000 in
theorem encode_new (p l b v D : Nat) (w : World) (hv : v < 18446744073709551616) (hp : p < 18446744073709551616) (hlb : l + b ≤ 64) (hD : D = v ^^^ p) (hT : Tab w) (h0 : v ^^^ p ≠ 0) (hh : holdsX l b (v ^^^ p) = false) :
    Calls Tryd.prog 21 #[.agg #[.bool true, .int .u64 p, .int .u8 l, .int .u8 b], .int .u64 v] w fun e w' => EncOut (true :: true :: (valB (leadX (v ^^^ p)) 5 ++ valB (widX (v ^^^ p) - 1) 6 ++ valB ((v ^^^ p) / 2 ^ (64 - leadX (v ^^^ p) - widX (v ^^^ p))) (widX (v ^^^ p)))) ⟨true, v, leadX (v ^^^ p), widX (v ^^^ p)⟩ w.heap.size e w' ∧ Below w.heap.size w w' := by
  have hmx : Tryd.prog.follows .mixedOrders = true := by kernel_rfl
  have hl : l < 256 := by omega
  have hb : b < 256 := by omega
  obtain ⟨W, hW⟩ : ∃ W, W = ((w.alloc (.cells #[.bool true, .int .u64 p, .int .u8 l, .int .u8 b] 24)).alloc (.cells #[.slice none 0 0, .int .i64 0] 29)).alloc (.cells #[.bool false, .int .u64 0, .int .u8 0, .int .u8 0] 24) := ⟨_, rfl⟩
  have s1 : (w.alloc (.cells #[.bool true, .int .u64 p, .int .u8 l, .int .u8 b] 24)).heap.size = w.heap.size + 1 := by simp
  have s2 : ((w.alloc (.cells #[.bool true, .int .u64 p, .int .u8 l, .int .u8 b] 24)).alloc (.cells #[.slice none 0 0, .int .i64 0] 29)).heap.size = w.heap.size + 2 := by simp
  have B0 : Blk W w.heap.size 24 #[.bool true, .int .u64 p, .int .u8 l, .int .u8 b] := by rw [hW]; exact ((Blk.new w _ _).alloc _).alloc _
  have B1 : Blk W (w.heap.size + 1) 29 #[.slice none 0 0, .int .i64 0] := by
    rw [hW]
    have := (Blk.new (w.alloc (.cells #[.bool true, .int .u64 p, .int .u8 l, .int .u8 b] 24)) 29 #[.slice none 0 0, .int .i64 0]).alloc (.cells #[.bool false, .int .u64 0, .int .u8 0, .int .u8 0] 24)
    rwa [s1] at this
  have B2 : Blk W (w.heap.size + 2) 24 #[.bool false, .int .u64 0, .int .u8 0, .int .u8 0] := by
    rw [hW]
    have := Blk.new ((w.alloc (.cells #[.bool true, .int .u64 p, .int .u8 l, .int .u8 b] 24)).alloc (.cells #[.slice none 0 0, .int .i64 0] 29)) 24 #[.bool false, .int .u64 0, .int .u8 0, .int .u8 0]
    rwa [s2] at this
  have tW : Below w.heap.size w W := by rw [hW]; exact ((below_alloc w _).alloc (by simp) _).alloc (by simp; omega) _
  have zW : W.heap.size = w.heap.size + 3 := by rw [hW]; simp
  clear s1 s2
  have HB0 := Lib.hid B0
  have HB1 := Lib.hid B1
  have HB2 := Lib.hid B2
  have HzW := Lib.hid zW
  have HtW := Lib.hid tW
  have q : ∀ x, (plus W x).cell? ⟨w.heap.size, 0, none⟩ = some (.bool true) ∧ (plus W x).cell? ⟨w.heap.size, 1, none⟩ = some (.int .u64 p) ∧ (plus W x).cell? ⟨w.heap.size, 2, none⟩ = some (.int .u8 l) ∧ (plus W x).cell? ⟨w.heap.size, 3, none⟩ = some (.int .u8 b) := fun x =>
    ((HB0.out.below (plus_below W x) HB0.out.lt : Blk (plus W x) w.heap.size 24 #[.bool true, .int .u64 p, .int .u8 l, .int .u8 b])).quad.1
  have hx : bits .xor .u64 (v : Int) (p : Int) = (D : Int) := by rw [xor_int v p hv hp, hD]
  have HW := Lib.hid hW
  have HD := Lib.hid hD
  clear B0 B1 B2 zW tW hW hD
  have hd0 : ((D : Int) == 0) = false := by rw [HD.out]; exact beq_eq_false_iff_ne.2 (by omega)
  go_enter Tryd.func21, Tryd.ntmps21
  go_wp2_with fail
  rw [← HW.out]
  refine wp_region_fresh_tail 7 [] [5, 6] (fun k V z => if k = 5 then V = .agg #[.int .i64 l, .int .i64 b] else ∃ g, V = .pointer (some ⟨g, 0, none⟩) ∧ Blk z g 50 #[.int .i64 0, .int .i64 0] ∧ W.heap.size ≤ g) hmx (by kernel_rfl) (by kernel_rfl) ?_
  simp only [List.take_succ_cons, List.take_zero, List.drop_succ_cons, List.drop_zero]
  iterate 5 (refine walkF_one none W rfl (by kernel_rfl) ?_; go_big_quiet_step (fail); refine wpQuiet_nil ?_)
  refine walkF_make none W rfl rfl rfl (by kernel_rfl) (fun x => ?_) ?_
  · refine grow_call ?_ ((bandOf_any true p l b (plus W x) hl hb).mono ?_)
    · simp [execOp, go_sem]
    · rintro e w4 ⟨rfl, b4⟩
      exact ⟨_, rfl, b4, rfl⟩
  rintro V1 z1 rfl g1
  conv => arg 11; simp [Act.put]
  refine walkF_make none W rfl rfl rfl (by kernel_rfl) (fun x => ?_) ?_
  · have hr : ∀ w' : World, (execOp (Act.eval { tmps := #[], defers := [] }) { dst := none, op := .alloc 50, type := 0, pos := "", after := #[], guard := none }).run Tryd.prog w' = .ok (.value (.pointer (some ⟨w'.heap.size, 0, none⟩))) (w'.alloc (.cells #[.int .i64 0, .int .i64 0] 50)) := fun w' => by simp [execOp, go_sem]
    have hr2 := hr (plus W x)
    unfold growUpon
    simp only [execOp] at hr2 ⊢
    rw [hr2]
    exact ⟨below_alloc _ _, _, rfl, Blk.new _ _ _, (plus_below W x).size⟩
  rintro V2 z2 ⟨g, rfl, hg, hgz⟩ g2
  conv => arg 11; simp [Act.put]
  refine walkF_end ?_
  intro w' h0 hE
  have hg' : Blk w' g 50 #[.int .i64 0, .int .i64 0] := hg.below (hE 6) hg.lt
  have HG := Lib.hid hg'
  have hgz3 : w.heap.size + 3 ≤ g := by have := HzW.out; omega
  have EB := Lib.hid (⟨(HB0.out.below h0 HB0.out.lt).far _ _ (by simp; omega) |>.far _ _ (by simp; omega), (HB1.out.below h0 HB1.out.lt).far _ _ (by simp; omega) |>.far _ _ (by simp; omega), (HB2.out.below h0 HB2.out.lt).far _ _ (by simp; omega) |>.far _ _ (by simp; omega), hg'.set2 _ _, ((HtW.out.trans (Below.mono h0 (by have := HtW.out.size; omega))).setCell (by simp; omega) _).setCell (by simp; omega) _, hgz3⟩ : EncB w ((w'.setCell ⟨g, 0, none⟩ (.int .i64 l)).setCell ⟨g, 1, none⟩ (.int .i64 b)) g true p l b)
  obtain ⟨⟨-, -⟩, y0, y1⟩ := HG.out.duo
  obtain ⟨⟨x0, x1⟩, -⟩ := HG.out.duo
  have EQ := EB.out.h0.quad.1
  clear hE q hg hg' hgz h0
  go_wp2_with fail
  obtain ⟨W2, hW2⟩ : ∃ W2, W2 = (w'.setCell ⟨g, 0, none⟩ (.int .i64 l)).setCell ⟨g, 1, none⟩ (.int .i64 b) := ⟨_, rfl⟩
  have hsz : w'.heap.size = W2.heap.size := by rw [hW2]; simp [World.setCell]
  rw [← hW2] at EB
  rw [← hW2]
  clear hsz hW2 HG y0 y1 x0 x1 EQ hd0
  have hDl : D < 18446744073709551616 := by rw [HD.out]; exact xor_lt64 hv hp
  have hDn : D ≠ 0 := by rw [HD.out]; exact h0
  obtain ⟨N1, N2, N3, N4, -⟩ := narrow_facts D hDn hDl
  obtain ⟨L, hL⟩ : ∃ L, L = leadX D := ⟨_, rfl⟩
  obtain ⟨X, hX⟩ : ∃ X, X = widX D := ⟨_, rfl⟩
  rw [← hL] at N1 N3
  rw [← hX] at N2 N3
  obtain ⟨s0, hs0⟩ : ∃ s0 : Nat, s0 = 64 - L - X := ⟨_, rfl⟩
  obtain ⟨X1, hX1⟩ : ∃ X1 : Nat, X1 = X - 1 := ⟨_, rfl⟩
  have hs0' : (64 : Int) - L - X = s0 := by omega
  obtain ⟨nn, hnn⟩ : ∃ nn : Nat, nn = D / 2 ^ s0 := ⟨_, rfl⟩
  have f3 : (D : Int) / 2 ^ s0 = (nn : Int) := by rw [nat_shr, hnn]
  have hnl : nn < 18446744073709551616 := by rw [hnn]; exact Nat.lt_of_le_of_lt (Nat.div_le_self _ _) hDl
  have j4 : min s0 64 = s0 := by omega
  have j1 : IntKind.u64.wrap (L : Int) = (L : Int) := by rw [IntKind.wrap_u64]; omega
  have j2 : IntKind.i64.wrap ((X : Int) - 1) = (X1 : Int) := by rw [IntKind.wrap_i64]; omega
  have j3 : IntKind.u64.wrap (X1 : Int) = (X1 : Int) := by rw [IntKind.wrap_u64]; omega
  have hfs : ∀ f ∈ ([(3, 2), (L, 5), (X1, 6), (nn, X)] : List (Nat × Nat)), f.1 < 18446744073709551616 ∧ f.2 ≤ 64 := by
    intro f hf
    simp at hf
    rcases hf with rfl | rfl | rfl | rfl <;> exact ⟨by omega, by omega⟩
  have HX1 := Lib.hid hX1
  have HL := Lib.hid hL
  have HX := Lib.hid hX
  have Hs0 := Lib.hid hs0
  have Hs0' := Lib.hid hs0'
  have Hnn := Lib.hid hnn
  have Hfs := Lib.hid hfs
  clear hs0 hs0' hnn hL hX N4 hX1 hfs
  have hHo := holds_any l b D W2 hlb hDl
  rw [HD.out, hh, ← HD.out] at hHo
  have b2 := EB.out.h3.duo.1
  go_wp2_with fail
  refine hHo.mono ?_
  rintro e w3 ⟨rfl, b3⟩
  have EB3 := Lib.hid (EB.out.go b3)
  clear hHo b2
  have hN := narrow_any D w3 hDn hDl (tabGo hT EB3.out.t)
  rw [← HL.out, ← HX.out] at hN
  have HN := Lib.hid hN
  clear hN hT
  go_wp2_with fail
  refine HN.out.mono ?_
  rintro e w4 ⟨rfl, b4⟩
  have EB4 := Lib.hid ((EB3.out.go b4).go (below_alloc w4 (.cells #[.int .i64 L, .int .i64 X] 50)))
  have hB8 : Blk (w4.alloc (.cells #[.int .i64 L, .int .i64 X] 50)) w4.heap.size 50 #[.int .i64 L, .int .i64 X] := Blk.new w4 _ _
  have HB8 := Lib.hid hB8
  clear hB8
  go_wp2_with fail
  obtain ⟨W5, hW5⟩ : ∃ W5, W5 = w4.alloc (.cells #[.int .i64 L, .int .i64 X] 50) := ⟨_, rfl⟩
  rw [← hW5] at EB4 HB8 ⊢
  have HW5 := Lib.hid hW5
  clear hW5
  have qq : ∀ x, (plus W5 x).cell? ⟨w4.heap.size, 0, none⟩ = some (.int .i64 L) ∧ (plus W5 x).cell? ⟨w4.heap.size, 1, none⟩ = some (.int .i64 X) := fun x => (HB8.out.below (plus_below W5 x) HB8.out.lt : Blk (plus W5 x) w4.heap.size 50 #[.int .i64 L, .int .i64 X]).duo.1
  refine wp_region_fresh_tail 21 (List.replicate 18 none ++ [some 17]) [12, 17, 18, 21] (fun k V z => if k = 12 then V = .int .i64 s0 else if k = 17 then ∃ g, V = .slice (some ⟨g, 0, none⟩) 4 4 ∧ Rw z encFd 2 (some ⟨g, 0, none⟩) [(3, 2), (L, 5), (X1, 6), (nn, X)] else ∃ A n c, V = .agg #[.slice A n c, .int .i64 ((catFd [(3, 2), (L, 5), (X1, 6), (nn, X)]).length : Nat)] ∧ n = (pack (catFd [(3, 2), (L, 5), (X1, 6), (nn, X)])).length ∧ OwnB z W5.heap.size (.slice A n c) (pack (catFd [(3, 2), (L, 5), (X1, 6), (nn, X)]))) hmx (by kernel_rfl) (by kernel_rfl) ?_
  simp only [List.take_succ_cons, List.take_zero, List.drop_succ_cons, List.drop_zero]
  iterate 12 (refine walkF_one none W5 rfl (by kernel_rfl) ?_; go_big_quiet_step (fail); refine wpQuiet_nil ?_)
  refine walkF_make none W5 rfl rfl rfl (by kernel_rfl) (fun x => ?_) ?_
  · refine grow_call ?_ ((behind_any L X (plus W5 x) (by omega) (by omega)).mono ?_)
    · simp [execOp, go_sem]
    · rintro e w6 ⟨rfl, b6⟩
      exact ⟨_, rfl, b6, by rw [if_pos (by rfl), Hs0'.out]⟩
  intro V1 z1 hV1 g1
  obtain rfl : V1 = .int .i64 s0 := hV1
  conv => arg 11; simp [Act.put]
  iterate 4 (refine walkF_one none W5 rfl (by kernel_rfl) ?_; go_big_quiet_step (fail); refine wpQuiet_nil ?_)
  refine walkF_make none W5 rfl rfl rfl (by kernel_rfl) (fun x => ?_) ?_
  · refine grow_val (v := .slice (some ⟨(plus W5 x).heap.size, 0, none⟩) 4 4) (w' := (plus W5 x).alloc (.cells #[.int .u64 3, .int .i64 2, .int .u64 L, .int .i64 5, .int .u64 X1, .int .i64 6, .int .u64 nn, .int .i64 X] 71)) ?_ (below_alloc _ _) ?_
    · simp [execOp, go_sem]
    · exact ⟨_, rfl, rw_new (Blk.new _ _ _)⟩
  intro V8 z8 hV8 g8
  obtain ⟨gs, rfl, hR8⟩ : ∃ g, V8 = .slice (some ⟨g, 0, none⟩) 4 4 ∧ Rw z8 encFd 2 (some ⟨g, 0, none⟩) [(3, 2), (L, 5), (X1, 6), (nn, X)] := hV8
  conv => arg 11; simp [Act.put]
  refine walkF_make (some 17) z8 rfl rfl rfl (by kernel_rfl) (fun x => ?_) ?_
  · refine grow_call ?_ ((numbers_any (some ⟨gs, 0, none⟩) 4 [(3, 2), (L, 5), (X1, 6), (nn, X)] (plus z8 x) (hR8.below (plus_below z8 x) (Nat.le_refl _)) Hfs.out (by simp)).mono ?_)
    · simp [execOp, go_sem]
    · rintro e w6 ⟨A4, n4, c4, rfl, hn4, o4, b6⟩
      exact ⟨_, rfl, b6, _, _, _, rfl, hn4, o4.mono (Nat.le_trans (Below.size g8) (plus_below z8 x).size)⟩
  intro V9 z9 hV9 g9
  obtain ⟨A3, n3, c3, rfl, hn3, o3⟩ : ∃ A n c, V9 = .agg #[.slice A n c, .int .i64 ((catFd [(3, 2), (L, 5), (X1, 6), (nn, X)]).length : Nat)] ∧ n = (pack (catFd [(3, 2), (L, 5), (X1, 6), (nn, X)])).length ∧ OwnB z9 W5.heap.size (.slice A n c) (pack (catFd [(3, 2), (L, 5), (X1, 6), (nn, X)])) := hV9
  conv => arg 11; simp [Act.put]
  have HM : Hid (catFd [(3, 2), (L, 5), (X1, 6), (nn, X)] = true :: true :: (valB L 5 ++ valB X1 6 ++ valB nn X)) := Lib.hid (by
    show valB 3 2 ++ (valB L 5 ++ (valB X1 6 ++ (valB nn X ++ []))) = _
    rw [List.append_nil, show valB 3 2 = [true, true] from by decide, List.append_assoc]
    rfl)
  rw [HM.out] at hn3 o3 ⊢
  generalize hMM : true :: true :: (valB L 5 ++ valB X1 6 ++ valB nn X) = MM at hn3 o3 ⊢
  have Hn3 := Lib.hid hn3
  have HMM := Lib.hid hMM
  clear hn3 hMM
  iterate 2 (refine walkF_one none W5 rfl (by kernel_rfl) ?_; go_big_quiet_step (fail); refine wpQuiet_nil ?_)
  refine walkF_end ?_
  intro w7 h5 hE
  have h95 : Gr z9 w7 := hE 18
  have EB5 := Lib.hid (EB4.out.go h5)
  have o5 := o3.below h95
  have zz5 : w.heap.size + 3 ≤ W5.heap.size := by have := EB4.out.zz; omega
  have XL : L < 256 := by omega
  have XX : X < 256 := by omega
  clear hE qq h95 o3 hR8 j1 j2 j3 j4 f3
  go_wp2_with (go_at_call 28; refine (after_any L X v _ XL XX).mono ?_; rintro e w6 ⟨rfl, b6⟩; have EB4 := Lib.hid (EB5.out.go b6); have o4 := o5.below b6; obtain ⟨⟨y0, y1⟩, x0, x1⟩ := EB4.out.h1.duo; obtain ⟨⟨m0, m1, m2, m3⟩, k0, k1, k2, k3⟩ := EB4.out.h2.quad)
  rw [← HD.out, ← HL.out, ← HX.out, ← Hs0.out, ← Hnn.out, ← HX1.out, HMM.out]
  obtain ⟨f1, f2, f3⟩ := EB4.out.fin (.slice A3 n3 c3) (.int .i64 (MM.length : Nat)) (.bool true) (.int .u64 v) (.int .u8 L) (.int .u8 X)
  obtain ⟨⟨r0, r1⟩, -⟩ := f1.duo
  obtain ⟨⟨s0, s1, s2, s3⟩, -⟩ := f2.quad
  refine bodyPost_ret (v := .tuple #[.agg #[.slice A3 n3 c3, .int .i64 (MM.length : Nat)], .agg #[.bool true, .int .u64 v, .int .u8 L, .int .u8 X]]) (by simp [results, Tryd.results21, go_sem, r0, r1, s0, s1, s2, s3]) rfl ⟨⟨A3, n3, c3, Hn3.out, rfl, ?_⟩, f3⟩
  exact o4.encFin zz5 _ _ _ _ _ _

end Go.Proofs.YtfooggamdbdniaaDoor
