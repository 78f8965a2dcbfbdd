/- Joined: Bk39, Bk41, Bk42, Bk43. -/
import Derived.Test.YtmcdollkmlcpbaaGreatDoorQ42
import Derived.Test.YtmcdollkmlcpbaaGreatDoorQ40
import Derived.Test.YtmcdollkmlcpbaaGreatDoorQ43
import Derived.Test.YtmcdollkmlcpbaaGreatDoorQ15
import Derived.Test.YtmcdollkmlcpbaaGreatDoorQ11
set_option linter.unusedSimpArgs false
set_option linter.unusedVariables false
set_option linter.unusedSimpArgs false
set_option linter.unusedVariables false
namespace Go.Proofs.YtmcdollkmlcpbaaGreatDoor
open Go.RowKit
set_option maxRecDepth 100000
abbrev encVal (e : EC) : Value := .agg #[.int .i64 e.n, .int .i64 e.last, .int .i64 e.delta, .bool e.val.has, .int .u64 (e.val.prev : Nat), .int .u8 (e.val.lead : Nat), .int .u8 (e.val.width : Nat)]
def FitO (w : World) (r : Nat × List Sm) (a : Nat) (e : Ending) (w' : World) : Prop := Below w.heap.size w w' ∧
 (r.1 ≠ 0 → e = .returned (.tuple #[.agg #[.slice none 0 0, .int .i64 0, .slice none 0 0, .int .i64 0], .agg #[.int .i64 0, .int .i64 0, .int .i64 0, .bool false, .int .u64 0, .int .u8 0, .int .u8 0], .int .u16 (r.1 : Nat)])) ∧
 (r.1 = 0 → ∃ A' c' E' ec h, e = .returned (.tuple #[.agg #[.slice A' (pack (bitsL r.2)).length c', .int .i64 ((bitsL r.2).length : Nat), .slice E' r.2.length ec, .int .i64 (a : Nat)], encVal (lastC ec0 r.2), .int .u16 0]) ∧
  w.heap.size ≤ h ∧ OwnB w' w.heap.size (.slice A' (pack (bitsL r.2)).length c') (pack (bitsL r.2)) ∧ (∀ k, (Value.slice A' (pack (bitsL r.2)).length c').ownBlock = some k → k < h) ∧ OwnR w' h 3 encI 1 (.slice E' r.2.length ec) (endsI r.2))
def fitW (w : World) (f : FrD) (A : Option Addr) (c : Nat) : World := ((w.alloc (.cells (frC f A c) 39)).alloc (.cells #[.slice none 0 0, .int .i64 0, .slice none 0 0, .int .i64 0] 95)).alloc (.cells #[.int .i64 0, .int .i64 0, .int .i64 0, .bool false, .int .u64 0, .int .u8 0, .int .u8 0] 88)
theorem fit_sep (w : World) (f : FrD) (A : Option Addr) (c : Nat) : Sep w.heap.size w (fitW w f A c) [thB (w.heap.size + 1 + 1) 88 #[.int .i64 0, .int .i64 0, .int .i64 0, .bool false, .int .u64 0, .int .u8 0, .int .u8 0], thB (w.heap.size + 1) 95 #[.slice none 0 0, .int .i64 0, .slice none 0 0, .int .i64 0], thB w.heap.size 39 (frC f A c)] := by
 have h := (((Sep.nil (Below.refl w.heap.size w) (Nat.le_refl _)).box (frC f A c) 39).box #[.slice none 0 0, .int .i64 0, .slice none 0 0, .int .i64 0] 95).box #[.int .i64 0, .int .i64 0, .int .i64 0, .bool false, .int .u64 0, .int .u8 0, .int .u8 0] 88
 simp only [World.size_alloc] at h
 exact h
theorem rcS_ends (S : List Sm) : (rcS 0 ec0 S).map (·.nd) = endsI S := by
 refine List.ext_getElem? fun j => ?_
 by_cases h : j < S.length
 ·rw [rcS_nd S 0 ec0 j h, endsI_get h, Nat.zero_add]
  rfl
 ·rw [List.getElem?_eq_none (by rw [List.length_map, rcS_length]; omega), List.getElem?_eq_none (by rw [endsI_len]; omega)]
theorem OwnR.raise {w : World} {α : Type} {base B : Nat} {e : TypeId} {enc : α → List Value} {sz : Nat} {v : Value} {l : List α} (h : OwnR w base e enc sz v l) (hB : ∀ k, v.ownBlock = some k → B ≤ k) : OwnR w B e enc sz v l := by
 refine ⟨h.1, ?_⟩
 rcases h.2 with hn | ⟨g, cap, cur, rfl, hbg, rest⟩
 ·exact .inl hn
 ·exact .inr ⟨g, cap, cur, rfl, hB g rfl, rest⟩
theorem OwnB.raise {w : World} {base B : Nat} {v : Value} {l : List UInt8} (h : OwnB w base v l) (hB : ∀ k, v.ownBlock = some k → B ≤ k) : OwnB w B v l := by
 refine ⟨h.1, ?_⟩
 rcases h.2 with hn | ⟨g, cap, cur, rfl, hbg, rest⟩
 ·exact .inl hn
 ·exact .inr ⟨g, cap, cur, rfl, hB g rfl, rest⟩
theorem bsl_pair {w : World} {t : TypeId} {A B : Option Addr} {c d i : Nat} {l m : List UInt8} {j : Int} (ha : Bs w A l) (hb : Bs w B m) (hi : i ≤ 9223372036854775807) (hj : -9223372036854775808 ≤ j ∧ j ≤ 9223372036854775807) :
  BsL (w.alloc (.cells #[.slice A l.length c, .int .i64 (i : Nat), .slice B m.length d, .int .i64 j] t)) (some ⟨w.heap.size, 0, none⟩) [(l, ((i : Nat) : Int)), (m, j)] := fun k e he => by
 match k, he with
 | 0, he => simp at he; subst he; exact ⟨_, 0, A, c, rfl, box_cell _ _ _ _ _ rfl, box_cell _ _ _ _ _ rfl, ha.up, by simp; omega⟩
 | 1, he => simp at he; subst he; exact ⟨_, 0, B, d, rfl, box_cell _ _ _ _ _ rfl, box_cell _ _ _ _ _ rfl, hb.up, hj⟩
set_option maxHeartbeats 16000000 in
theorem bfitted_any {w : World} {X : Bl} (h : RdK w X) (ok : OkB X) (hT : Tab w) (f : FrD) (hf : f.ok) (A : Option Addr) (c : Nat) (hb : Bs w A f.l) (hl : f.l.length ≤ 1000) :
  Calls Tryz.prog 52 #[prB X, .agg (frC f A c)] w (FitO w (fitD X.D f) (totC (X.D.at_ f.se).dropLast)) := by
 have hmx : Tryz.prog.follows .mixedOrders = true := by kernel_rfl
 obtain ⟨W, hW⟩ : ∃ W, W = fitW w f A c := ⟨_, rfl⟩
 have hS := fit_sep w f A c
 obtain ⟨g3, hg3⟩ : ∃ g, g = w.heap.size := ⟨_, rfl⟩
 obtain ⟨g4, hg4⟩ : ∃ g, g = w.heap.size + 1 := ⟨_, rfl⟩
 obtain ⟨g5, hg5⟩ : ∃ g, g = w.heap.size + 1 + 1 := ⟨_, rfl⟩
 rw [← hW] at hS
 obtain ⟨kd, ep, se, fc, fb, fn, cn, cl, sm, fl, nn⟩ := f
 have hse : se < 4294967296 := hf.2.2.1
 have HN := Lib.hid (bser_any (h.below hS.b) ok se hse)
 have HFu := Lib.hid (fun (V : World) (hV : Below w.heap.size w V) => bfull_K (h.below hV) ok se hse)
 have hoc := ok.D.at_ se
 obtain ⟨C, hC⟩ : ∃ C, C = X.D.at_ se := ⟨_, rfl⟩
 have hfit : fitD X.D ⟨kd, ep, se, fc, fb, fn, cn, cl, sm, fl, nn⟩ = if fullD X.D se = true then (121, []) else fitC C X.D.ch ⟨kd, ep, se, fc, fb, fn, cn, cl, sm, fl, nn⟩ := by unfold fitD; rw [hC]
 rw [hfit]
 show Calls _ _ _ _ (FitO w _ (totC (X.D.at_ se).dropLast))
 rw [← hC] at HN hoc ⊢
 have hFu2 : ∀ V, Below w.heap.size w V → Calls Tryz.prog 54 #[prB X, .int .u32 (se : Nat)] V fun e w' => e = .returned (.bool (fullD X.D se)) ∧ Below V.heap.size V w' := HFu.out
 replace HFu := Lib.hid hFu2
 obtain ⟨fu, hfu⟩ : ∃ b, b = fullD X.D se := ⟨_, rfl⟩
 rw [← hfu] at HFu ⊢
 obtain ⟨ch, hch⟩ : ∃ n, n = X.D.ch := ⟨_, rfl⟩
 rw [← hch]
 have hcb : X.ch = ch := by rw [hch]; rfl
 have hch2 : ch ≤ 24 := by rw [hch]; exact ok.D.ch2
 have HQ := Lib.hid (fun (V : World) (hV : Below w.heap.size w V) => (h.below hV).blk)
 have HD := Lib.hid (And.intro hoc (And.intro hT (And.intro hb (And.intro hl (And.intro hf hcb)))))
 unfold fitW at hW
 rw [← hg5, ← hg4, ← hg3] at hS
 have HS := Lib.hid hS
 have HG3 := Lib.hid hg3
 have q34 : g3 < g4 := by omega
 have q45 : g4 < g5 := by omega
 clear h ok hS hFu2 hfu hoc hC hfit hT hb hl hf hch hcb
 obtain ⟨r, hr⟩ : ∃ r, r = if fu = true then (121, []) else fitC C ch ⟨kd, ep, se, fc, fb, fn, cn, cl, sm, fl, nn⟩ := ⟨_, rfl⟩
 rw [← hr]
 have HRr := Lib.hid hr
 clear hr
 simp only [frC] at hW ⊢
 go_enter Tryz.func52, Tryz.ntmps52
 go_upto_region 1 with fail
 rw [← hW, ← hg5, ← hg4, ← hg3]
 clear hW hg5 hg4 hg3
 have C0 := cells_say (HS.out.blk 2) _ 0 rfl
 simp only [cellsSay, frC, List.drop_zero, Nat.reduceAdd, and_true] at C0
 go_upto_region 2 with (go_at_call 29; refine HN.out.mono ?_; rintro e w2 ⟨s, rfl, hR, b2⟩)
 replace HS := Lib.hid (HS.out.go b2)
 have HR := Lib.hid hR
 clear C0 hR b2 HN
 obtain ⟨q, hq, hqL⟩ := HR.out.last
 have hq' : s.ps[s.ps.length - 1]? = some q := by rw [← List.getLast?_eq_getElem?]; exact hq
 have hqm := List.mem_of_getElem? hq'
 obtain ⟨gp, hCC⟩ := HR.out.rd.cells4 HR.out.ok.pn hq'
 have HL := Lib.hid (fun (y : More) => (blast_any (HR.out.rd.below (plus_below w2 y)) HR.out.ok.pn HR.out.ne HR.out.few).mono (fun e w' ⟨he, hw⟩ => (⟨he, by rw [hw]; exact Below.refl _ _⟩ : e = Ending.returned (.int .i64 ((s.ps.length - 1 : Nat) : Int)) ∧ Below (plus w2 y).heap.size (plus w2 y) w')))
 obtain ⟨n, hn⟩ : ∃ n, n = s.ps.length := ⟨_, rfl⟩
 obtain ⟨m, hm⟩ : ∃ m, m = n - 1 := ⟨_, rfl⟩
 rw [← hn, ← hm] at hCC HL
 have hmn : m < n := by have := List.length_pos_iff.2 HR.out.ne; omega
 have hn2 : n ≤ 1000000 := by rw [hn]; exact HR.out.few
 obtain ⟨qa, hqa⟩ : ∃ a, a = pack (bitsL q.L) := ⟨_, rfl⟩
 obtain ⟨qn, hqn⟩ : ∃ a, a = (bitsL q.L).length := ⟨_, rfl⟩
 rw [← hqa, ← hqn] at hCC
 have hah : q.ah = totC C.dropLast := by
  have h1 := HR.out.ok.ah _ q hq'
  rw [HR.out.cs, HR.out.len, ← List.dropLast_eq_take] at h1
  exact h1
 have HI := Lib.hid (And.intro hn (And.intro hm (And.intro hq' (And.intro hqL (And.intro hqa (And.intro hqn hah))))))
 have C0 := fun y => (hCC y).1
 have C1 := fun y => (hCC y).2.1
 have C2 := fun y => (hCC y).2.2.1
 have C3 := fun y => (hCC y).2.2.2.1
 have C4 := fun y => (hCC y).2.2.2.2
 clear hCC hn hm hq hq' hqL hqn hqa hqm hah
 refine wp_region_fresh_tail 9 [] [1, 5, 6, 8] (fun k V z => if k = 1 then V = .pointer (some ⟨s.g, 0, none⟩) else if k = 5 then V = .int .i64 (m : Nat) else if k = 6 then V = .pointer (some ⟨gp, m * 4, none⟩) else ∃ g, V = .pointer (some ⟨g, 0, none⟩) ∧ Blk z g 95 #[.slice none 0 0, .int .i64 0, .slice none 0 0, .int .i64 0] ∧ w2.heap.size ≤ g) hmx (by kernel_rfl) (by kernel_rfl) ?_
 simp only [List.take_succ_cons, List.take_zero, List.drop_succ_cons, List.drop_zero]
 refine walkF_one none w2 rfl (by kernel_rfl) ?_; go_big_quiet_step (fail); refine wpQuiet_nil ?_
 refine walkF_make none w2 rfl rfl rfl (by kernel_rfl) (fun y => ?_) ?_
 ·refine grow_val (v := .pointer (some ⟨s.g, 0, none⟩)) (w' := plus w2 y) ?_ (Below.refl _ _) ?_
  ·simp [execOp, go_sem]
  ·exact rfl
 intro V1 z1 hV1 g1
 obtain rfl : V1 = .pointer (some ⟨s.g, 0, none⟩) := hV1
 conv => arg 11; simp [Act.put]
 iterate 3 (refine walkF_one none w2 rfl (by kernel_rfl) ?_; go_big_quiet_step (fail); refine wpQuiet_nil ?_)
 refine walkF_make none w2 rfl rfl rfl (by kernel_rfl) (fun y => ?_) ?_
 ·refine grow_call ?_ ((HL.out y).mono ?_)
  ·simp [execOp, go_sem]
  ·rintro e w4 ⟨rfl, b4⟩
   exact ⟨_, rfl, b4, rfl⟩
 intro V5 z5 hV5 g5
 obtain rfl : V5 = .int .i64 (m : Nat) := hV5
 conv => arg 11; simp [Act.put]
 refine walkF_make none w2 rfl rfl rfl (by kernel_rfl) (fun y => ?_) ?_
 ·refine grow_val (v := .pointer (some ⟨gp, m * 4, none⟩)) (w' := plus w2 y) ?_ (Below.refl _ _) ?_
  ·have k1 : (m : Int) < (n : Int) := by omega
   simp [execOp, go_sem, k1]
  ·exact rfl
 intro V6 z6 hV6 g6
 obtain rfl : V6 = .pointer (some ⟨gp, m * 4, none⟩) := hV6
 conv => arg 11; simp [Act.put]
 refine walkF_one none w2 rfl (by kernel_rfl) ?_; go_big_quiet_step (fail); refine wpQuiet_nil ?_
 refine walkF_make none w2 rfl rfl rfl (by kernel_rfl) (fun y => ?_) ?_
 ·have hr : ∀ w' : World, (execOp (Act.eval { tmps := #[], defers := [] }) { dst := none, op := .alloc 95, type := 0, pos := "", after := #[], guard := none }).run Tryz.prog w' = .ok (.value (.pointer (some ⟨w'.heap.size, 0, none⟩))) (w'.alloc (.cells #[.slice none 0 0, .int .i64 0, .slice none 0 0, .int .i64 0] 95)) := fun w' => by simp [execOp, go_sem]
  have hr2 := hr (plus w2 y)
  unfold growUpon
  simp only [execOp] at hr2 ⊢
  rw [hr2]
  exact ⟨below_alloc _ _, _, rfl, Blk.new _ _ _, (plus_below w2 y).size⟩
 intro V8 z8 hV8 g8
 obtain ⟨gl, rfl, b8, s8⟩ : ∃ g, V8 = .pointer (some ⟨g, 0, none⟩) ∧ Blk z8 g 95 #[.slice none 0 0, .int .i64 0, .slice none 0 0, .int .i64 0] ∧ w2.heap.size ≤ g := hV8
 conv => arg 11; simp [Act.put]
 refine walkF_end ?_
 intro V h0 hE
 have b9 : Blk V gl 95 #[.slice none 0 0, .int .i64 0, .slice none 0 0, .int .i64 0] := b8.below (hE 8) b8.lt
 clear hE g1 g5 g6 g8 b8
 clear C0 C1 C2 C3 C4 HL
 have b9s : cellsSay V gl 0 [.slice none 0 0, .int .i64 0, .slice none 0 0, .int .i64 0] := cells_say b9 _ 0 rfl
 simp only [cellsSay, Nat.reduceAdd, and_true] at b9s
 go_upto_region 3 with fail
 generalize hV5 : World.setCell _ _ _ = V5
 have b10 : Blk V5 gl 95 #[.slice q.A qa.length q.c, .int .i64 (qn : Nat), .slice q.E q.L.length q.ec, .int .i64 (q.ah : Nat)] := by rw [← hV5]; exact b9.sets [(0, .slice q.A qa.length q.c), (1, .int .i64 (qn : Nat)), (2, .slice q.E q.L.length q.ec), (3, .int .i64 (q.ah : Nat))]
 have k5 : Below w2.heap.size w2 V5 := by rw [← hV5]; exact (((h0.setCell s8 _).setCell s8 _).setCell s8 _).setCell s8 _
 have q5l : g5 < gl := Nat.lt_of_lt_of_le (HS.out.blk 0).lt s8
 have hS5 := HS.out.cons (t := thB gl 95 #[.slice q.A qa.length q.c, .int .i64 (qn : Nat), .slice q.E q.L.length q.ec, .int .i64 (q.ah : Nat)]) k5 b10 (fun k e => by rw [e]; exact s8)
 have HR5 := Lib.hid (HR.out.below k5)
 clear HR
 obtain ⟨ql, hql⟩ : ∃ x, x = q.L.length := ⟨_, rfl⟩
 obtain ⟨qla, hqla⟩ : ∃ x, x = qa.length := ⟨_, rfl⟩
 rw [← hql, ← hqla] at hS5
 have HQL := Lib.hid (And.intro hql hqla)
 replace HS := Lib.hid hS5
 clear hV5 b9s b9 h0 b10 k5 hS5 hql hqla
 go_upto_region 4 with fail
 have hS6 := HS.out.box #[.slice none 0 0, .int .i64 0] 33
 generalize hV6 : World.alloc _ _ = V6 at hS6 ⊢
 obtain ⟨g9, hg9⟩ : ∃ g, g = V5.heap.size := ⟨_, rfl⟩
 rw [← hg9] at hS6 ⊢
 have b56 : Below V5.heap.size V5 V6 := by rw [← hV6]; exact below_alloc _ _
 have HB5 := Lib.hid b56
 have q9 : V5.heap.size ≤ g9 := by omega
 replace HS := Lib.hid hS6
 clear hV6 hg9 b56 hS6
 have C0 := cells_say (HS.out.blk 4) _ 0 rfl
 simp only [cellsSay, frC, List.drop_zero, Nat.reduceAdd, and_true] at C0
 cases fu
 rotate_left
 ·go_upto_region 5 with (go_at_call 54; refine (HFu.out _ (by have := HS.out.b; rw [HG3.out] at this; exact this)).mono ?_; rintro e w7 ⟨rfl, b7⟩)
  replace HS := Lib.hid (HS.out.go b7)
  clear C0 b7
  have C4 := cells_say (HS.out.blk 3) _ 0 rfl
  have C5 := cells_say (HS.out.blk 2) _ 0 rfl
  simp only [cellsSay, List.drop_zero, Nat.reduceAdd, and_true] at C4 C5
  go_wp2_with fail
  have hr2 : r = (121, []) := HRr.out
  generalize hWx : World.setCell _ _ _ = Wx
  have hSx := (HS.out.put 3 g4 [(0, .slice none 0 0), (1, .int .i64 0), (2, .slice none 0 0), (3, .int .i64 0)] #[.slice none 0 0, .int .i64 0, .slice none 0 0, .int .i64 0] rfl).put 2 g5 [(0, .int .i64 0), (1, .int .i64 0), (2, .int .i64 0), (3, .bool false), (4, .int .u64 0), (5, .int .u8 0), (6, .int .u8 0)] #[.int .i64 0, .int .i64 0, .int .i64 0, .bool false, .int .u64 0, .int .u8 0, .int .u8 0] hWx
  simp only [List.set] at hSx
  have D4 := cells_say (hSx.blk 3) _ 0 rfl
  have D5 := cells_say (hSx.blk 2) _ 0 rfl
  simp only [cellsSay, List.drop_zero, Nat.reduceAdd, and_true] at D4 D5
  exact bodyPost_ret (v := .tuple #[.agg #[.slice none 0 0, .int .i64 0, .slice none 0 0, .int .i64 0], .agg #[.int .i64 0, .int .i64 0, .int .i64 0, .bool false, .int .u64 0, .int .u8 0, .int .u8 0], .int .u16 121]) (by simp [results, Tryz.results52, go_sem, D4, D5]) rfl (by rw [hr2]; exact ⟨by have := hSx.b; rw [HG3.out] at this; exact this, fun _ => rfl, fun h0 => by cases h0⟩)
 go_upto_region 6 with (go_at_call 54; refine (HFu.out _ (by have := HS.out.b; rw [HG3.out] at this; exact this)).mono ?_; rintro e w7 ⟨rfl, b7⟩)
 replace HS := Lib.hid (HS.out.go b7)
 replace HB5 := Lib.hid (HB5.out.trans (b7.mono HB5.out.size))
 have HR := Lib.hid (HR5.out.below HB5.out)
 clear C0 b7
 have C3 : ∀ y : More, cellsSay (plus w7 y) g3 0 (frC ⟨kd, ep, se, fc, fb, fn, cn, cl, sm, fl, nn⟩ A c).toList := fun y => cells_say ((HS.out.go (plus_below w7 y)).blk 4) _ 0 rfl
 simp only [cellsSay, frC, Nat.reduceAdd, and_true] at C3
 obtain ⟨⟨e1, e2, e3⟩, hee⟩ : ∃ E, E = endC C := ⟨_, rfl⟩
 have hqlast : s.ps.getLast? = some q := by rw [List.getLast?_eq_getElem?]; exact HI.out.2.2.1
 have hqm := List.mem_of_getLast? hqlast
 have hE := fun (y : More) => ext_of (bend_any (HR.out.rd.below (plus_below w7 y)) hqlast HR.out.ok.pn HR.out.few (HR.out.each q hqm).1 (HR.out.each q hqm).2)
 have hpe : (s.ps.length - 1, endN q.L q.L.length, q.L.length) = (e1, e2, e3) := by
  rw [hee, HI.out.2.2.2.1, HR.out.len]
  rfl
 injection hpe with p1 p23
 injection p23 with p2 p3
 rw [p1, p2, p3] at hE
 have HE := Lib.hid hE
 have HEE := Lib.hid hee
 clear hE hqm hqlast p1 p2 p3 hee
 by_cases he : (fc, fb, fn) = (e1, e2, e3)
 ·have hQ2 : ∀ w, (binOp .eql 36 (.agg #[.int .u32 (fc : Nat), .int .u32 (fb : Nat), .int .u32 (fn : Nat)]) (.agg #[.int .u32 (e1 : Nat), .int .u32 (e2 : Nat), .int .u32 (e3 : Nat)])).run Tryz.prog w = .ok (.bool true) w := fun w => by rw [eqPlB_run, decide_eq_true he]
  have HHe := Lib.hid he
  clear he
  refine wp_region_ext (by kernel_rfl) (by kernel_rfl) ?_
  repeat (go_big_quiet_step ((go_at_call 37; exact HE.out _)))
  refine wpQuiet_nil ?_
  rintro w8 ⟨y, hw8⟩
  replace HS := Lib.hid (HS.out.go (show Below w7.heap.size w7 w8 by rw [hw8]; exact plus_below w7 y))
  replace HB5 := Lib.hid (HB5.out.trans ((show Below w7.heap.size w7 w8 by rw [hw8]; exact plus_below w7 y).mono HB5.out.size))
  clear HR
  clear C3 hQ2 hw8 HE
  have D1 := cells_say (HS.out.blk 0) _ 0 rfl
  have D2 := cells_say (HS.out.blk 1) _ 0 rfl
  simp only [cellsSay, List.drop_zero, Nat.reduceAdd, and_true] at D1 D2
  go_upto_region 10 with fail
  generalize hW9 : World.setCell _ _ _ = W9
  have hS9 := HS.out.put 0 g9 [(0, .slice q.A qla q.c), (1, .int .i64 (qn : Nat))] #[.slice q.A qla q.c, .int .i64 (qn : Nat)] hW9
  simp only [List.set] at hS9
  have b9 : Below V5.heap.size V5 W9 := by rw [← hW9]; exact (HB5.out.setCell q9 _).setCell q9 _
  clear HB5
  have HB5 := Lib.hid b9
  obtain ⟨OA, hOA⟩ : ∃ x, x = q.A := ⟨_, rfl⟩
  obtain ⟨oc, hoc⟩ : ∃ x, x = q.c := ⟨_, rfl⟩
  obtain ⟨ob, hob⟩ : ∃ x, x = bitsL q.L := ⟨_, rfl⟩
  have hqm := List.mem_of_getElem? HI.out.2.2.1
  have HO : Hid (r = fitJ C ch ⟨kd, ep, se, fc, fb, fn, cn, cl, sm, fl, nn⟩ ob ∧ qla = (pack ob).length ∧ qn = ob.length ∧ ob.length ≤ 146000 ∧ Bs W9 OA (pack ob)) := Lib.hid ⟨by
   rw [HRr.out, if_neg (by decide)]
   unfold fitC oldC
   rw [if_pos (by rw [← HEE.out]; exact HHe.out), hob, HI.out.2.2.2.1], by rw [HQL.out.2, HI.out.2.2.2.2.1, hob], by rw [HI.out.2.2.2.2.2.1, hob], by
   rw [hob]; exact bits_small (HR5.out.each q hqm).1 (HR5.out.each q hqm).2, by rw [hob, hOA]; exact ((HR5.out.rd.bits q hqm).below b9).bs⟩
  rw [← hOA, ← hoc] at hS9
  clear HS
  have HS := Lib.hid hS9
  obtain ⟨ol, hol⟩ : ∃ x, x = qla := ⟨_, rfl⟩
  obtain ⟨on, hon⟩ : ∃ x, x = qn := ⟨_, rfl⟩
  rw [← hol, ← hon] at HO HS
  clear D1 D2 hW9 hS9 b9 hOA hoc hob hqm hol hon
  have C9 := cells_say (HS.out.blk 0) _ 0 rfl
  have C3 := cells_say (HS.out.blk 4) _ 0 rfl
  simp only [cellsSay, frC, List.drop_zero, Nat.reduceAdd, and_true] at C9 C3
  have bJ : Below W9.heap.size W9 (W9.alloc (.cells #[.slice OA ol oc, .int .i64 (on : Nat), .slice A fl.length c, .int .i64 nn] 33)) := below_alloc _ _
  have hbf := HD.out.2.2.1.below (HS.out.b.mono (Nat.le_of_eq HG3.out.symm))
  have hnn : -9223372036854775808 ≤ nn ∧ nn ≤ 9223372036854775807 := ⟨HD.out.2.2.2.2.1.2.2.2.2.2.2.2.2.1, HD.out.2.2.2.2.1.2.2.2.2.2.2.2.2.2⟩
  have hJ := join_any (some ⟨W9.heap.size, 0, none⟩) 2 [(pack ob, ((on : Nat) : Int)), (fl, nn)] (W9.alloc (.cells #[.slice OA ol oc, .int .i64 (on : Nat), .slice A fl.length c, .int .i64 nn] 33)) (by rw [HO.out.2.1]; exact bsl_pair HO.out.2.2.2.2 hbf (by have := HO.out.2.2.1; have := HO.out.2.2.2.1; omega) hnn) (by show 2 ≤ 1000; decide) (fun e he => by
   simp only [List.mem_cons, List.not_mem_nil, or_false] at he
   rcases he with rfl | rfl
   ·have h1 := HO.out.2.2.2.1
    show (pack ob).length ≤ _
    rw [pack_length]; unfold nb; omega
   ·have := HD.out.2.2.2.1
    show fl.length ≤ _
    omega)
  have HJ : Hid (Calls Tryz.prog 67 #[.slice (some ⟨W9.heap.size, 0, none⟩) 2 2] _ _) := Lib.hid hJ
  clear hJ bJ hbf hnn
  cases hsd : soundB fl nn
  ·have hjs : joinSpec [(pack ob, ((on : Nat) : Int)), (fl, nn)] = ([], 0, 11) := by
    unfold joinSpec soundE
    simp [hsd]
   rw [hjs] at HJ
   have HR6 := Lib.hid (show r = (61, []) by rw [HO.out.1]; unfold fitJ; rw [if_pos hsd])
   clear hjs hsd
   go_upto_region 11 with (go_at_call 67; refine HJ.out.mono ?_; rintro e w10 ⟨A10, c10, rfl, o10, b10⟩)
   have hS10 := ((HS.out.go ((below_alloc W9 (.cells #[.slice OA ol oc, .int .i64 (on : Nat), .slice A fl.length c, .int .i64 nn] 33)).trans (b10.mono (below_alloc _ _).size)))).box #[.slice A10 0 c10, .int .i64 0] 33
   generalize hV10 : World.alloc _ _ = V10 at hS10 ⊢
   clear HS
   have HS := Lib.hid hS10
   clear hV10 hS10 b10 o10 C9 C3 HJ
   have C4 := cells_say (HS.out.blk 4) _ 0 rfl
   have C5 := cells_say (HS.out.blk 3) _ 0 rfl
   simp only [cellsSay, List.drop_zero, Nat.reduceAdd, and_true] at C4 C5
   go_wp2_with fail
   have hr2 : r = (61, []) := HR6.out
   generalize hWx : World.setCell _ _ _ = Wx
   have hSx := (HS.out.put 4 g4 [(0, .slice none 0 0), (1, .int .i64 0), (2, .slice none 0 0), (3, .int .i64 0)] #[.slice none 0 0, .int .i64 0, .slice none 0 0, .int .i64 0] rfl).put 3 g5 [(0, .int .i64 0), (1, .int .i64 0), (2, .int .i64 0), (3, .bool false), (4, .int .u64 0), (5, .int .u8 0), (6, .int .u8 0)] #[.int .i64 0, .int .i64 0, .int .i64 0, .bool false, .int .u64 0, .int .u8 0, .int .u8 0] hWx
   simp only [List.set] at hSx
   have D4 := cells_say (hSx.blk 4) _ 0 rfl
   have D5 := cells_say (hSx.blk 3) _ 0 rfl
   simp only [cellsSay, List.drop_zero, Nat.reduceAdd, and_true] at D4 D5
   exact bodyPost_ret (v := .tuple #[.agg #[.slice none 0 0, .int .i64 0, .slice none 0 0, .int .i64 0], .agg #[.int .i64 0, .int .i64 0, .int .i64 0, .bool false, .int .u64 0, .int .u8 0, .int .u8 0], .int .u16 61]) (by simp [results, Tryz.results52, go_sem, D4, D5]) rfl (by rw [hr2]; exact ⟨by have := hSx.b; rw [HG3.out] at this; exact this, fun _ => rfl, fun h0 => by cases h0⟩)
  ·have hcat : catE [(pack ob, ((on : Nat) : Int)), (fl, nn)] = ob ++ bitl fl nn.toNat := by
    unfold catE
    simp only [List.flatMap_cons, List.flatMap_nil, List.append_nil, Int.toNat_natCast]
    rw [HO.out.2.2.1, bits_pack]
   have hjs : joinSpec [(pack ob, ((on : Nat) : Int)), (fl, nn)] = (pack (ob ++ bitl fl nn.toNat), (ob ++ bitl fl nn.toNat).length, 0) := by
    unfold joinSpec
    rw [if_pos (by unfold soundE; rw [HO.out.2.2.1]; simp [sound_pack, hsd]), hcat]
   rw [hjs] at HJ
   obtain ⟨bs, hbs⟩ : ∃ b, b = ob ++ bitl fl nn.toNat := ⟨_, rfl⟩
   rw [← hbs] at HJ
   have hbl : bs.length ≤ 160000 := by
    obtain ⟨nm, hnm, hn8, -⟩ := sound_nat hsd
    have h1 := HO.out.2.2.2.1
    have h2 := HD.out.2.2.2.1
    rw [hbs, List.length_append, bitl_length, hnm, Int.toNat_natCast]
    replace h2 : fl.length ≤ 1000 := h2
    omega
   have HBS : Hid (bs.length ≤ 160000 ∧ (pack bs).length ≤ 100000 ∧ r = fitR C ch ⟨kd, ep, se, fc, fb, fn, cn, cl, sm, fl, nn⟩ (allC (pack bs) ((bs.length : Nat) : Int)) ∧ (r.1 = 0 → FitS C ch bs r.2)) := Lib.hid (by
    have hp : (pack bs).length ≤ 100000 := by rw [pack_length]; unfold nb; omega
    have hr : r = fitR C ch ⟨kd, ep, se, fc, fb, fn, cn, cl, sm, fl, nn⟩ (allC (pack bs) ((bs.length : Nat) : Int)) := by
     rw [HO.out.1]
     unfold fitJ
     rw [if_neg (by show ¬ soundB fl nn = false; rw [hsd]; decide), ← hbs]
    exact ⟨hbl, hp, hr, fun h0 => by rw [hr] at h0 ⊢; exact fit_S hp h0⟩)
   obtain ⟨bl, hbln⟩ : ∃ x, x = bs.length := ⟨_, rfl⟩
   obtain ⟨pl, hpln⟩ : ∃ x, x = (pack bs).length := ⟨_, rfl⟩
   rw [← hbln] at HJ
   rw [← hpln] at HJ
   have HBL := Lib.hid (And.intro hbln hpln)
   clear hcat hjs hbs hbl hsd hbln hpln
   go_upto_region 11 with (go_at_call 67; refine HJ.out.mono ?_; rintro e w10 ⟨A10, c10, rfl, o10, b10⟩)
   have hb10 := (below_alloc W9 (.cells #[.slice OA ol oc, .int .i64 (on : Nat), .slice A fl.length c, .int .i64 nn] 33)).trans (b10.mono (below_alloc _ _).size)
   have hS10 := ((HS.out.cons (t := thO (.slice A10 pl c10) (pack bs)) hb10 (o10.mono (Nat.zero_le _)) (fun k hk => by
    have h1 := (World.ownsRow.lt o10 k hk).1
    rw [World.size_alloc] at h1
    omega))).box #[.slice A10 pl c10, .int .i64 (bl : Nat)] 33
   have b10w : Below W9.heap.size W9 (w10.alloc (.cells #[.slice A10 pl c10, .int .i64 (bl : Nat)] 33)) := hb10.trans ((below_alloc _ _).mono hb10.size)
   have o10' := o10.alloc (.cells #[.slice A10 pl c10, .int .i64 (bl : Nat)] 33)
   obtain ⟨g10, hg10⟩ : ∃ g, g = w10.heap.size := ⟨_, rfl⟩
   have q510 : g5 < g10 := by rw [hg10]; exact ((HS.out.go hb10).blk 2).lt
   rw [← hg10] at hS10 ⊢
   generalize hV10 : World.alloc _ _ = V10 at hS10 b10w o10' ⊢
   clear HS
   have HS := Lib.hid hS10
   replace HB5 := Lib.hid (HB5.out.trans (b10w.mono HB5.out.size))
   have HO10 := Lib.hid (And.intro (o10'.mono (show W9.heap.size ≤ _ by rw [World.size_alloc]; omega)) b10w)
   obtain ⟨R, hR⟩ : ∃ R, R = allC (pack bs) ((bs.length : Nat) : Int) := ⟨_, rfl⟩
   have hA10 := (HS.out.own 1).bs
   have hTV : Tab V10 := tabGo HD.out.2.1 (by have := HS.out.b; rw [HG3.out] at this; exact this)
   have hAl := call_any A10 c10 (pack bs) ((bs.length : Nat) : Int) V10 hA10 (by have := HBS.out.1; unfold in64; omega) HBS.out.2.1 hTV
   rw [← hR, ← HBL.out.1, ← HBL.out.2] at hAl
   obtain ⟨S, hSd⟩ : ∃ S, S = R.1.map smpR := ⟨_, rfl⟩
   obtain ⟨⟨en, el, ed, ⟨eh, ev, eL, eX⟩⟩, hE0⟩ : ∃ E, E = lastE R.1 := ⟨_, rfl⟩
   obtain ⟨cd, hcd⟩ : ∃ x, x = R.2 := ⟨_, rfl⟩
   rw [← hE0, ← hSd, ← hcd] at hAl
   dsimp only at hAl
   have HAl := Lib.hid hAl
   have HRR := Lib.hid (And.intro hR (And.intro hcd hE0))
   have HSd := Lib.hid hSd
   clear hV10 hS10 b10 o10 o10' b10w hb10 C9 C3 HJ hg10 hR hA10 hTV hAl hSd hE0 hcd
   have C10 := cells_say (HS.out.blk 0) _ 0 rfl
   simp only [cellsSay, List.drop_zero, Nat.reduceAdd, and_true] at C10
   go_upto_region 14 with (go_at_call 30; refine HAl.out.mono ?_; rintro e w13 ⟨v, rfl, o13, b13⟩; obtain ⟨U, un, rfl, -, h13⟩ := o13.row Tryz.eltS)
   have hS13 := (HS.out.go b13).box #[.int .i64 en, .int .i64 el, .int .i64 ed, .bool eh, .int .u64 (ev : Nat), .int .u8 (eL : Nat), .int .u8 (eX : Nat)] 88
   have b13w := b13.trans ((below_alloc w13 (.cells #[.int .i64 en, .int .i64 el, .int .i64 ed, .bool eh, .int .u64 (ev : Nat), .int .u8 (eL : Nat), .int .u8 (eX : Nat)] 88)).mono b13.size)
   replace h13 := h13.below (below_alloc w13 (.cells #[.int .i64 en, .int .i64 el, .int .i64 ed, .bool eh, .int .u64 (ev : Nat), .int .u8 (eL : Nat), .int .u8 (eX : Nat)] 88)) (Nat.le_refl _)
   obtain ⟨g13, hg13⟩ : ∃ g, g = w13.heap.size := ⟨_, rfl⟩
   have q513 : g5 < g13 := by rw [hg13]; exact ((HS.out.go b13).blk 4).lt
   rw [← hg13] at hS13 ⊢
   generalize hV13 : World.alloc _ _ = V13 at hS13 b13w h13 ⊢
   clear HS
   have HS := Lib.hid hS13
   replace HB5 := Lib.hid (HB5.out.trans (b13w.mono HB5.out.size))
   have HO13 := Lib.hid (And.intro (HO10.out.1.below b13w) (And.intro (HO10.out.2.trans (b13w.mono HO10.out.2.size)) h13))
   obtain ⟨sl, hsl⟩ : ∃ x, x = S.length := ⟨_, rfl⟩
   rw [← hsl]
   have hsl2 : sl = R.1.length := by rw [hsl, HSd.out, List.length_map]
   have hsl3 : sl ≤ 400001 := by
    have h1 := allC_len (nb := ((bs.length : Nat) : Int)) HBS.out.2.1
    have h2 := HBS.out.2.1
    rw [hsl2, HRR.out.1]
    omega
   have HSl := Lib.hid (And.intro hsl hsl2)
   clear hV13 hS13 b13 b13w h13 o13 C10 HAl HO10 hg13 hsl hsl2
   have C3 := cells_say (HS.out.blk 7) _ 0 rfl
   have C4 := cells_say (HS.out.blk 6) _ 0 rfl
   have C5 := cells_say (HS.out.blk 5) _ 0 rfl
   simp only [cellsSay, frC, List.drop_zero, Nat.reduceAdd, and_true] at C3 C4 C5
   by_cases k1 : cd = 0
   rotate_left
   ·have HR6 : Hid (r = (61, [])) := Lib.hid (by
     rw [HBS.out.2.2.1, ← HRR.out.1]
     unfold fitR
     rw [if_neg (fun k => k1 (by rw [HRR.out.2.1]; exact k.1))])
    have k1b : ((cd : Nat) : Int) ≠ 0 := by omega
    have k1c : (((cd : Nat) : Int) != 0) = true := by simpa using k1
    go_wp2_with fail
    have hr2 : r = (61, []) := HR6.out
    generalize hWx : World.setCell _ _ _ = Wx
    have hSx := (HS.out.put 6 g4 [(0, .slice none 0 0), (1, .int .i64 0), (2, .slice none 0 0), (3, .int .i64 0)] #[.slice none 0 0, .int .i64 0, .slice none 0 0, .int .i64 0] rfl).put 5 g5 [(0, .int .i64 0), (1, .int .i64 0), (2, .int .i64 0), (3, .bool false), (4, .int .u64 0), (5, .int .u8 0), (6, .int .u8 0)] #[.int .i64 0, .int .i64 0, .int .i64 0, .bool false, .int .u64 0, .int .u8 0, .int .u8 0] hWx
    simp only [List.set] at hSx
    have D4 := cells_say (hSx.blk 6) _ 0 rfl
    have D5 := cells_say (hSx.blk 5) _ 0 rfl
    simp only [cellsSay, List.drop_zero, Nat.reduceAdd, and_true] at D4 D5
    exact bodyPost_ret (v := .tuple #[.agg #[.slice none 0 0, .int .i64 0, .slice none 0 0, .int .i64 0], .agg #[.int .i64 0, .int .i64 0, .int .i64 0, .bool false, .int .u64 0, .int .u8 0, .int .u8 0], .int .u16 61]) (by simp [results, Tryz.results52, go_sem, D4, D5]) rfl (by rw [hr2]; exact ⟨by have := hSx.b; rw [HG3.out] at this; exact this, fun _ => rfl, fun h0 => by cases h0⟩)
   subst k1
   have hcn : cn < 4294967296 := HD.out.2.2.2.2.1.2.2.2.2.2.2.1
   by_cases k2 : sl = cn
   rotate_left
   ·have HR6 : Hid (r = (61, [])) := Lib.hid (by
     rw [HBS.out.2.2.1, ← HRR.out.1]
     unfold fitR
     rw [if_neg (fun k => k2 (by rw [HSl.out.2]; exact k.2.1))])
    have k2c : (((sl : Nat) : Int) != ((cn : Nat) : Int)) = true := by simp; omega
    go_wp2_with fail
    have hr2 : r = (61, []) := HR6.out
    generalize hWx : World.setCell _ _ _ = Wx
    have hSx := (HS.out.put 6 g4 [(0, .slice none 0 0), (1, .int .i64 0), (2, .slice none 0 0), (3, .int .i64 0)] #[.slice none 0 0, .int .i64 0, .slice none 0 0, .int .i64 0] rfl).put 5 g5 [(0, .int .i64 0), (1, .int .i64 0), (2, .int .i64 0), (3, .bool false), (4, .int .u64 0), (5, .int .u8 0), (6, .int .u8 0)] #[.int .i64 0, .int .i64 0, .int .i64 0, .bool false, .int .u64 0, .int .u8 0, .int .u8 0] hWx
    simp only [List.set] at hSx
    have D4 := cells_say (hSx.blk 6) _ 0 rfl
    have D5 := cells_say (hSx.blk 5) _ 0 rfl
    simp only [cellsSay, List.drop_zero, Nat.reduceAdd, and_true] at D4 D5
    exact bodyPost_ret (v := .tuple #[.agg #[.slice none 0 0, .int .i64 0, .slice none 0 0, .int .i64 0], .agg #[.int .i64 0, .int .i64 0, .int .i64 0, .bool false, .int .u64 0, .int .u8 0, .int .u8 0], .int .u16 61]) (by simp [results, Tryz.results52, go_sem, D4, D5]) rfl (by rw [hr2]; exact ⟨by have := hSx.b; rw [HG3.out] at this; exact this, fun _ => rfl, fun h0 => by cases h0⟩)
   have k2c : (((sl : Nat) : Int) != ((cn : Nat) : Int)) = false := by simp; omega
   have HK2 := Lib.hid k2
   clear k2
   by_cases k3 : cn ≤ fn
   ·have HR6 : Hid (r = (61, [])) := Lib.hid (by
     rw [HBS.out.2.2.1, ← HRR.out.1]
     unfold fitR
     rw [if_neg (fun k => absurd k.2.2.1 (by show ¬ fn < cn; omega))])
    have k3c : ((cn : Nat) : Int) ≤ ((fn : Nat) : Int) := by omega
    go_wp2_with fail
    have hr2 : r = (61, []) := HR6.out
    generalize hWx : World.setCell _ _ _ = Wx
    have hSx := (HS.out.put 6 g4 [(0, .slice none 0 0), (1, .int .i64 0), (2, .slice none 0 0), (3, .int .i64 0)] #[.slice none 0 0, .int .i64 0, .slice none 0 0, .int .i64 0] rfl).put 5 g5 [(0, .int .i64 0), (1, .int .i64 0), (2, .int .i64 0), (3, .bool false), (4, .int .u64 0), (5, .int .u8 0), (6, .int .u8 0)] #[.int .i64 0, .int .i64 0, .int .i64 0, .bool false, .int .u64 0, .int .u8 0, .int .u8 0] hWx
    simp only [List.set] at hSx
    have D4 := cells_say (hSx.blk 6) _ 0 rfl
    have D5 := cells_say (hSx.blk 5) _ 0 rfl
    simp only [cellsSay, List.drop_zero, Nat.reduceAdd, and_true] at D4 D5
    exact bodyPost_ret (v := .tuple #[.agg #[.slice none 0 0, .int .i64 0, .slice none 0 0, .int .i64 0], .agg #[.int .i64 0, .int .i64 0, .int .i64 0, .bool false, .int .u64 0, .int .u8 0, .int .u8 0], .int .u16 61]) (by simp [results, Tryz.results52, go_sem, D4, D5]) rfl (by rw [hr2]; exact ⟨by have := hSx.b; rw [HG3.out] at this; exact this, fun _ => rfl, fun h0 => by cases h0⟩)
   have k3c : ¬ ((cn : Nat) : Int) ≤ ((fn : Nat) : Int) := by omega
   have CB : V13.cell? ⟨X.q, 1, none⟩ = some (.int .i64 (ch : Nat)) := by
    have h1 := (HQ.out V13 (by have := HS.out.b; rw [HG3.out] at this; exact this)).cell 1
    rw [← HD.out.2.2.2.2.2]
    exact h1
   by_cases k4 : sl ≤ ch
   rotate_left
   ·have HR6 : Hid (r = (61, [])) := Lib.hid (by
     rw [HBS.out.2.2.1, ← HRR.out.1]
     unfold fitR
     rw [if_neg (fun k => k4 (by rw [HSl.out.2]; exact k.2.2.2.1))])
    have k4c : ((ch : Nat) : Int) < ((sl : Nat) : Int) := by omega
    go_wp2_with fail
    have hr2 : r = (61, []) := HR6.out
    generalize hWx : World.setCell _ _ _ = Wx
    have hSx := (HS.out.put 6 g4 [(0, .slice none 0 0), (1, .int .i64 0), (2, .slice none 0 0), (3, .int .i64 0)] #[.slice none 0 0, .int .i64 0, .slice none 0 0, .int .i64 0] rfl).put 5 g5 [(0, .int .i64 0), (1, .int .i64 0), (2, .int .i64 0), (3, .bool false), (4, .int .u64 0), (5, .int .u8 0), (6, .int .u8 0)] #[.int .i64 0, .int .i64 0, .int .i64 0, .bool false, .int .u64 0, .int .u8 0, .int .u8 0] hWx
    simp only [List.set] at hSx
    have D4 := cells_say (hSx.blk 6) _ 0 rfl
    have D5 := cells_say (hSx.blk 5) _ 0 rfl
    simp only [cellsSay, List.drop_zero, Nat.reduceAdd, and_true] at D4 D5
    exact bodyPost_ret (v := .tuple #[.agg #[.slice none 0 0, .int .i64 0, .slice none 0 0, .int .i64 0], .agg #[.int .i64 0, .int .i64 0, .int .i64 0, .bool false, .int .u64 0, .int .u8 0, .int .u8 0], .int .u16 61]) (by simp [results, Tryz.results52, go_sem, D4, D5]) rfl (by rw [hr2]; exact ⟨by have := hSx.b; rw [HG3.out] at this; exact this, fun _ => rfl, fun h0 => by cases h0⟩)
   have k4c : ¬ ((ch : Nat) : Int) < ((sl : Nat) : Int) := by omega
   have hsl0 : 0 < sl := by have := HK2.out; omega
   obtain ⟨x0, hx0⟩ : ∃ x, S[0]? = some x := ⟨_, List.getElem?_eq_getElem (by rw [← HSl.out.1]; exact hsl0)⟩
   obtain ⟨gu, ou, hU, hcu⟩ := HO13.out.2.2 0 x0 hx0
   subst hU
   have CU : V13.cell? ⟨gu, ou, none⟩ = some (.int .i64 x0.1) := by simpa using hcu 0 _ rfl
   have hRV := HR5.out.below HB5.out
   have hOp := bopens_any hRV.rd hRV.ok.pn hRV.ne hRV.few x0.1
   obtain ⟨bo, hbo⟩ : ∃ b, b = opensB C x0.1 := ⟨_, rfl⟩
   rw [show decide (s.ps.length = 1 ∨ s.fl < x0.1) = bo by rw [hbo, Bool.eq_iff_iff, decide_eq_true_eq]; exact hRV.opens x0.1] at hOp
   have HOp := Lib.hid hOp
   have HX0 := Lib.hid (And.intro hx0 hbo)
   have hsl00 : (0 : Int) < ((sl : Nat) : Int) := by omega
   clear hx0 hcu hRV hOp hbo
   cases bo
   ·have HR6 : Hid (r = (61, [])) := Lib.hid (by
     rw [HBS.out.2.2.1, ← HRR.out.1]
     unfold fitR
     rw [if_neg (fun k => by
      have h1 := k.2.2.2.2
      rw [← HSd.out, List.head?_eq_getElem?, HX0.out.1] at h1
      have h2 := HX0.out.2
      replace h1 : opensB C x0.1 = true := h1
      rw [h1] at h2
      cases h2)])
    go_wp2_with (go_at_call 68; refine HOp.out.mono ?_; rintro e w18 ⟨rfl, hw18⟩; rw [hw18]; clear hw18)
    have hr2 : r = (61, []) := HR6.out
    generalize hWx : World.setCell _ _ _ = Wx
    have hSx := (HS.out.put 6 g4 [(0, .slice none 0 0), (1, .int .i64 0), (2, .slice none 0 0), (3, .int .i64 0)] #[.slice none 0 0, .int .i64 0, .slice none 0 0, .int .i64 0] rfl).put 5 g5 [(0, .int .i64 0), (1, .int .i64 0), (2, .int .i64 0), (3, .bool false), (4, .int .u64 0), (5, .int .u8 0), (6, .int .u8 0)] #[.int .i64 0, .int .i64 0, .int .i64 0, .bool false, .int .u64 0, .int .u8 0, .int .u8 0] hWx
    simp only [List.set] at hSx
    have D4 := cells_say (hSx.blk 6) _ 0 rfl
    have D5 := cells_say (hSx.blk 5) _ 0 rfl
    simp only [cellsSay, List.drop_zero, Nat.reduceAdd, and_true] at D4 D5
    exact bodyPost_ret (v := .tuple #[.agg #[.slice none 0 0, .int .i64 0, .slice none 0 0, .int .i64 0], .agg #[.int .i64 0, .int .i64 0, .int .i64 0, .bool false, .int .u64 0, .int .u8 0, .int .u8 0], .int .u16 61]) (by simp [results, Tryz.results52, go_sem, D4, D5]) rfl (by rw [hr2]; exact ⟨by have := hSx.b; rw [HG3.out] at this; exact this, fun _ => rfl, fun h0 => by cases h0⟩)
   have hr0 : r = (0, S) := by
    rw [HBS.out.2.2.1, ← HRR.out.1]
    unfold fitR
    rw [if_pos ⟨HRR.out.2.1.symm, by rw [← HSl.out.2]; exact HK2.out, by show fn < cn; omega, by rw [← HSl.out.2]; exact k4, by
     rw [← HSd.out, List.head?_eq_getElem?, HX0.out.1]
     exact HX0.out.2.symm⟩, ← HSd.out]
   have hFS : FitS C ch bs S := by
    have h1 := HBS.out.2.2.2
    rw [hr0] at h1
    exact h1 rfl
   have HFS := Lib.hid (And.intro hr0 hFS)
   have HW13 := Lib.hid HS.out.b.size
   have hEn := cends_any A10 c10 (pack bs) ((bs.length : Nat) : Int) V13 (HS.out.own 2).bs (by have := HBS.out.1; unfold in64; omega) HBS.out.2.1 (tabGo HD.out.2.1 (by have := HS.out.b; rw [HG3.out] at this; exact this))
   rw [hFS.all, ← HBL.out.1, ← HBL.out.2] at hEn
   dsimp only at hEn
   rw [rcS_ends] at hEn
   have HEn := Lib.hid hEn
   have C10 := cells_say (HS.out.blk 1) _ 0 rfl
   simp only [cellsSay, List.drop_zero, Nat.reduceAdd, and_true] at C10
   clear hr0 hFS hEn
   go_upto_region 21 with (first | (go_at_call 68; refine HOp.out.mono ?_; rintro e w18 ⟨rfl, hw18⟩; rw [hw18]; clear hw18) | (go_at_call 69; refine HEn.out.mono ?_; rintro e w20 ⟨v20, rfl, o20, b20⟩; obtain ⟨E20, c20, rfl, -, -⟩ := o20.row Tryz.eltI))
   have hS20 := HS.out.cons (t := thR 3 encI 1 (.slice E20 (endsI S).length c20) (endsI S)) b20 (o20.mono (Nat.zero_le _)) (fun k hk => (World.ownsRow.lt o20 k hk).1)
   clear C3 C4 C5 C10 CB CU HS
   have HS := Lib.hid hS20
   have H20 := Lib.hid o20
   clear hS20 o20 b20
   have D2 := cells_say (HS.out.blk 2) _ 0 rfl
   have D1 := cells_say (HS.out.blk 1) _ 0 rfl
   have D5 := cells_say (HS.out.blk 5) _ 0 rfl
   have D6 := cells_say (HS.out.blk 6) _ 0 rfl
   have D7 := cells_say (HS.out.blk 7) _ 0 rfl
   simp only [cellsSay, List.drop_zero, Nat.reduceAdd, and_true] at D1 D2 D5 D6 D7
   go_region
   generalize hWx : World.setCell _ _ _ = Wx
   have hSx := ((HS.out.put 7 g4 [(0, .slice A10 pl c10), (1, .int .i64 (bl : Nat)), (2, .slice E20 (endsI S).length c20), (3, .int .i64 ((q.ah : Nat) : Int))] #[.slice A10 pl c10, .int .i64 (bl : Nat), .slice E20 (endsI S).length c20, .int .i64 ((q.ah : Nat) : Int)] rfl).put 6 g5 [(0, .int .i64 en), (1, .int .i64 el), (2, .int .i64 ed), (3, .bool eh), (4, .int .u64 (ev : Nat)), (5, .int .u8 (eL : Nat)), (6, .int .u8 (eX : Nat))] #[.int .i64 en, .int .i64 el, .int .i64 ed, .bool eh, .int .u64 (ev : Nat), .int .u8 (eL : Nat), .int .u8 (eX : Nat)] hWx).drew
   simp only [List.set] at hSx
   clear D1 D2 D5 D6 D7 hWx HS
   have HS := Lib.hid hSx
   clear hSx
   go_wp2_with fail
   have D4 := cells_say (HS.out.blk 7) _ 0 rfl
   have D5 := cells_say (HS.out.blk 6) _ 0 rfl
   simp only [cellsSay, List.drop_zero, Nat.reduceAdd, and_true] at D4 D5
   have hl : lastC ec0 S = ⟨en, el, ed, ⟨eh, ev, eL, eX⟩⟩ := by
    rw [HRR.out.2.2, HRR.out.1, HFS.out.2.all]
    exact (rcS_last0 S 0).symm
   refine bodyPost_ret (v := .tuple #[.agg #[.slice A10 pl c10, .int .i64 (bl : Nat), .slice E20 (endsI S).length c20, .int .i64 ((q.ah : Nat) : Int)], .agg #[.int .i64 en, .int .i64 el, .int .i64 ed, .bool eh, .int .u64 (ev : Nat), .int .u8 (eL : Nat), .int .u8 (eX : Nat)], .int .u16 0]) (by simp [results, Tryz.results52, go_sem, D4, D5]) rfl ?_
   rw [HFS.out.1]
   refine ⟨by have := HS.out.b; rw [HG3.out] at this; exact this, fun h0 => absurd rfl h0, fun _ => ⟨A10, c10, E20, c20, V13.heap.size, ?_, HW13.out, ?_, ?_, ?_⟩⟩
   ·show _ = Ending.returned (.tuple #[.agg #[.slice A10 (pack (bitsL S)).length c10, .int .i64 ((bitsL S).length : Nat), .slice E20 S.length c20, _], encVal (lastC ec0 S), _])
    rw [HFS.out.2.bits, ← HBL.out.1, ← HBL.out.2, endsI_len, HI.out.2.2.2.2.2.2, hl]
   ·show OwnB _ _ (.slice A10 (pack (bitsL S)).length c10) (pack (bitsL S))
    rw [HFS.out.2.bits, ← HBL.out.2]
    exact OwnB.raise (HS.out.own 3) (fun k hk => by
     have := (HS.out.all (thO (.slice A10 pl c10) (pack bs)) (by simp)).2 k hk
     rw [HG3.out] at this
     exact this)
   ·show ∀ k, (Value.slice A10 (pack (bitsL S)).length c10).ownBlock = some k → _
    rw [HFS.out.2.bits, ← HBL.out.2]
    exact fun k hk => (World.ownsRow.lt HO13.out.1 k hk).2
   ·show OwnR _ _ _ _ _ (.slice E20 S.length c20) (endsI S)
    rw [← endsI_len S]
    exact OwnR.raise (HS.out.at_ (t := thR 3 encI 1 (.slice E20 (endsI S).length c20) (endsI S)) 0 rfl) (fun k hk => (World.ownsRow.lt H20.out k hk).1)
 ·have hQ2 : ∀ w, (binOp .eql 36 (.agg #[.int .u32 (fc : Nat), .int .u32 (fb : Nat), .int .u32 (fn : Nat)]) (.agg #[.int .u32 (e1 : Nat), .int .u32 (e2 : Nat), .int .u32 (e3 : Nat)])).run Tryz.prog w = .ok (.bool false) w := fun w => by rw [eqPlB_run, decide_eq_false he]
  have HHe := Lib.hid he
  clear he
  refine wp_region_ext (by kernel_rfl) (by kernel_rfl) ?_
  repeat (go_big_quiet_step ((go_at_call 37; exact HE.out _)))
  refine wpQuiet_nil ?_
  rintro w8 ⟨y, hw8⟩
  replace HS := Lib.hid (HS.out.go (show Below w7.heap.size w7 w8 by rw [hw8]; exact plus_below w7 y))
  replace HB5 := Lib.hid (HB5.out.trans ((show Below w7.heap.size w7 w8 by rw [hw8]; exact plus_below w7 y).mono HB5.out.size))
  clear HR
  clear C3 hQ2 hw8 HE
  have HR8 := HR5.out.below HB5.out
  have hLs := fun (y : More) => ext_of ((blast_any (HR8.rd.below (plus_below w8 y)) HR8.ok.pn HR8.ne HR8.few).mono (fun e w' ⟨he, hw⟩ => (⟨he, by rw [hw]; exact Below.refl _ _⟩ : e = Ending.returned (.int .i64 ((s.ps.length - 1 : Nat) : Int)) ∧ Below (plus w8 y).heap.size (plus w8 y) w')))
  rw [← HI.out.1, ← HI.out.2.1] at hLs
  have HLs := Lib.hid hLs
  have HSt := Lib.hid (fun (y : More) => ext_of (bstart_any (plus w8 y) (prS s) m (by have := HR8.ok; have h2 := HR5.out.few; rw [← HI.out.1] at h2; omega)))
  have C3 : ∀ y : More, cellsSay (plus w8 y) g3 0 (frC ⟨kd, ep, se, fc, fb, fn, cn, cl, sm, fl, nn⟩ A c).toList := fun y => cells_say ((HS.out.go (plus_below w8 y)).blk 4) _ 0 rfl
  simp only [cellsSay, frC, Nat.reduceAdd, and_true] at C3
  clear HR8 hLs
  have hm1 : C.length - 1 = m := by rw [HI.out.2.1, HI.out.1, HR5.out.len]
  have HM1 := Lib.hid hm1
  clear hm1
  by_cases hst : (fc, fb, fn) = (m, 0, 0)
  ·have hQ2 : ∀ w, (binOp .neq 36 (.agg #[.int .u32 (fc : Nat), .int .u32 (fb : Nat), .int .u32 (fn : Nat)]) (.agg #[.int .u32 (m : Nat), .int .u32 0, .int .u32 0])).run Tryz.prog w = .ok (.bool false) w := fun w => by
    have := nePlB_run fc fb fn m 0 0 w
    rw [decide_eq_true hst] at this
    exact this
   have hQ3 : ∀ w, (binOp .neq 36 (.agg #[.int .u32 (fc : Nat), .int .u32 (fb : Nat), .int .u32 (fn : Nat)]) (plV m 0 0)).run Tryz.prog w = .ok (.bool false) w := hQ2
   have HHs := Lib.hid hst
   clear hst
   go_upto_region 8 with fail
   refine wp_region_ext (by kernel_rfl) (by kernel_rfl) ?_
   repeat (go_big_quiet_step (first | (go_at_call 43; exact HLs.out _) | (go_at_call 44; exact HSt.out _)))
   refine wpQuiet_nil ?_
   rintro W9 ⟨y, hw9⟩
   replace HS := Lib.hid (HS.out.go (show Below w8.heap.size w8 W9 by rw [hw9]; exact plus_below w8 y))
   replace HB5 := Lib.hid (HB5.out.trans ((show Below w8.heap.size w8 W9 by rw [hw9]; exact plus_below w8 y).mono HB5.out.size))
   clear C3 hQ2 hQ3 hw9 HLs HSt
   obtain ⟨OA, hOA⟩ : ∃ x : Option Addr, x = none := ⟨_, rfl⟩
   obtain ⟨oc, hoc⟩ : ∃ x : Nat, x = 0 := ⟨_, rfl⟩
   obtain ⟨ol, hol⟩ : ∃ x : Nat, x = 0 := ⟨_, rfl⟩
   obtain ⟨on, hon⟩ : ∃ x : Nat, x = 0 := ⟨_, rfl⟩
   obtain ⟨ob, hob⟩ : ∃ x : List Bool, x = [] := ⟨_, rfl⟩
   have HO : Hid (r = fitJ C ch ⟨kd, ep, se, fc, fb, fn, cn, cl, sm, fl, nn⟩ ob ∧ ol = (pack ob).length ∧ on = ob.length ∧ ob.length ≤ 146000 ∧ Bs W9 OA (pack ob)) := Lib.hid ⟨by
    rw [HRr.out, if_neg (by decide)]
    unfold fitC oldC
    rw [if_neg (by rw [← HEE.out]; exact HHe.out), if_pos (by rw [HM1.out]; exact HHs.out), hob], by rw [hol, hob, packN0]; rfl, by rw [hon, hob]; rfl, by rw [hob]; decide, by rw [hob, packN0]; intro i b hi; simp at hi⟩
   have hS9 : Sep g3 w W9 [thB g9 33 #[.slice OA ol oc, .int .i64 (on : Nat)], thB gl 95 #[.slice q.A qla q.c, .int .i64 (qn : Nat), .slice q.E ql q.ec, .int .i64 (q.ah : Nat)], thB g5 88 #[.int .i64 0, .int .i64 0, .int .i64 0, .bool false, .int .u64 0, .int .u8 0, .int .u8 0], thB g4 95 #[.slice none 0 0, .int .i64 0, .slice none 0 0, .int .i64 0], thB g3 39 (frC ⟨kd, ep, se, fc, fb, fn, cn, cl, sm, fl, nn⟩ A c)] := by
    rw [hOA, hol, hoc, hon]
    exact HS.out
   clear HS
   have HS := Lib.hid hS9
   clear hS9 hob hOA hol hoc hon
   go_upto_region 10 with fail
   have C9 := cells_say (HS.out.blk 0) _ 0 rfl
   have C3 := cells_say (HS.out.blk 4) _ 0 rfl
   simp only [cellsSay, frC, List.drop_zero, Nat.reduceAdd, and_true] at C9 C3
   have bJ : Below W9.heap.size W9 (W9.alloc (.cells #[.slice OA ol oc, .int .i64 (on : Nat), .slice A fl.length c, .int .i64 nn] 33)) := below_alloc _ _
   have hbf := HD.out.2.2.1.below (HS.out.b.mono (Nat.le_of_eq HG3.out.symm))
   have hnn : -9223372036854775808 ≤ nn ∧ nn ≤ 9223372036854775807 := ⟨HD.out.2.2.2.2.1.2.2.2.2.2.2.2.2.1, HD.out.2.2.2.2.1.2.2.2.2.2.2.2.2.2⟩
   have hJ := join_any (some ⟨W9.heap.size, 0, none⟩) 2 [(pack ob, ((on : Nat) : Int)), (fl, nn)] (W9.alloc (.cells #[.slice OA ol oc, .int .i64 (on : Nat), .slice A fl.length c, .int .i64 nn] 33)) (by rw [HO.out.2.1]; exact bsl_pair HO.out.2.2.2.2 hbf (by have := HO.out.2.2.1; have := HO.out.2.2.2.1; omega) hnn) (by show 2 ≤ 1000; decide) (fun e he => by
    simp only [List.mem_cons, List.not_mem_nil, or_false] at he
    rcases he with rfl | rfl
    ·have h1 := HO.out.2.2.2.1
     show (pack ob).length ≤ _
     rw [pack_length]; unfold nb; omega
    ·have := HD.out.2.2.2.1
     show fl.length ≤ _
     omega)
   have HJ : Hid (Calls Tryz.prog 67 #[.slice (some ⟨W9.heap.size, 0, none⟩) 2 2] _ _) := Lib.hid hJ
   clear hJ bJ hbf hnn
   cases hsd : soundB fl nn
   ·have hjs : joinSpec [(pack ob, ((on : Nat) : Int)), (fl, nn)] = ([], 0, 11) := by
     unfold joinSpec soundE
     simp [hsd]
    rw [hjs] at HJ
    have HR6 := Lib.hid (show r = (61, []) by rw [HO.out.1]; unfold fitJ; rw [if_pos hsd])
    clear hjs hsd
    go_upto_region 11 with (go_at_call 67; refine HJ.out.mono ?_; rintro e w10 ⟨A10, c10, rfl, o10, b10⟩)
    have hS10 := ((HS.out.go ((below_alloc W9 (.cells #[.slice OA ol oc, .int .i64 (on : Nat), .slice A fl.length c, .int .i64 nn] 33)).trans (b10.mono (below_alloc _ _).size)))).box #[.slice A10 0 c10, .int .i64 0] 33
    generalize hV10 : World.alloc _ _ = V10 at hS10 ⊢
    clear HS
    have HS := Lib.hid hS10
    clear hV10 hS10 b10 o10 C9 C3 HJ
    have C4 := cells_say (HS.out.blk 4) _ 0 rfl
    have C5 := cells_say (HS.out.blk 3) _ 0 rfl
    simp only [cellsSay, List.drop_zero, Nat.reduceAdd, and_true] at C4 C5
    go_wp2_with fail
    have hr2 : r = (61, []) := HR6.out
    generalize hWx : World.setCell _ _ _ = Wx
    have hSx := (HS.out.put 4 g4 [(0, .slice none 0 0), (1, .int .i64 0), (2, .slice none 0 0), (3, .int .i64 0)] #[.slice none 0 0, .int .i64 0, .slice none 0 0, .int .i64 0] rfl).put 3 g5 [(0, .int .i64 0), (1, .int .i64 0), (2, .int .i64 0), (3, .bool false), (4, .int .u64 0), (5, .int .u8 0), (6, .int .u8 0)] #[.int .i64 0, .int .i64 0, .int .i64 0, .bool false, .int .u64 0, .int .u8 0, .int .u8 0] hWx
    simp only [List.set] at hSx
    have D4 := cells_say (hSx.blk 4) _ 0 rfl
    have D5 := cells_say (hSx.blk 3) _ 0 rfl
    simp only [cellsSay, List.drop_zero, Nat.reduceAdd, and_true] at D4 D5
    exact bodyPost_ret (v := .tuple #[.agg #[.slice none 0 0, .int .i64 0, .slice none 0 0, .int .i64 0], .agg #[.int .i64 0, .int .i64 0, .int .i64 0, .bool false, .int .u64 0, .int .u8 0, .int .u8 0], .int .u16 61]) (by simp [results, Tryz.results52, go_sem, D4, D5]) rfl (by rw [hr2]; exact ⟨by have := hSx.b; rw [HG3.out] at this; exact this, fun _ => rfl, fun h0 => by cases h0⟩)
   ·have hcat : catE [(pack ob, ((on : Nat) : Int)), (fl, nn)] = ob ++ bitl fl nn.toNat := by
     unfold catE
     simp only [List.flatMap_cons, List.flatMap_nil, List.append_nil, Int.toNat_natCast]
     rw [HO.out.2.2.1, bits_pack]
    have hjs : joinSpec [(pack ob, ((on : Nat) : Int)), (fl, nn)] = (pack (ob ++ bitl fl nn.toNat), (ob ++ bitl fl nn.toNat).length, 0) := by
     unfold joinSpec
     rw [if_pos (by unfold soundE; rw [HO.out.2.2.1]; simp [sound_pack, hsd]), hcat]
    rw [hjs] at HJ
    obtain ⟨bs, hbs⟩ : ∃ b, b = ob ++ bitl fl nn.toNat := ⟨_, rfl⟩
    rw [← hbs] at HJ
    have hbl : bs.length ≤ 160000 := by
     obtain ⟨nm, hnm, hn8, -⟩ := sound_nat hsd
     have h1 := HO.out.2.2.2.1
     have h2 := HD.out.2.2.2.1
     rw [hbs, List.length_append, bitl_length, hnm, Int.toNat_natCast]
     replace h2 : fl.length ≤ 1000 := h2
     omega
    have HBS : Hid (bs.length ≤ 160000 ∧ (pack bs).length ≤ 100000 ∧ r = fitR C ch ⟨kd, ep, se, fc, fb, fn, cn, cl, sm, fl, nn⟩ (allC (pack bs) ((bs.length : Nat) : Int)) ∧ (r.1 = 0 → FitS C ch bs r.2)) := Lib.hid (by
     have hp : (pack bs).length ≤ 100000 := by rw [pack_length]; unfold nb; omega
     have hr : r = fitR C ch ⟨kd, ep, se, fc, fb, fn, cn, cl, sm, fl, nn⟩ (allC (pack bs) ((bs.length : Nat) : Int)) := by
      rw [HO.out.1]
      unfold fitJ
      rw [if_neg (by show ¬ soundB fl nn = false; rw [hsd]; decide), ← hbs]
     exact ⟨hbl, hp, hr, fun h0 => by rw [hr] at h0 ⊢; exact fit_S hp h0⟩)
    obtain ⟨bl, hbln⟩ : ∃ x, x = bs.length := ⟨_, rfl⟩
    obtain ⟨pl, hpln⟩ : ∃ x, x = (pack bs).length := ⟨_, rfl⟩
    rw [← hbln] at HJ
    rw [← hpln] at HJ
    have HBL := Lib.hid (And.intro hbln hpln)
    clear hcat hjs hbs hbl hsd hbln hpln
    go_upto_region 11 with (go_at_call 67; refine HJ.out.mono ?_; rintro e w10 ⟨A10, c10, rfl, o10, b10⟩)
    have hb10 := (below_alloc W9 (.cells #[.slice OA ol oc, .int .i64 (on : Nat), .slice A fl.length c, .int .i64 nn] 33)).trans (b10.mono (below_alloc _ _).size)
    have hS10 := ((HS.out.cons (t := thO (.slice A10 pl c10) (pack bs)) hb10 (o10.mono (Nat.zero_le _)) (fun k hk => by
     have h1 := (World.ownsRow.lt o10 k hk).1
     rw [World.size_alloc] at h1
     omega))).box #[.slice A10 pl c10, .int .i64 (bl : Nat)] 33
    have b10w : Below W9.heap.size W9 (w10.alloc (.cells #[.slice A10 pl c10, .int .i64 (bl : Nat)] 33)) := hb10.trans ((below_alloc _ _).mono hb10.size)
    have o10' := o10.alloc (.cells #[.slice A10 pl c10, .int .i64 (bl : Nat)] 33)
    obtain ⟨g10, hg10⟩ : ∃ g, g = w10.heap.size := ⟨_, rfl⟩
    have q510 : g5 < g10 := by rw [hg10]; exact ((HS.out.go hb10).blk 2).lt
    rw [← hg10] at hS10 ⊢
    generalize hV10 : World.alloc _ _ = V10 at hS10 b10w o10' ⊢
    clear HS
    have HS := Lib.hid hS10
    replace HB5 := Lib.hid (HB5.out.trans (b10w.mono HB5.out.size))
    have HO10 := Lib.hid (And.intro (o10'.mono (show W9.heap.size ≤ _ by rw [World.size_alloc]; omega)) b10w)
    obtain ⟨R, hR⟩ : ∃ R, R = allC (pack bs) ((bs.length : Nat) : Int) := ⟨_, rfl⟩
    have hA10 := (HS.out.own 1).bs
    have hTV : Tab V10 := tabGo HD.out.2.1 (by have := HS.out.b; rw [HG3.out] at this; exact this)
    have hAl := call_any A10 c10 (pack bs) ((bs.length : Nat) : Int) V10 hA10 (by have := HBS.out.1; unfold in64; omega) HBS.out.2.1 hTV
    rw [← hR, ← HBL.out.1, ← HBL.out.2] at hAl
    obtain ⟨S, hSd⟩ : ∃ S, S = R.1.map smpR := ⟨_, rfl⟩
    obtain ⟨⟨en, el, ed, ⟨eh, ev, eL, eX⟩⟩, hE0⟩ : ∃ E, E = lastE R.1 := ⟨_, rfl⟩
    obtain ⟨cd, hcd⟩ : ∃ x, x = R.2 := ⟨_, rfl⟩
    rw [← hE0, ← hSd, ← hcd] at hAl
    dsimp only at hAl
    have HAl := Lib.hid hAl
    have HRR := Lib.hid (And.intro hR (And.intro hcd hE0))
    have HSd := Lib.hid hSd
    clear hV10 hS10 b10 o10 o10' b10w hb10 C9 C3 HJ hg10 hR hA10 hTV hAl hSd hE0 hcd
    have C10 := cells_say (HS.out.blk 0) _ 0 rfl
    simp only [cellsSay, List.drop_zero, Nat.reduceAdd, and_true] at C10
    go_upto_region 14 with (go_at_call 30; refine HAl.out.mono ?_; rintro e w13 ⟨v, rfl, o13, b13⟩; obtain ⟨U, un, rfl, -, h13⟩ := o13.row Tryz.eltS)
    have hS13 := (HS.out.go b13).box #[.int .i64 en, .int .i64 el, .int .i64 ed, .bool eh, .int .u64 (ev : Nat), .int .u8 (eL : Nat), .int .u8 (eX : Nat)] 88
    have b13w := b13.trans ((below_alloc w13 (.cells #[.int .i64 en, .int .i64 el, .int .i64 ed, .bool eh, .int .u64 (ev : Nat), .int .u8 (eL : Nat), .int .u8 (eX : Nat)] 88)).mono b13.size)
    replace h13 := h13.below (below_alloc w13 (.cells #[.int .i64 en, .int .i64 el, .int .i64 ed, .bool eh, .int .u64 (ev : Nat), .int .u8 (eL : Nat), .int .u8 (eX : Nat)] 88)) (Nat.le_refl _)
    obtain ⟨g13, hg13⟩ : ∃ g, g = w13.heap.size := ⟨_, rfl⟩
    have q513 : g5 < g13 := by rw [hg13]; exact ((HS.out.go b13).blk 4).lt
    rw [← hg13] at hS13 ⊢
    generalize hV13 : World.alloc _ _ = V13 at hS13 b13w h13 ⊢
    clear HS
    have HS := Lib.hid hS13
    replace HB5 := Lib.hid (HB5.out.trans (b13w.mono HB5.out.size))
    have HO13 := Lib.hid (And.intro (HO10.out.1.below b13w) (And.intro (HO10.out.2.trans (b13w.mono HO10.out.2.size)) h13))
    obtain ⟨sl, hsl⟩ : ∃ x, x = S.length := ⟨_, rfl⟩
    rw [← hsl]
    have hsl2 : sl = R.1.length := by rw [hsl, HSd.out, List.length_map]
    have hsl3 : sl ≤ 400001 := by
     have h1 := allC_len (nb := ((bs.length : Nat) : Int)) HBS.out.2.1
     have h2 := HBS.out.2.1
     rw [hsl2, HRR.out.1]
     omega
    have HSl := Lib.hid (And.intro hsl hsl2)
    clear hV13 hS13 b13 b13w h13 o13 C10 HAl HO10 hg13 hsl hsl2
    have C3 := cells_say (HS.out.blk 7) _ 0 rfl
    have C4 := cells_say (HS.out.blk 6) _ 0 rfl
    have C5 := cells_say (HS.out.blk 5) _ 0 rfl
    simp only [cellsSay, frC, List.drop_zero, Nat.reduceAdd, and_true] at C3 C4 C5
    by_cases k1 : cd = 0
    rotate_left
    ·have HR6 : Hid (r = (61, [])) := Lib.hid (by
      rw [HBS.out.2.2.1, ← HRR.out.1]
      unfold fitR
      rw [if_neg (fun k => k1 (by rw [HRR.out.2.1]; exact k.1))])
     have k1b : ((cd : Nat) : Int) ≠ 0 := by omega
     have k1c : (((cd : Nat) : Int) != 0) = true := by simpa using k1
     go_wp2_with fail
     have hr2 : r = (61, []) := HR6.out
     generalize hWx : World.setCell _ _ _ = Wx
     have hSx := (HS.out.put 6 g4 [(0, .slice none 0 0), (1, .int .i64 0), (2, .slice none 0 0), (3, .int .i64 0)] #[.slice none 0 0, .int .i64 0, .slice none 0 0, .int .i64 0] rfl).put 5 g5 [(0, .int .i64 0), (1, .int .i64 0), (2, .int .i64 0), (3, .bool false), (4, .int .u64 0), (5, .int .u8 0), (6, .int .u8 0)] #[.int .i64 0, .int .i64 0, .int .i64 0, .bool false, .int .u64 0, .int .u8 0, .int .u8 0] hWx
     simp only [List.set] at hSx
     have D4 := cells_say (hSx.blk 6) _ 0 rfl
     have D5 := cells_say (hSx.blk 5) _ 0 rfl
     simp only [cellsSay, List.drop_zero, Nat.reduceAdd, and_true] at D4 D5
     exact bodyPost_ret (v := .tuple #[.agg #[.slice none 0 0, .int .i64 0, .slice none 0 0, .int .i64 0], .agg #[.int .i64 0, .int .i64 0, .int .i64 0, .bool false, .int .u64 0, .int .u8 0, .int .u8 0], .int .u16 61]) (by simp [results, Tryz.results52, go_sem, D4, D5]) rfl (by rw [hr2]; exact ⟨by have := hSx.b; rw [HG3.out] at this; exact this, fun _ => rfl, fun h0 => by cases h0⟩)
    subst k1
    have hcn : cn < 4294967296 := HD.out.2.2.2.2.1.2.2.2.2.2.2.1
    by_cases k2 : sl = cn
    rotate_left
    ·have HR6 : Hid (r = (61, [])) := Lib.hid (by
      rw [HBS.out.2.2.1, ← HRR.out.1]
      unfold fitR
      rw [if_neg (fun k => k2 (by rw [HSl.out.2]; exact k.2.1))])
     have k2c : (((sl : Nat) : Int) != ((cn : Nat) : Int)) = true := by simp; omega
     go_wp2_with fail
     have hr2 : r = (61, []) := HR6.out
     generalize hWx : World.setCell _ _ _ = Wx
     have hSx := (HS.out.put 6 g4 [(0, .slice none 0 0), (1, .int .i64 0), (2, .slice none 0 0), (3, .int .i64 0)] #[.slice none 0 0, .int .i64 0, .slice none 0 0, .int .i64 0] rfl).put 5 g5 [(0, .int .i64 0), (1, .int .i64 0), (2, .int .i64 0), (3, .bool false), (4, .int .u64 0), (5, .int .u8 0), (6, .int .u8 0)] #[.int .i64 0, .int .i64 0, .int .i64 0, .bool false, .int .u64 0, .int .u8 0, .int .u8 0] hWx
     simp only [List.set] at hSx
     have D4 := cells_say (hSx.blk 6) _ 0 rfl
     have D5 := cells_say (hSx.blk 5) _ 0 rfl
     simp only [cellsSay, List.drop_zero, Nat.reduceAdd, and_true] at D4 D5
     exact bodyPost_ret (v := .tuple #[.agg #[.slice none 0 0, .int .i64 0, .slice none 0 0, .int .i64 0], .agg #[.int .i64 0, .int .i64 0, .int .i64 0, .bool false, .int .u64 0, .int .u8 0, .int .u8 0], .int .u16 61]) (by simp [results, Tryz.results52, go_sem, D4, D5]) rfl (by rw [hr2]; exact ⟨by have := hSx.b; rw [HG3.out] at this; exact this, fun _ => rfl, fun h0 => by cases h0⟩)
    have k2c : (((sl : Nat) : Int) != ((cn : Nat) : Int)) = false := by simp; omega
    have HK2 := Lib.hid k2
    clear k2
    by_cases k3 : cn ≤ fn
    ·have HR6 : Hid (r = (61, [])) := Lib.hid (by
      rw [HBS.out.2.2.1, ← HRR.out.1]
      unfold fitR
      rw [if_neg (fun k => absurd k.2.2.1 (by show ¬ fn < cn; omega))])
     have k3c : ((cn : Nat) : Int) ≤ ((fn : Nat) : Int) := by omega
     go_wp2_with fail
     have hr2 : r = (61, []) := HR6.out
     generalize hWx : World.setCell _ _ _ = Wx
     have hSx := (HS.out.put 6 g4 [(0, .slice none 0 0), (1, .int .i64 0), (2, .slice none 0 0), (3, .int .i64 0)] #[.slice none 0 0, .int .i64 0, .slice none 0 0, .int .i64 0] rfl).put 5 g5 [(0, .int .i64 0), (1, .int .i64 0), (2, .int .i64 0), (3, .bool false), (4, .int .u64 0), (5, .int .u8 0), (6, .int .u8 0)] #[.int .i64 0, .int .i64 0, .int .i64 0, .bool false, .int .u64 0, .int .u8 0, .int .u8 0] hWx
     simp only [List.set] at hSx
     have D4 := cells_say (hSx.blk 6) _ 0 rfl
     have D5 := cells_say (hSx.blk 5) _ 0 rfl
     simp only [cellsSay, List.drop_zero, Nat.reduceAdd, and_true] at D4 D5
     exact bodyPost_ret (v := .tuple #[.agg #[.slice none 0 0, .int .i64 0, .slice none 0 0, .int .i64 0], .agg #[.int .i64 0, .int .i64 0, .int .i64 0, .bool false, .int .u64 0, .int .u8 0, .int .u8 0], .int .u16 61]) (by simp [results, Tryz.results52, go_sem, D4, D5]) rfl (by rw [hr2]; exact ⟨by have := hSx.b; rw [HG3.out] at this; exact this, fun _ => rfl, fun h0 => by cases h0⟩)
    have k3c : ¬ ((cn : Nat) : Int) ≤ ((fn : Nat) : Int) := by omega
    have CB : V13.cell? ⟨X.q, 1, none⟩ = some (.int .i64 (ch : Nat)) := by
     have h1 := (HQ.out V13 (by have := HS.out.b; rw [HG3.out] at this; exact this)).cell 1
     rw [← HD.out.2.2.2.2.2]
     exact h1
    by_cases k4 : sl ≤ ch
    rotate_left
    ·have HR6 : Hid (r = (61, [])) := Lib.hid (by
      rw [HBS.out.2.2.1, ← HRR.out.1]
      unfold fitR
      rw [if_neg (fun k => k4 (by rw [HSl.out.2]; exact k.2.2.2.1))])
     have k4c : ((ch : Nat) : Int) < ((sl : Nat) : Int) := by omega
     go_wp2_with fail
     have hr2 : r = (61, []) := HR6.out
     generalize hWx : World.setCell _ _ _ = Wx
     have hSx := (HS.out.put 6 g4 [(0, .slice none 0 0), (1, .int .i64 0), (2, .slice none 0 0), (3, .int .i64 0)] #[.slice none 0 0, .int .i64 0, .slice none 0 0, .int .i64 0] rfl).put 5 g5 [(0, .int .i64 0), (1, .int .i64 0), (2, .int .i64 0), (3, .bool false), (4, .int .u64 0), (5, .int .u8 0), (6, .int .u8 0)] #[.int .i64 0, .int .i64 0, .int .i64 0, .bool false, .int .u64 0, .int .u8 0, .int .u8 0] hWx
     simp only [List.set] at hSx
     have D4 := cells_say (hSx.blk 6) _ 0 rfl
     have D5 := cells_say (hSx.blk 5) _ 0 rfl
     simp only [cellsSay, List.drop_zero, Nat.reduceAdd, and_true] at D4 D5
     exact bodyPost_ret (v := .tuple #[.agg #[.slice none 0 0, .int .i64 0, .slice none 0 0, .int .i64 0], .agg #[.int .i64 0, .int .i64 0, .int .i64 0, .bool false, .int .u64 0, .int .u8 0, .int .u8 0], .int .u16 61]) (by simp [results, Tryz.results52, go_sem, D4, D5]) rfl (by rw [hr2]; exact ⟨by have := hSx.b; rw [HG3.out] at this; exact this, fun _ => rfl, fun h0 => by cases h0⟩)
    have k4c : ¬ ((ch : Nat) : Int) < ((sl : Nat) : Int) := by omega
    have hsl0 : 0 < sl := by have := HK2.out; omega
    obtain ⟨x0, hx0⟩ : ∃ x, S[0]? = some x := ⟨_, List.getElem?_eq_getElem (by rw [← HSl.out.1]; exact hsl0)⟩
    obtain ⟨gu, ou, hU, hcu⟩ := HO13.out.2.2 0 x0 hx0
    subst hU
    have CU : V13.cell? ⟨gu, ou, none⟩ = some (.int .i64 x0.1) := by simpa using hcu 0 _ rfl
    have hRV := HR5.out.below HB5.out
    have hOp := bopens_any hRV.rd hRV.ok.pn hRV.ne hRV.few x0.1
    obtain ⟨bo, hbo⟩ : ∃ b, b = opensB C x0.1 := ⟨_, rfl⟩
    rw [show decide (s.ps.length = 1 ∨ s.fl < x0.1) = bo by rw [hbo, Bool.eq_iff_iff, decide_eq_true_eq]; exact hRV.opens x0.1] at hOp
    have HOp := Lib.hid hOp
    have HX0 := Lib.hid (And.intro hx0 hbo)
    have hsl00 : (0 : Int) < ((sl : Nat) : Int) := by omega
    clear hx0 hcu hRV hOp hbo
    cases bo
    ·have HR6 : Hid (r = (61, [])) := Lib.hid (by
      rw [HBS.out.2.2.1, ← HRR.out.1]
      unfold fitR
      rw [if_neg (fun k => by
       have h1 := k.2.2.2.2
       rw [← HSd.out, List.head?_eq_getElem?, HX0.out.1] at h1
       have h2 := HX0.out.2
       replace h1 : opensB C x0.1 = true := h1
       rw [h1] at h2
       cases h2)])
     go_wp2_with (go_at_call 68; refine HOp.out.mono ?_; rintro e w18 ⟨rfl, hw18⟩; rw [hw18]; clear hw18)
     have hr2 : r = (61, []) := HR6.out
     generalize hWx : World.setCell _ _ _ = Wx
     have hSx := (HS.out.put 6 g4 [(0, .slice none 0 0), (1, .int .i64 0), (2, .slice none 0 0), (3, .int .i64 0)] #[.slice none 0 0, .int .i64 0, .slice none 0 0, .int .i64 0] rfl).put 5 g5 [(0, .int .i64 0), (1, .int .i64 0), (2, .int .i64 0), (3, .bool false), (4, .int .u64 0), (5, .int .u8 0), (6, .int .u8 0)] #[.int .i64 0, .int .i64 0, .int .i64 0, .bool false, .int .u64 0, .int .u8 0, .int .u8 0] hWx
     simp only [List.set] at hSx
     have D4 := cells_say (hSx.blk 6) _ 0 rfl
     have D5 := cells_say (hSx.blk 5) _ 0 rfl
     simp only [cellsSay, List.drop_zero, Nat.reduceAdd, and_true] at D4 D5
     exact bodyPost_ret (v := .tuple #[.agg #[.slice none 0 0, .int .i64 0, .slice none 0 0, .int .i64 0], .agg #[.int .i64 0, .int .i64 0, .int .i64 0, .bool false, .int .u64 0, .int .u8 0, .int .u8 0], .int .u16 61]) (by simp [results, Tryz.results52, go_sem, D4, D5]) rfl (by rw [hr2]; exact ⟨by have := hSx.b; rw [HG3.out] at this; exact this, fun _ => rfl, fun h0 => by cases h0⟩)
    have hr0 : r = (0, S) := by
     rw [HBS.out.2.2.1, ← HRR.out.1]
     unfold fitR
     rw [if_pos ⟨HRR.out.2.1.symm, by rw [← HSl.out.2]; exact HK2.out, by show fn < cn; omega, by rw [← HSl.out.2]; exact k4, by
      rw [← HSd.out, List.head?_eq_getElem?, HX0.out.1]
      exact HX0.out.2.symm⟩, ← HSd.out]
    have hFS : FitS C ch bs S := by
     have h1 := HBS.out.2.2.2
     rw [hr0] at h1
     exact h1 rfl
    have HFS := Lib.hid (And.intro hr0 hFS)
    have HW13 := Lib.hid HS.out.b.size
    have hEn := cends_any A10 c10 (pack bs) ((bs.length : Nat) : Int) V13 (HS.out.own 2).bs (by have := HBS.out.1; unfold in64; omega) HBS.out.2.1 (tabGo HD.out.2.1 (by have := HS.out.b; rw [HG3.out] at this; exact this))
    rw [hFS.all, ← HBL.out.1, ← HBL.out.2] at hEn
    dsimp only at hEn
    rw [rcS_ends] at hEn
    have HEn := Lib.hid hEn
    have C10 := cells_say (HS.out.blk 1) _ 0 rfl
    simp only [cellsSay, List.drop_zero, Nat.reduceAdd, and_true] at C10
    clear hr0 hFS hEn
    go_upto_region 21 with (first | (go_at_call 68; refine HOp.out.mono ?_; rintro e w18 ⟨rfl, hw18⟩; rw [hw18]; clear hw18) | (go_at_call 69; refine HEn.out.mono ?_; rintro e w20 ⟨v20, rfl, o20, b20⟩; obtain ⟨E20, c20, rfl, -, -⟩ := o20.row Tryz.eltI))
    have hS20 := HS.out.cons (t := thR 3 encI 1 (.slice E20 (endsI S).length c20) (endsI S)) b20 (o20.mono (Nat.zero_le _)) (fun k hk => (World.ownsRow.lt o20 k hk).1)
    clear C3 C4 C5 C10 CB CU HS
    have HS := Lib.hid hS20
    have H20 := Lib.hid o20
    clear hS20 o20 b20
    have D2 := cells_say (HS.out.blk 2) _ 0 rfl
    have D1 := cells_say (HS.out.blk 1) _ 0 rfl
    have D5 := cells_say (HS.out.blk 5) _ 0 rfl
    have D6 := cells_say (HS.out.blk 6) _ 0 rfl
    have D7 := cells_say (HS.out.blk 7) _ 0 rfl
    simp only [cellsSay, List.drop_zero, Nat.reduceAdd, and_true] at D1 D2 D5 D6 D7
    go_region
    generalize hWx : World.setCell _ _ _ = Wx
    have hSx := ((HS.out.put 7 g4 [(0, .slice A10 pl c10), (1, .int .i64 (bl : Nat)), (2, .slice E20 (endsI S).length c20), (3, .int .i64 ((q.ah : Nat) : Int))] #[.slice A10 pl c10, .int .i64 (bl : Nat), .slice E20 (endsI S).length c20, .int .i64 ((q.ah : Nat) : Int)] rfl).put 6 g5 [(0, .int .i64 en), (1, .int .i64 el), (2, .int .i64 ed), (3, .bool eh), (4, .int .u64 (ev : Nat)), (5, .int .u8 (eL : Nat)), (6, .int .u8 (eX : Nat))] #[.int .i64 en, .int .i64 el, .int .i64 ed, .bool eh, .int .u64 (ev : Nat), .int .u8 (eL : Nat), .int .u8 (eX : Nat)] hWx).drew
    simp only [List.set] at hSx
    clear D1 D2 D5 D6 D7 hWx HS
    have HS := Lib.hid hSx
    clear hSx
    go_wp2_with fail
    have D4 := cells_say (HS.out.blk 7) _ 0 rfl
    have D5 := cells_say (HS.out.blk 6) _ 0 rfl
    simp only [cellsSay, List.drop_zero, Nat.reduceAdd, and_true] at D4 D5
    have hl : lastC ec0 S = ⟨en, el, ed, ⟨eh, ev, eL, eX⟩⟩ := by
     rw [HRR.out.2.2, HRR.out.1, HFS.out.2.all]
     exact (rcS_last0 S 0).symm
    refine bodyPost_ret (v := .tuple #[.agg #[.slice A10 pl c10, .int .i64 (bl : Nat), .slice E20 (endsI S).length c20, .int .i64 ((q.ah : Nat) : Int)], .agg #[.int .i64 en, .int .i64 el, .int .i64 ed, .bool eh, .int .u64 (ev : Nat), .int .u8 (eL : Nat), .int .u8 (eX : Nat)], .int .u16 0]) (by simp [results, Tryz.results52, go_sem, D4, D5]) rfl ?_
    rw [HFS.out.1]
    refine ⟨by have := HS.out.b; rw [HG3.out] at this; exact this, fun h0 => absurd rfl h0, fun _ => ⟨A10, c10, E20, c20, V13.heap.size, ?_, HW13.out, ?_, ?_, ?_⟩⟩
    ·show _ = Ending.returned (.tuple #[.agg #[.slice A10 (pack (bitsL S)).length c10, .int .i64 ((bitsL S).length : Nat), .slice E20 S.length c20, _], encVal (lastC ec0 S), _])
     rw [HFS.out.2.bits, ← HBL.out.1, ← HBL.out.2, endsI_len, HI.out.2.2.2.2.2.2, hl]
    ·show OwnB _ _ (.slice A10 (pack (bitsL S)).length c10) (pack (bitsL S))
     rw [HFS.out.2.bits, ← HBL.out.2]
     exact OwnB.raise (HS.out.own 3) (fun k hk => by
      have := (HS.out.all (thO (.slice A10 pl c10) (pack bs)) (by simp)).2 k hk
      rw [HG3.out] at this
      exact this)
    ·show ∀ k, (Value.slice A10 (pack (bitsL S)).length c10).ownBlock = some k → _
     rw [HFS.out.2.bits, ← HBL.out.2]
     exact fun k hk => (World.ownsRow.lt HO13.out.1 k hk).2
    ·show OwnR _ _ _ _ _ (.slice E20 S.length c20) (endsI S)
     rw [← endsI_len S]
     exact OwnR.raise (HS.out.at_ (t := thR 3 encI 1 (.slice E20 (endsI S).length c20) (endsI S)) 0 rfl) (fun k hk => (World.ownsRow.lt H20.out k hk).1)
  ·have hQ2 : ∀ w, (binOp .neq 36 (.agg #[.int .u32 (fc : Nat), .int .u32 (fb : Nat), .int .u32 (fn : Nat)]) (.agg #[.int .u32 (m : Nat), .int .u32 0, .int .u32 0])).run Tryz.prog w = .ok (.bool true) w := fun w => by
    have := nePlB_run fc fb fn m 0 0 w
    rw [decide_eq_false hst] at this
    exact this
   have hQ3 : ∀ w, (binOp .neq 36 (.agg #[.int .u32 (fc : Nat), .int .u32 (fb : Nat), .int .u32 (fn : Nat)]) (plV m 0 0)).run Tryz.prog w = .ok (.bool true) w := hQ2
   have HR6 : Hid (r = (122, [])) := Lib.hid (by
    rw [HRr.out, if_neg (by decide)]
    unfold fitC oldC
    rw [if_neg (by rw [← HEE.out]; exact HHe.out), if_neg (by rw [HM1.out]; exact hst)])
   clear hst
   go_upto_region 8 with fail
   refine wp_region_ext (by kernel_rfl) (by kernel_rfl) ?_
   repeat (go_big_quiet_step (first | (go_at_call 43; exact HLs.out _) | (go_at_call 44; exact HSt.out _)))
   refine wpQuiet_nil ?_
   rintro W9 ⟨y, hw9⟩
   replace HS := Lib.hid (HS.out.go (show Below w8.heap.size w8 W9 by rw [hw9]; exact plus_below w8 y))
   clear C3 hQ2 hQ3 hw9 HLs HSt
   have C4 := cells_say (HS.out.blk 3) _ 0 rfl
   have C5 := cells_say (HS.out.blk 2) _ 0 rfl
   simp only [cellsSay, List.drop_zero, Nat.reduceAdd, and_true] at C4 C5
   go_wp2_with fail
   have hr2 : r = (122, []) := HR6.out
   generalize hWx : World.setCell _ _ _ = Wx
   have hSx := (HS.out.put 3 g4 [(0, .slice none 0 0), (1, .int .i64 0), (2, .slice none 0 0), (3, .int .i64 0)] #[.slice none 0 0, .int .i64 0, .slice none 0 0, .int .i64 0] rfl).put 2 g5 [(0, .int .i64 0), (1, .int .i64 0), (2, .int .i64 0), (3, .bool false), (4, .int .u64 0), (5, .int .u8 0), (6, .int .u8 0)] #[.int .i64 0, .int .i64 0, .int .i64 0, .bool false, .int .u64 0, .int .u8 0, .int .u8 0] hWx
   simp only [List.set] at hSx
   have D4 := cells_say (hSx.blk 3) _ 0 rfl
   have D5 := cells_say (hSx.blk 2) _ 0 rfl
   simp only [cellsSay, List.drop_zero, Nat.reduceAdd, and_true] at D4 D5
   exact bodyPost_ret (v := .tuple #[.agg #[.slice none 0 0, .int .i64 0, .slice none 0 0, .int .i64 0], .agg #[.int .i64 0, .int .i64 0, .int .i64 0, .bool false, .int .u64 0, .int .u8 0, .int .u8 0], .int .u16 122]) (by simp [results, Tryz.results52, go_sem, D4, D5]) rfl (by rw [hr2]; exact ⟨by have := hSx.b; rw [HG3.out] at this; exact this, fun _ => rfl, fun h0 => by cases h0⟩)
end Go.Proofs.YtmcdollkmlcpbaaGreatDoor
set_option linter.unusedSimpArgs false
set_option linter.unusedVariables false
namespace Go.Proofs.YtmcdollkmlcpbaaGreatDoor
open Go.RowKit
set_option maxRecDepth 100000
def TakeO (B : Nat) (w0 : World) (X : Bl) (D' : BD) (cd : Nat) (ts : List Kt) (e : Ending) (w' : World) : Prop := e = .returned (.int .u16 (cd : Nat)) ∧ ∃ X', X'.q = X.q ∧ X'.D = D' ∧ OkB X' ∧ Sep B w0 w' (thBk X' :: ts)
set_option maxHeartbeats 16000000 in
theorem bTake_no {B : Nat} {w0 w : World} {X : Bl} {ts : List Kt} (h : Sep B w0 w (thBk X :: ts)) (ok : OkB X) (hT : Tab w) (f : FrD) (hf : f.ok) (A : Option Addr) (c : Nat) (hb : Bs w A f.l) (hl : f.l.length ≤ 1000) (hne : (fitD X.D f).1 ≠ 0) :
  Calls Tryz.prog 33 #[prB X, .agg (frC f A c)] w (TakeO B w0 X (takeD X.D f) (fitD X.D f).1 ts) := by
 have hmx : Tryz.prog.follows .mixedOrders = true := by kernel_rfl
 have htD : takeD X.D f = X.D := by unfold takeD; rw [if_neg hne]
 rw [htD]
 obtain ⟨W, hW⟩ : ∃ W, W = w.alloc (.cells (frC f A c) 39) := ⟨_, rfl⟩
 obtain ⟨g3, hg3⟩ : ∃ g, g = w.heap.size := ⟨_, rfl⟩
 have bW : Below w.heap.size w W := by rw [hW]; exact below_alloc w _
 have cg : Blk W g3 39 (frC f A c) := by rw [hW, hg3]; exact Blk.new _ _ _
 have hS := h.go bW
 have hFt := bfitted_any (RdK.of (hS.at_ 0 rfl)) ok (tabGo hT bW) f hf A c (hb.below bW) hl
 obtain ⟨⟨cd, S⟩, hr⟩ : ∃ r, r = fitD X.D f := ⟨_, rfl⟩
 rw [← hr] at hne hFt ⊢
 replace hne : cd ≠ 0 := hne
 have HFt := Lib.hid hFt
 have HS := Lib.hid (And.intro hS ok)
 have k1 : (((cd : Nat) : Int) != 0) = true := by simpa using hne
 obtain ⟨kd, ep, se, fc, fb, fn, cn, cl, sm, fl, nn⟩ := f
 show Calls _ _ _ _ (TakeO B w0 X X.D cd ts)
 have C0 := cells_say cg _ 0 rfl
 simp only [cellsSay, frC, List.drop_zero, Nat.reduceAdd, and_true] at C0
 clear h ok hT hf hb hl htD bW cg hS hFt hr
 simp only [frC] at hW HFt ⊢
 go_enter Tryz.func33, Tryz.ntmps33
 go_upto_region 1 with fail
 rw [← hW, ← hg3]
 clear hW hg3
 go_wp2_with (go_at_call 52; refine HFt.out.mono ?_; rintro e w2 ⟨b2, he, -⟩; obtain rfl := he hne)
 go_ret
 refine ⟨rfl, X, rfl, rfl, HS.out.2, ?_⟩
 exact (HS.out.1.go b2).go (below_alloc2 w2 _ _)
end Go.Proofs.YtmcdollkmlcpbaaGreatDoor
set_option linter.unusedSimpArgs false
set_option linter.unusedVariables false
namespace Go.Proofs.YtmcdollkmlcpbaaGreatDoor
open Go.RowKit
set_option maxRecDepth 100000
set_option maxHeartbeats 16000000 in
theorem bTake_ok {B : Nat} {w0 w : World} {X : Bl} {ts : List Kt} (h : Sep B w0 w (thBk X :: ts)) (ok : OkB X) (hT : Tab w) (f : FrD) (hf : f.ok) (A : Option Addr) (c : Nat) (hb : Bs w A f.l) (hl : f.l.length ≤ 1000) (h0 : (fitD X.D f).1 = 0) (hn : (X.D.at_ f.se).flatten.length + 24 ≤ 1000) :
  Calls Tryz.prog 33 #[prB X, .agg (frC f A c)] w (TakeO B w0 X (takeD X.D f) 0 ts) := by
 have hmx : Tryz.prog.follows .mixedOrders = true := by kernel_rfl
 have hokT := ok.D.take hf.2.2.1 hl hn
 obtain ⟨D', hD'⟩ : ∃ D, D = takeD X.D f := ⟨_, rfl⟩
 rw [← hD'] at hokT ⊢
 obtain ⟨W, hW⟩ : ∃ W, W = w.alloc (.cells (frC f A c) 39) := ⟨_, rfl⟩
 obtain ⟨g3, hg3⟩ : ∃ g, g = w.heap.size := ⟨_, rfl⟩
 have bW : Below w.heap.size w W := by rw [hW]; exact below_alloc w _
 have hS := h.box (frC f A c) 39
 rw [← hW, ← hg3] at hS
 have hFt := bfitted_any (RdK.of (hS.at_ 1 rfl)) ok (tabGo hT bW) f hf A c (hb.below bW) hl
 have hfs := fitD_S ok.D hl h0
 obtain ⟨⟨cd, S⟩, hr⟩ : ∃ r, r = fitD X.D f := ⟨_, rfl⟩
 have hD2 : D' = ⟨X.D.mo, X.D.ch, putM X.D.M f.se (setLast (X.D.at_ f.se) S f.cl)⟩ := by rw [hD']; unfold takeD; rw [if_pos h0, ← hr]
 rw [← hr] at h0 hFt hfs
 replace h0 : cd = 0 := h0
 subst h0
 obtain ⟨kd, ep, se, fc, fb, fn, cn, cl, sm, fl, nn⟩ := f
 have HN := Lib.hid hn
 have HX := Lib.hid (And.intro ok (And.intro hf (And.intro hfs (And.intro hD2 hokT))))
 obtain ⟨a, ha⟩ : ∃ a, a = totC (X.D.at_ se).dropLast := ⟨_, rfl⟩
 replace hFt : Calls _ _ _ _ (FitO W (0, S) (totC (X.D.at_ se).dropLast)) := hFt
 rw [← ha] at hFt
 have HA := Lib.hid ha
 have HFt := Lib.hid hFt
 have HS := Lib.hid hS
 have C0 := cells_say (hS.blk 0) _ 0 rfl
 simp only [cellsSay, frC, List.drop_zero, Nat.reduceAdd, and_true] at C0
 clear h ok hT hf hb hl bW hS hFt hr hfs hD2 hokT ha hD' hn
 simp only [frC] at hW HFt ⊢
 go_enter Tryz.func33, Tryz.ntmps33
 go_upto_region 1 with fail
 rw [← hW, ← hg3]
 clear hW hg3
 go_upto_region 2 with (go_at_call 52; refine HFt.out.mono ?_; rintro e w2 ⟨b2, -, he⟩; obtain ⟨A2, c2, E2, ec2, hh, rfl, hh1, ho2, hlt2, hr2⟩ := he rfl)
 have hS2 := HS.out.consL (us := [thR 3 encI 1 (.slice E2 S.length ec2) (endsI S), thO (.slice A2 (pack (bitsL S)).length c2) (pack (bitsL S))]) b2 (fun t ht => by
  simp only [List.mem_cons, List.not_mem_nil, or_false] at ht
  rcases ht with rfl | rfl
  ·exact ⟨hr2.mono (Nat.zero_le _), fun k hk => Nat.le_trans hh1 (World.ownsRow.lt hr2 k hk).1⟩
  ·exact ⟨ho2.mono (Nat.zero_le _), fun k hk => (World.ownsRow.lt ho2 k hk).1⟩) (by
  refine List.pairwise_cons.2 ⟨fun t ht k h1 h2 => ?_, List.pairwise_singleton _ _⟩
  rw [List.mem_singleton.1 ht] at h2
  have := (World.ownsRow.lt hr2 k h1).1
  have := hlt2 k h2
  omega)
 clear HS he hr2 ho2 hlt2 hh1 C0 HFt
 obtain ⟨⟨en, el, ed, ⟨eh, ev, eL, eX⟩⟩, hE0⟩ : ∃ E, E = lastC ec0 S := ⟨_, rfl⟩
 obtain ⟨pl, hpl⟩ : ∃ x, x = (pack (bitsL S)).length := ⟨_, rfl⟩
 obtain ⟨bl, hbl⟩ : ∃ x, x = (bitsL S).length := ⟨_, rfl⟩
 obtain ⟨sl, hsl⟩ : ∃ x, x = S.length := ⟨_, rfl⟩
 simp only [← hE0, ← hpl, ← hbl, ← hsl]
 rw [← hpl, ← hsl] at hS2
 have hS3 := (hS2.box #[.slice A2 pl c2, .int .i64 (bl : Nat), .slice E2 sl ec2, .int .i64 (a : Nat)] 95).box #[.int .i64 en, .int .i64 el, .int .i64 ed, .bool eh, .int .u64 (ev : Nat), .int .u8 (eL : Nat), .int .u8 (eX : Nat)] 88
 rw [World.size_alloc] at hS3
 have HE := Lib.hid (And.intro hE0 (And.intro hpl (And.intro hbl hsl)))
 obtain ⟨g6, hg6⟩ : ∃ g, g = w2.heap.size + 1 := ⟨_, rfl⟩
 obtain ⟨g5, hg5⟩ : ∃ g, g = w2.heap.size := ⟨_, rfl⟩
 rw [← hg6, ← hg5] at hS3 ⊢
 generalize hV3 : World.alloc (World.alloc _ _) _ = V3 at hS3 ⊢
 have hS4 := hS3.permB (List.perm_middle (l₁ := [_, _, _, _, _]) (a := thBk X) (l₂ := ts))
 have HO := Lib.hid (bser_open hS4 HX.out.1 se HX.out.2.1.2.2.1)
 have C3 := cells_say (hS3.blk 4) _ 0 rfl
 simp only [cellsSay, frC, List.drop_zero, Nat.reduceAdd, and_true] at C3
 clear hS2 hS3 hS4 hV3 hg5 hg6 hE0 hpl hbl hsl b2
 go_upto_region 5 with (go_at_call 29; refine HO.out.mono ?_; rintro e w4 ⟨s, rfl, hok, hcs, hS5, b4⟩)
 have hRs : RsS w4 s (X.D.at_ se) := ⟨RdS.of (hS5.at_ 0 rfl), hok, hcs, HX.out.1.D.at_ se⟩
 obtain ⟨q, hq, hqL⟩ := hRs.last
 have hps : s.ps = s.ps.dropLast ++ [q] := by
  have h1 := hRs.ne
  rw [List.getLast?_eq_some_getLast h1] at hq
  injection hq with hq
  rw [← hq, List.dropLast_concat_getLast]
 have hS6 := (Sep.openS hS5 hps).permB ((((List.perm_append_comm_assoc _ _ _).append_left _).trans (List.perm_append_comm_assoc _ _ _)).append_left _)
 have hq' : s.ps[s.ps.length - 1]? = some q := by rw [← List.getLast?_eq_getElem?]; exact hq
 obtain ⟨gp, hPA, hCC⟩ := hRs.rd.cells5 hok.pn hq'
 have HL := Lib.hid (fun (y : More) => (blast_any (hRs.rd.below (plus_below w4 y)) hok.pn hRs.ne hRs.few).mono (fun e w' ⟨he, hw⟩ => (⟨he, by rw [hw]; exact Below.refl _ _⟩ : e = Ending.returned (.int .i64 ((s.ps.length - 1 : Nat) : Int)) ∧ Below (plus w4 y).heap.size (plus w4 y) w')))
 obtain ⟨n, hn⟩ : ∃ n, n = s.ps.length := ⟨_, rfl⟩
 obtain ⟨m, hm⟩ : ∃ m, m = n - 1 := ⟨_, rfl⟩
 rw [← hn, ← hm] at hCC HL
 have hmn : m < n := by have := List.length_pos_iff.2 hRs.ne; omega
 have hn2 : n ≤ 1000000 := by rw [hn]; exact hRs.few
 have hah : q.ah = a := by
  have h1 := hok.ah _ q hq'
  rw [hcs, hRs.len, ← List.dropLast_eq_take] at h1
  rw [h1, HA.out]
 have C0 := fun y => (hCC y).1
 have CP : ∀ y : More, cellsSay (plus w4 y) g5 0 [.slice A2 pl c2, .int .i64 (bl : Nat), .slice E2 sl ec2, .int .i64 (a : Nat)] := fun y => cells_say ((hS6.go (plus_below w4 y)).blk 5) _ 0 rfl
 simp only [cellsSay, Nat.reduceAdd, and_true] at CP
 have HI := Lib.hid (And.intro hn (And.intro hm (And.intro hq' (And.intro hqL (And.intro hah (And.intro hps (And.intro hPA (And.intro hok (And.intro hcs hRs)))))))))
 have HS6 := Lib.hid hS6
 clear hCC hn hm hq hq' hqL hah hps hPA hok hcs hRs hS6 hS5 b4 HO C3
 refine wp_region_fresh_tail 8 [] [1, 5, 7] (fun k V z => if k = 1 then V = .pointer (some ⟨s.g, 0, none⟩) else if k = 5 then V = .int .i64 (m : Nat) else V = .pointer (some ⟨gp, m * 4, none⟩)) hmx (by kernel_rfl) (by kernel_rfl) ?_
 simp only [List.take_succ_cons, List.take_zero, List.drop_succ_cons, List.drop_zero]
 refine walkF_one none w4 rfl (by kernel_rfl) ?_; go_big_quiet_step (fail); refine wpQuiet_nil ?_
 refine walkF_make none w4 rfl rfl rfl (by kernel_rfl) (fun y => ?_) ?_
 ·refine grow_val (v := .pointer (some ⟨s.g, 0, none⟩)) (w' := plus w4 y) ?_ (Below.refl _ _) ?_
  ·simp [execOp, go_sem]
  ·exact rfl
 intro V1 z1 hV1 g1
 obtain rfl : V1 = .pointer (some ⟨s.g, 0, none⟩) := hV1
 conv => arg 11; simp [Act.put]
 iterate 3 (refine walkF_one none w4 rfl (by kernel_rfl) ?_; go_big_quiet_step (fail); refine wpQuiet_nil ?_)
 refine walkF_make none w4 rfl rfl rfl (by kernel_rfl) (fun y => ?_) ?_
 ·refine grow_call ?_ ((HL.out y).mono ?_)
  ·simp [execOp, go_sem]
  ·rintro e w5 ⟨rfl, b5⟩
   exact ⟨_, rfl, b5, rfl⟩
 intro V5 z5 hV5 g5'
 obtain rfl : V5 = .int .i64 (m : Nat) := hV5
 conv => arg 11; simp [Act.put]
 refine walkF_one none w4 rfl (by kernel_rfl) ?_; go_big_quiet_step (fail); refine wpQuiet_nil ?_
 refine walkF_make none w4 rfl rfl rfl (by kernel_rfl) (fun y => ?_) ?_
 ·refine grow_val (v := .pointer (some ⟨gp, m * 4, none⟩)) (w' := plus w4 y) ?_ (Below.refl _ _) ?_
  ·have k1 : (m : Int) < (n : Int) := by omega
   simp [execOp, go_sem, k1]
  ·exact rfl
 intro V6 z6 hV6 g6'
 obtain rfl : V6 = .pointer (some ⟨gp, m * 4, none⟩) := hV6
 conv => arg 11; simp [Act.put]
 refine walkF_end ?_
 intro V hV0 hEV
 have hS7 := HS6.out.go hV0
 clear hEV g1 g5' g6' C0 CP HL
 unfold serH serC at hS7
 rw [HI.out.2.2.2.2.2.2.1] at hS7
 simp only [List.cons_append, List.nil_append] at hS7
 have hk : (s.ps.map rawP)[m]? = some (rawP q) := by rw [List.getElem?_map, HI.out.2.1, HI.out.1, HI.out.2.2.1]; rfl
 have hlen : s.pn = (s.ps.map rawP).length := by rw [List.length_map]; exact HI.out.2.2.2.2.2.2.2.1.pn
 obtain ⟨gp', hgp', -, hrow⟩ := row_at Tryz.eltPr (hS7.at_ 1 rfl) hk
 injection hgp' with hgp'
 injection hgp' with hgp'
 subst hgp'
 have r0 : V.cell? ⟨gp, m * 4, none⟩ = some (.slice q.A (pack (bitsL q.L)).length q.c) := hrow 0 _ rfl
 have r1 : V.cell? ⟨gp, m * 4 + 1, none⟩ = some (.int .i64 ((bitsL q.L).length : Nat)) := hrow 1 _ rfl
 have r2 : V.cell? ⟨gp, m * 4 + 2, none⟩ = some (.slice q.E q.L.length q.ec) := hrow 2 _ rfl
 have r3 : V.cell? ⟨gp, m * 4 + 3, none⟩ = some (.int .i64 ((q.ah : Nat) : Int)) := hrow 3 _ rfl
 have hfz := fun i => row_froz (hS7.at_ 1 rfl) i
 have f0 := hfz (m * 4)
 have f1 := hfz (m * 4 + 1)
 have f2 := hfz (m * 4 + 2)
 have f3 := hfz (m * 4 + 3)
 have HS7 := Lib.hid hS7
 have HK := Lib.hid (And.intro hk hlen)
 clear hS7 hrow hfz hk hlen HS6 hV0
 go_upto_region 6 with fail
 generalize hV7 : World.setCell _ _ _ = V7
 have hk4 := HK.out.1
 have hmr : m < (s.ps.map rawP).length := (List.getElem?_eq_some_iff.1 hk4).1
 have a1 := HS7.out.turnR Tryz.eltPr 1 rfl HK.out.2 m 0 (rawP q) ⟨A2, pl, c2, (bitsL q.L).length, q.E, q.L.length, q.ec, q.ah⟩ (.slice A2 pl c2) hk4 (by decide) rfl
 have a2 := a1.turnR Tryz.eltPr 1 rfl (by first | exact HK.out.2 | (simp only [List.length_set]; exact HK.out.2)) m 1 ⟨A2, pl, c2, (bitsL q.L).length, q.E, q.L.length, q.ec, q.ah⟩ ⟨A2, pl, c2, bl, q.E, q.L.length, q.ec, q.ah⟩ (.int .i64 (bl : Nat)) (List.getElem?_set_self (by first | exact hmr | (simp only [List.length_set]; exact hmr))) (by decide) rfl
 rw [List.set_set] at a2
 have a3 := a2.turnR Tryz.eltPr 1 rfl (by first | exact HK.out.2 | (simp only [List.length_set]; exact HK.out.2)) m 2 ⟨A2, pl, c2, bl, q.E, q.L.length, q.ec, q.ah⟩ ⟨A2, pl, c2, bl, E2, sl, ec2, q.ah⟩ (.slice E2 sl ec2) (List.getElem?_set_self (by first | exact hmr | (simp only [List.length_set]; exact hmr))) (by decide) rfl
 rw [List.set_set] at a3
 have a4 := a3.turnR Tryz.eltPr 1 rfl (by first | exact HK.out.2 | (simp only [List.length_set]; exact HK.out.2)) m 3 ⟨A2, pl, c2, bl, E2, sl, ec2, q.ah⟩ ⟨A2, pl, c2, bl, E2, sl, ec2, a⟩ (.int .i64 (a : Nat)) (List.getElem?_set_self (by first | exact hmr | (simp only [List.length_set]; exact hmr))) (by decide) rfl
 rw [List.set_set, show (((V.setCell ⟨gp, m * 4 + 0, none⟩ (.slice A2 pl c2)).setCell ⟨gp, m * 4 + 1, none⟩ (.int .i64 (bl : Nat))).setCell ⟨gp, m * 4 + 2, none⟩ (.slice E2 sl ec2)).setCell ⟨gp, m * 4 + 3, none⟩ (.int .i64 (a : Nat)) = V7 from hV7] at a4
 simp only [List.set, List.set_set] at a4
 have HS8 := Lib.hid a4
 clear a1 a2 a3 a4 hV7 r0 r1 r2 r3 f0 f1 f2 f3 HS7
 have ne1 : s.g ≠ g6 := fun e => HS8.out.apart (i := 0) (j := 4) rfl rfl (by decide) s.g rfl e
 have D0 := cells_say (HS8.out.blk 0) _ 0 rfl
 have D4 := cells_say (HS8.out.blk 4) _ 0 rfl
 have D8 := cells_say (HS8.out.blk 8) _ 0 rfl
 simp only [cellsSay, frC, List.drop_zero, Nat.reduceAdd, and_true] at D0 D4 D8
 go_upto_region 7 with fail
 generalize hV8 : World.setCell _ _ _ = V8
 have hS9 := HS8.out.put 0 s.g [(1, .int .i64 en), (2, .int .i64 el), (3, .int .i64 ed), (4, .bool eh), (5, .int .u64 (ev : Nat)), (6, .int .u8 (eL : Nat)), (7, .int .u8 (eX : Nat))] #[.slice (some ⟨gp, 0, none⟩) s.pn s.pc, .int .i64 en, .int .i64 el, .int .i64 ed, .bool eh, .int .u64 (ev : Nat), .int .u8 (eL : Nat), .int .u8 (eX : Nat), .int .i64 s.fl] hV8
 simp only [List.set] at hS9
 clear D0 D4 D8 hV8 HS8
 obtain ⟨q', hq'⟩ : ∃ q' : Pm, q' = ⟨S, a, A2, c2, E2, ec2⟩ := ⟨_, rfl⟩
 have hmi : m = s.ps.dropLast.length := by rw [List.length_dropLast, ← HI.out.1]; exact HI.out.2.1
 have hrow : (s.ps.map rawP).set m ⟨A2, pl, c2, bl, E2, sl, ec2, a⟩ = (s.ps.dropLast ++ [q']).map rawP := by
  rw [List.map_append]
  conv => lhs; rw [HI.out.2.2.2.2.2.1, hmi]
  rw [map_set_last, hq', HE.out.2.1, HE.out.2.2.1, HE.out.2.2.2]
  rfl
 have hsel := hS9.sel (hs := [_, _, _, _, _, _, _, _, _]) [0, 1, 7, 6, 8] (by decide)
 obtain ⟨s1, hs1⟩ : ∃ s1 : Sl, s1 = ⟨s.g, some ⟨gp, 0, none⟩, s.pn, s.pc, s.ps.dropLast ++ [q'], lastC ec0 q'.L, s.fl⟩ := ⟨_, rfl⟩
 have hok1 := HI.out.2.2.2.2.2.2.2.1.turn (q' := q') HI.out.2.2.2.2.2.1 (by rw [hq', HI.out.2.2.2.2.1]) (some ⟨gp, 0, none⟩) s.pc
 rw [← hs1] at hok1
 have hS10 : Sep B w0 V8 (serH s1 (s1.ps.map rawP) q' ++ (s.ps.dropLast.flatMap pmT ++ (thB g3 39 (frC ⟨kd, ep, se, fc, fb, fn, cn, cl, sm, fl, nn⟩ A c) :: (bookR X se ++ ts)))) := by
  refine Sep.permB (us := _) ?_ ((List.perm_middle (a := thB g3 39 (frC ⟨kd, ep, se, fc, fb, fn, cn, cl, sm, fl, nn⟩ A c)) (l₁ := s.ps.dropLast.flatMap pmT) (l₂ := bookR X se ++ ts)).symm.append_left _)
  refine cast ?_ hsel
  congr 1
  have e1 : lastC ec0 q'.L = ⟨en, el, ed, ⟨eh, ev, eL, eX⟩⟩ := by rw [hq']; exact HE.out.1.symm
  have e2 : s1.ps.map rawP = (s.ps.map rawP).set m ⟨A2, pl, c2, bl, E2, sl, ec2, a⟩ := by rw [hrow, hs1]
  rw [e2]
  have e3 : q'.A = A2 ∧ q'.c = c2 ∧ q'.L = S ∧ q'.E = E2 ∧ q'.ec = ec2 := by rw [hq']; exact ⟨rfl, rfl, rfl, rfl, rfl⟩
  unfold serH serC
  rw [e3.1, e3.2.1, e3.2.2.1, e3.2.2.2.1, e3.2.2.2.2, ← HE.out.2.1, ← HE.out.2.2.2]
  rw [e3.2.2.1] at e1
  rw [hs1]
  dsimp only
  rw [e3.2.2.1, e1]
  rfl
 have hS11 := Sep.shutS hS10 (by rw [hs1])
 have hqS : q'.L = S := by rw [hq']
 have hc1 : s1.Cs = setLast (X.D.at_ se) S false := by rw [hok1.2, HI.out.2.2.2.2.2.2.2.2.1, hqS]
 obtain ⟨-, old, -, -, hFS⟩ := HX.out.2.2.1
 have hne : S ≠ [] := fun e => by have := hFS.pos; rw [e] at this; cases this
 have oc := HX.out.1.D.at_ se
 have hoc1 : OkC1 (setLast (X.D.at_ se) S false) := oc.set (fun e => by cases e) hFS.inc (hFS.pair oc (by have := HX.out.1.D.ch2; omega)) (by
  have h1 := HN.out
  replace h1 : (X.D.at_ se).flatten.length + 24 ≤ 1000 := h1
  have h2 := hFS.len
  have h3 := HX.out.1.D.ch2
  have h4 : (X.D.at_ se).dropLast.flatten.length ≤ (X.D.at_ se).flatten.length := by
   conv => rhs; rw [cs_flat oc.ne]
   rw [List.length_append]; omega
  omega)
 have hg1 : s1.g = s.g := by rw [hs1]
 have HS1 := Lib.hid (And.intro hS11 (And.intro hok1.1 (And.intro hc1 (And.intro hoc1 (And.intro hg1 hne)))))
 clear hS9 hsel hS10 hS11 hrow hmi hok1 hqS hc1 hne oc hoc1 hg1 hFS hs1 hq'
 have D3 := cells_say (HS1.out.1.blk 1) _ 0 rfl
 simp only [cellsSay, frC, List.drop_zero, Nat.reduceAdd, and_true] at D3
 cases cl
 ·go_upto_region 9 with fail
  have hSm := HS1.out.1.permB (List.Perm.swap _ _ _)
  have hS12 : Sep B w0 V8 (thSr s1 :: (bookR X se ++ ts)) := hSm.tail
  have CM : ∀ y : More, (plus V8 y).cell? ⟨X.q, 2, none⟩ = some (.map (some X.b)) := fun y => by
   have h1 : Blk (plus V8 y) X.q 104 X.cs := (hS12.go (plus_below V8 y)).at_ (t := thB X.q 104 X.cs) 1 rfl
   exact h1.cell 2
  have CS : ∀ y : More, (plus V8 y).cell? ⟨g3, 2, none⟩ = some (.int .u32 (se : Nat)) := fun y => ((HS1.out.1.go (plus_below V8 y)).blk 1).cell 2
  have HS12 := Lib.hid hS12
  clear hSm hS12 D3
  refine wp_region_fresh_tail 7 [] [1] (fun k V z => V = prB X) hmx (by kernel_rfl) (by kernel_rfl) ?_
  simp only [List.take_succ_cons, List.take_zero, List.drop_succ_cons, List.drop_zero]
  refine walkF_one none V8 rfl (by kernel_rfl) ?_; go_big_quiet_step (fail); refine wpQuiet_nil ?_
  refine walkF_make none V8 rfl rfl rfl (by kernel_rfl) (fun y => ?_) ?_
  ·refine grow_val (v := prB X) (w' := plus V8 y) ?_ (Below.refl _ _) ?_
   ·simp [execOp, go_sem]
   ·exact rfl
  intro V1 z1 hV1 g1
  obtain rfl : V1 = prB X := hV1
  conv => arg 11; simp [Act.put]
  iterate 5 (refine walkF_one none V8 rfl (by kernel_rfl) ?_; go_big_quiet_step (fail); refine wpQuiet_nil ?_)
  refine walkF_end ?_
  intro V9 hV9 hE9
  have hS13 := HS12.out.go hV9
  clear hE9 g1 CM CS
  have hmu : Mu prS V9 X.b X.M := hS13.at_ (t := thMu prS X.b X.M) 2 rfl
  have hml : X.M.length < maxLen := by
   have h1 := HX.out.1.D.few
   have h2 := HX.out.1.D.mo2
   have h3 : X.D.M.length = X.M.length := by unfold Bl.D; simp
   unfold maxLen; omega
  have hv2 : prS s1 = prS s := by unfold prS; rw [HS1.out.2.2.2.2.1]
  have HS13 := Lib.hid hS13
  have hse2 := HX.out.2.1.2.2.1
  clear hS13
  go_wp2_with (at_mapUpdate; go_must (refine step_putU rfl _ _ _ rfl bmU rfl hmu hml se hse2 rfl s1 hv2.symm ?_); intro w6 hm6 hgr6)
  go_ret
  refine ⟨rfl, X.put se s1, rfl, ?_, ?_, Sep.tookS HS13.out HX.out.1 hm6 hgr6⟩
  ·rw [Bl.put_D, HX.out.2.2.2.1, HS1.out.2.2.1]; rfl
  ·refine HX.out.1.put ?_ HS1.out.2.1
   rw [← Bl.put_D, show (X.put se s1).D = D' by rw [Bl.put_D, HX.out.2.2.2.1, HS1.out.2.2.1]; rfl]
   exact HX.out.2.2.2.2
 ·have HFi := Lib.hid (bfinish_any HS1.out.1 HS1.out.2.1 HS1.out.2.2.1 HS1.out.2.2.2.1 (by rw [setLast_last]; exact HS1.out.2.2.2.2.2))
  rw [show prS s1 = prS s by unfold prS; rw [HS1.out.2.2.2.2.1]] at HFi
  go_upto_region 9 with (go_at_call 40; refine HFi.out.mono ?_; rintro e w8 ⟨rfl, s2, hg2, hok2, hc2, hS2⟩)
  have HS2 := Lib.hid (And.intro hS2 (And.intro hok2 (And.intro hg2 hc2)))
  clear hg2 hok2 hc2 hS2 HFi D3
  have hSm := HS2.out.1.permB (List.Perm.swap _ _ _)
  have hS12 : Sep B w0 w8 (thSr s2 :: (bookR X se ++ ts)) := hSm.tail
  have CM : ∀ y : More, (plus w8 y).cell? ⟨X.q, 2, none⟩ = some (.map (some X.b)) := fun y => by
   have h1 : Blk (plus w8 y) X.q 104 X.cs := (hS12.go (plus_below w8 y)).at_ (t := thB X.q 104 X.cs) 1 rfl
   exact h1.cell 2
  have CS : ∀ y : More, (plus w8 y).cell? ⟨g3, 2, none⟩ = some (.int .u32 (se : Nat)) := fun y => ((HS2.out.1.go (plus_below w8 y)).blk 1).cell 2
  have HS12 := Lib.hid hS12
  clear hSm hS12
  refine wp_region_fresh_tail 7 [] [1] (fun k V z => V = prB X) hmx (by kernel_rfl) (by kernel_rfl) ?_
  simp only [List.take_succ_cons, List.take_zero, List.drop_succ_cons, List.drop_zero]
  refine walkF_one none w8 rfl (by kernel_rfl) ?_; go_big_quiet_step (fail); refine wpQuiet_nil ?_
  refine walkF_make none w8 rfl rfl rfl (by kernel_rfl) (fun y => ?_) ?_
  ·refine grow_val (v := prB X) (w' := plus w8 y) ?_ (Below.refl _ _) ?_
   ·simp [execOp, go_sem]
   ·exact rfl
  intro V1 z1 hV1 g1
  obtain rfl : V1 = prB X := hV1
  conv => arg 11; simp [Act.put]
  iterate 5 (refine walkF_one none w8 rfl (by kernel_rfl) ?_; go_big_quiet_step (fail); refine wpQuiet_nil ?_)
  refine walkF_end ?_
  intro V9 hV9 hE9
  have hS13 := HS12.out.go hV9
  clear hE9 g1 CM CS
  have hmu : Mu prS V9 X.b X.M := hS13.at_ (t := thMu prS X.b X.M) 2 rfl
  have hml : X.M.length < maxLen := by
   have h1 := HX.out.1.D.few
   have h2 := HX.out.1.D.mo2
   have h3 : X.D.M.length = X.M.length := by unfold Bl.D; simp
   unfold maxLen; omega
  have hv2 : prS s2 = prS s := by unfold prS; rw [HS2.out.2.2.1, HS1.out.2.2.2.2.1]
  have HS13 := Lib.hid hS13
  have hse2 := HX.out.2.1.2.2.1
  clear hS13
  go_wp2_with (at_mapUpdate; go_must (refine step_putU rfl _ _ _ rfl bmU rfl hmu hml se hse2 rfl s2 hv2.symm ?_); intro w6 hm6 hgr6)
  go_ret
  refine ⟨rfl, X.put se s2, rfl, ?_, ?_, Sep.tookS HS13.out HX.out.1 hm6 hgr6⟩
  ·rw [Bl.put_D, HX.out.2.2.2.1, HS2.out.2.2.2, ← setLast_true]; rfl
  ·refine HX.out.1.put ?_ HS2.out.2.1
   rw [← Bl.put_D, show (X.put se s2).D = D' by rw [Bl.put_D, HX.out.2.2.2.1, HS2.out.2.2.2, ← setLast_true]; rfl]
   exact HX.out.2.2.2.2
end Go.Proofs.YtmcdollkmlcpbaaGreatDoor
set_option linter.unusedSimpArgs false
set_option linter.unusedVariables false
namespace Go.Proofs.YtmcdollkmlcpbaaGreatDoor
open Go.RowKit
theorem bk_take {B : Nat} {w0 w : World} {q : Nat} {D : BD} {ts : List Kt} (h : Bk B w0 w q D ts) (hT : Tab w) (f : FrD) (hf : f.ok) (A : Option Addr) (c : Nat) (hb : Bs w A f.l) (hl : f.l.length ≤ 1000) (hn : (D.at_ f.se).flatten.length + 24 ≤ 1000) :
  Calls Tryz.prog 33 #[ptB q, .agg (frC f A c)] w fun e w' => e = .returned (.int .u16 ((fitD D f).1 : Nat)) ∧ Bk B w0 w' q (takeD D f) ts := by
 obtain ⟨X, rfl, rfl, ok, hS⟩ := h
 by_cases h0 : (fitD X.D f).1 = 0
 ·refine (bTake_ok hS ok hT f hf A c hb hl h0 hn).mono ?_
  rintro e w' ⟨rfl, X', h1, h2, h3, h4⟩
  exact ⟨by rw [h0], X', h1, h2, h3, h4⟩
 ·refine (bTake_no hS ok hT f hf A c hb hl h0).mono ?_
  rintro e w' ⟨rfl, X', h1, h2, h3, h4⟩
  exact ⟨rfl, X', h1, h2, h3, h4⟩
end Go.Proofs.YtmcdollkmlcpbaaGreatDoor
