/- Joined: Bk20, Bk21, Bk22, Bk23, Bk24, Bk25, Bk26, Bk27, Bk28. -/
import Derived.Test.YtmcdollkmlcpbaaGreatDoorQ41
import Derived.Test.YtmcdollkmlcpbaaGreatDoorQ9
import Derived.Laws.EntriesVeiled
import Derived.Test.YtmcdollkmlcpbaaGreatDoorQ40
import Derived.Test.YtmcdollkmlcpbaaGreatDoorQ26
import Derived.Test.YtmcdollkmlcpbaaGreatDoorQ19
import Derived.Deep.CutBlock
import Derived.Deep.DeepCutAuto
set_option linter.unusedSimpArgs false
set_option linter.unusedVariables false
set_option linter.unusedSimpArgs false
set_option linter.unusedVariables false
namespace Go.Proofs.YtmcdollkmlcpbaaGreatDoor
open Go.RowKit
set_option maxRecDepth 100000
set_option maxHeartbeats 16000000 in
theorem bsput_any {B : Nat} {w0 w : World} {ts : List Kt} {s : Sl} {C : CsT} (h : Sep B w0 w (thSr s :: ts)) (ok : OkSl s) (hc : s.Cs = C) (oc : OkC1 C) (hT : Tab w) (x : Sm) (hx : in64 x.1 ∧ x.2 < 18446744073709551616) (hl : lateB C x.1 = true) (hn : C.flatten.length < 1000) :
  Calls Tryz.prog 39 #[prS s, .agg #[.int .i64 x.1, .int .u64 (x.2 : Nat)]] w fun e w' => e = .returned (.int .u16 0) ∧ ∃ s', s'.g = s.g ∧ OkSl s' ∧ s'.Cs = setLast C (lastL C ++ [x]) false ∧ Sep B w0 w' (thSr s' :: ts) := by
 have hmx : Tryz.prog.follows .mixedOrders = true := by kernel_rfl
 have hR0 : RsS w s C := ⟨RdS.of (h.at_ 0 rfl), ok, hc, oc⟩
 obtain ⟨q, hq, hqL⟩ := hR0.last
 have hq' : s.ps[s.ps.length - 1]? = some q := by rw [← List.getLast?_eq_getElem?]; exact hq
 have hps : s.ps = s.ps.dropLast ++ [q] := by
  have h1 := hR0.ne
  have := List.dropLast_concat_getLast h1
  rw [List.getLast?_eq_some_getLast h1] at hq
  injection hq with hq
  rw [hq] at this
  exact this.symm
 have hqm := List.mem_of_getElem? hq'
 obtain ⟨n, hnn⟩ : ∃ n, n = s.ps.length := ⟨_, rfl⟩
 obtain ⟨m, hm⟩ : ∃ m, m = n - 1 := ⟨_, rfl⟩
 have hmn : m < n := by have := List.length_pos_iff.2 hR0.ne; omega
 have hn6 : n ≤ 1000000 := by rw [hnn]; exact hR0.few
 rw [← hnn, ← hm] at hq'
 obtain ⟨t, v⟩ := x
 obtain ⟨W, hW⟩ : ∃ W, W = w.alloc (.cells #[.int .i64 t, .int .u64 (v : Nat)] 42) := ⟨_, rfl⟩
 obtain ⟨g3, hg3⟩ : ∃ g, g = w.heap.size := ⟨_, rfl⟩
 have bW : Below w.heap.size w W := by rw [hW]; exact below_alloc w _
 have hS := (h.openS hps).box #[.int .i64 t, .int .u64 (v : Nat)] 42
 rw [← hW, ← hg3] at hS
 have hRW := hR0.below bW
 have HL := Lib.hid (fun (y : More) => hRW.rd.lastP hRW.ok.pn hRW.ne hRW.few y)
 rw [← hnn, ← hm] at HL
 obtain ⟨gp, hPA, hCC⟩ := hRW.rd.cells5 hRW.ok.pn (i := m) (p := q) hq'
 rw [← hnn] at hCC
 have C0 := fun y => (hCC y).1
 have HI := Lib.hid (And.intro hnn (And.intro hm (And.intro hq' (And.intro hqL (And.intro hps (And.intro hPA (And.intro hRW (And.intro hx hl))))))))
 have HS := Lib.hid hS
 have HT := Lib.hid (And.intro (tabGo hT bW) hn)
 clear h hR0 hq hqm hRW hCC hS bW hps hPA hT hx hl hn hnn hm hq' hqL ok hc oc
 go_enter Tryz.func39, Tryz.ntmps39
 go_upto_region 1 with fail
 rw [← hW, ← hg3]
 clear hW hg3
 refine wp_region_ext (by kernel_rfl) (by kernel_rfl) ?_
 repeat (go_big_quiet_step ((go_at_call 43; exact HL.out _)))
 refine wpQuiet_nil ?_
 rintro w7 ⟨y, rfl⟩
 clear C0 HL
 go_upto_region 2 with fail
 replace HS := Lib.hid (HS.out.go (plus_below W y))
 have hRb := HI.out.2.2.2.2.2.2.1.below (plus_below W y)
 have hTb := tabGo HT.out.1 (plus_below W y)
 generalize plus W y = w2 at HS hRb hTb ⊢
 have hps := HI.out.2.2.2.2.1
 obtain ⟨LL, hLL⟩ : ∃ L, L = lastL C := ⟨_, rfl⟩
 have hqL : q.L = LL := by rw [hLL]; exact HI.out.2.2.2.1
 obtain ⟨N1, hN1⟩ : ∃ N, N = bitsL (LL ++ [(t, v)]) := ⟨_, rfl⟩
 obtain ⟨la1, hla1⟩ : ∃ N, N = (pack N1).length := ⟨_, rfl⟩
 obtain ⟨n1, hn1⟩ : ∃ N, N = N1.length := ⟨_, rfl⟩
 obtain ⟨e1, he1⟩ : ∃ e, e = lastC ec0 (LL ++ [(t, v)]) := ⟨_, rfl⟩
 obtain ⟨e0, he0⟩ : ∃ e, e = s.e := ⟨_, rfl⟩
 have he0' : e0 = lastC ec0 LL := by rw [he0, hLL, ← hRb.cs]; exact hRb.ok.st
 have hLm : LL ∈ C := by rw [hLL]; exact hRb.oc.lastM
 have hl1 : LL.length < 1000 := by have := (sub_flat hLm).length_le; have := HT.out.2; omega
 have hP := fun (V : World) (hV : Below w2.heap.size w2 V) => cput_L q.A q.c LL (t, v) V (by rw [← hqL]; exact ((hRb.rd.below hV).bits q (List.mem_of_getElem? HI.out.2.2.1)).bs) hl1 (hRb.oc.incL hLm) HI.out.2.2.2.2.2.2.2.1 (fun y hy => by
  have h1 := HI.out.2.2.2.2.2.2.2.2
  have hne : lastL C ≠ [] := fun e => by rw [← hLL] at e; rw [e] at hy; cases hy
  rw [lateB_some ((last_snoc hne hRb.oc.ne).trans (by rw [← hLL]; exact hy))] at h1
  exact of_decide_eq_true h1) (tabGo hTb hV)
 rw [← hN1, ← he1, ← he0', ← hla1, ← hn1] at hP
 obtain ⟨la0, hla0⟩ : ∃ N, N = (pack (bitsL LL)).length := ⟨_, rfl⟩
 obtain ⟨n0, hn0⟩ : ∃ N, N = (bitsL LL).length := ⟨_, rfl⟩
 rw [← hla0, ← hn0] at hP
 obtain ⟨gp', hPA', hCC⟩ := hRb.rd.cells5 hRb.ok.pn HI.out.2.2.1
 rw [HI.out.2.2.2.2.2.1] at hPA'
 injection hPA' with hPA'
 injection hPA' with hPA'
 subst hPA'
 rw [← HI.out.1, hqL, ← hla0, ← hn0] at hCC
 have C1 := fun y => (hCC y).2.1
 have C2 := fun y => (hCC y).2.2.1
 have C3 : ∀ y : More, cellsSay (plus w2 y) s.g 0 [.slice s.PA s.pn s.pc, .int .i64 e0.n, .int .i64 e0.last, .int .i64 e0.delta, .bool e0.val.has, .int .u64 ((e0.val.prev : Nat) : Int), .int .u8 ((e0.val.lead : Nat) : Int), .int .u8 ((e0.val.width : Nat) : Int), .int .i64 s.fl] := fun y => by
  rw [he0]
  exact cells_say (hRb.rd.blk.below (plus_below w2 y) hRb.rd.blk.lt) _ 0 rfl
 have C4 : ∀ y : More, cellsSay (plus w2 y) g3 0 [.int .i64 t, .int .u64 (v : Nat)] := fun y => cells_say (((HS.out.go (plus_below w2 y)).blk 0)) _ 0 rfl
 simp only [cellsSay, Nat.reduceAdd, and_true] at C3 C4
 have HP := Lib.hid hP
 have HE := Lib.hid (And.intro hLL (And.intro hqL (And.intro hN1 (And.intro hla1 (And.intro hn1 (And.intro he1 (And.intro he0 (And.intro hla0 hn0))))))))
 have HR := Lib.hid hRb
 clear hCC hP hTb hRb hLL hqL hN1 hla1 hn1 he1 he0 he0' hla0 hn0 hLm hl1 hps
 refine wp_region_frw [none, none, none, none, none, none, none, none, none, none, none, none, none, none, none, none, some 14, some 15] [1, 5, 9, 14, 15] [16, 17] (fun k lo v z => if k = 1 then v = .pointer (some ⟨gp, m * 4, none⟩) else if k = 5 then v = .pointer (some ⟨s.g, 0, none⟩) else if k = 9 then ∃ (A3 : Option Addr) (c3 : Nat), v = .tuple #[.agg #[.slice A3 la1 c3, .int .i64 (n1 : Nat)], encA e1, .int .u16 0] ∧ OwnB z lo (.slice A3 la1 c3) (pack N1)
  else if k = 14 then v = .pointer (some ⟨lo, 0, none⟩) ∧ z.heap.size = lo + 1 ∧ Blk z lo 33 #[.slice none 0 0, .int .i64 0]
  else v = .pointer (some ⟨lo, 0, none⟩) ∧ z.heap.size = lo + 1 ∧ Blk z lo 88 #[.int .i64 0, .int .i64 0, .int .i64 0, .bool false, .int .u64 0, .int .u8 0, .int .u8 0]) hmx (by kernel_rfl) ?_
 refine walkH_one rfl rfl (by kernel_rfl) ?_; go_big_quiet_step (fail); refine wpQuiet_nil ?_
 refine walkH_make rfl rfl (by kernel_rfl) (fun x => ?_) ?_
 ·refine grow_val (v := .pointer (some ⟨gp, m * 4, none⟩)) (w' := plus w2 x) ?_ (Below.refl _ _) rfl
  simp [execOp, go_sem]
 rintro V1 lo1 z1 rfl hlo1 hz1 hbw1
 conv => arg 12; simp [Act.put]
 iterate 3 (refine walkH_one rfl rfl (by kernel_rfl) ?_; go_big_quiet_step (fail); refine wpQuiet_nil ?_)
 refine walkH_make rfl rfl (by kernel_rfl) (fun x => ?_) ?_
 ·refine grow_val (v := .pointer (some ⟨s.g, 0, none⟩)) (w' := plus w2 x) ?_ (Below.refl _ _) rfl
  simp [execOp, go_sem]
 rintro V5 lo5 z5 rfl hlo5 hz5 hbw5
 conv => arg 12; simp [Act.put]
 iterate 3 (refine walkH_one rfl rfl (by kernel_rfl) ?_; go_big_quiet_step (fail); refine wpQuiet_nil ?_)
 refine walkH_make rfl rfl (by kernel_rfl) (fun x => ?_) ?_
 ·refine grow_call ?_ ((HP.out _ (plus_below w2 x)).mono ?_)
  ·simp [execOp, go_sem]
  ·rintro e w4 ⟨A3, c3, rfl, o3, b4⟩
   exact ⟨_, rfl, b4, A3, c3, rfl, o3⟩
 rintro V9 lo9 z9 ⟨A3, c3, rfl, o3⟩ hlo9 hz9 hb9
 conv => arg 12; simp [Act.put]
 iterate 4 (refine walkH_one rfl rfl (by kernel_rfl) ?_; go_big_quiet_step (fail); refine wpQuiet_nil ?_)
 refine walkH_make rfl rfl (by kernel_rfl) (fun x => ?_) ?_
 ·exact grow_alloc (by simp [execOp, go_sem]) ⟨rfl, by simp, Blk.new _ _ _⟩
 rintro V14 lo14 z14 ⟨rfl, hs14, hb14⟩ hlo14 hz14 hbw14
 conv => arg 12; simp [Act.put]
 refine walkH_make rfl rfl (by kernel_rfl) (fun x => ?_) ?_
 ·exact grow_alloc (by simp [execOp, go_sem]) ⟨rfl, by simp, Blk.new _ _ _⟩
 rintro V15 lo15 z15 ⟨rfl, hs15, hb15⟩ hlo15 hz15 hbw15
 conv => arg 12; simp [Act.put]
 refine walkH_store rfl rfl (j := 14) rfl (by kernel_rfl) (fun W hW hA => ?_)
 have hB : Blk W lo14 33 #[.slice none 0 0, .int .i64 0] := Agr.blk (s := ⟨z14, lo14, z14.heap.size⟩) hA hb14 (Nat.le_refl _) (by rw [hs14]; exact Nat.lt_succ_self _)
 obtain ⟨⟨x0, x1⟩, x2, x3⟩ := hB.duo
 refine ⟨(W.setCell ⟨lo14, 0, none⟩ (.slice A3 la1 c3)).setCell ⟨lo14, 1, none⟩ (.int .i64 (n1 : Nat)), by simp [execOp, go_sem, x0, x1, x2, x3], ((storeUpon.same W _).cell _ _ (Nat.le_refl _) (show lo14 < z14.heap.size by omega)).cell _ _ (Nat.le_refl _) (show lo14 < z14.heap.size by omega), fun hbz16 => ?_⟩
 have hb16 := hB.set2 (.slice A3 la1 c3) (.int .i64 (n1 : Nat))
 generalize (W.setCell ⟨lo14, 0, none⟩ (.slice A3 la1 c3)).setCell ⟨lo14, 1, none⟩ (.int .i64 (n1 : Nat)) = z16 at *
 clear hA hB x0 x1 x2 x3 hW
 conv => arg 12; simp [Act.put]
 refine walkH_store rfl rfl (j := 15) rfl (by kernel_rfl) (fun W hW hA => ?_)
 have hB : Blk W lo15 88 #[.int .i64 0, .int .i64 0, .int .i64 0, .bool false, .int .u64 0, .int .u8 0, .int .u8 0] := Agr.blk (s := ⟨z15, lo15, z15.heap.size⟩) hA hb15 (Nat.le_refl _) (by rw [hs15]; exact Nat.lt_succ_self _)
 have hcs := cells_say hB _ 0 rfl
 simp only [cellsSay, List.drop_zero, Nat.reduceAdd, and_true] at hcs
 refine ⟨sets W lo15 [(0, .int .i64 e1.n), (1, .int .i64 e1.last), (2, .int .i64 e1.delta), (3, .bool e1.val.has), (4, .int .u64 ((e1.val.prev : Nat) : Int)), (5, .int .u8 ((e1.val.lead : Nat) : Int)), (6, .int .u8 ((e1.val.width : Nat) : Int))], by simp [execOp, go_sem, hcs, sets],
  (((((((storeUpon.same W _).cell _ _ (Nat.le_refl _) (show lo15 < z15.heap.size by omega)).cell _ _ (Nat.le_refl _) (show lo15 < z15.heap.size by omega)).cell _ _ (Nat.le_refl _) (show lo15 < z15.heap.size by omega)).cell _ _ (Nat.le_refl _) (show lo15 < z15.heap.size by omega)).cell _ _ (Nat.le_refl _) (show lo15 < z15.heap.size by omega)).cell _ _ (Nat.le_refl _) (show lo15 < z15.heap.size by omega)).cell _ _ (Nat.le_refl _) (show lo15 < z15.heap.size by omega), fun hbz17 => ?_⟩
 have hb17 := hB.sets [(0, .int .i64 e1.n), (1, .int .i64 e1.last), (2, .int .i64 e1.delta), (3, .bool e1.val.has), (4, .int .u64 ((e1.val.prev : Nat) : Int)), (5, .int .u8 ((e1.val.lead : Nat) : Int)), (6, .int .u8 ((e1.val.width : Nat) : Int))]
 generalize sets W lo15 _ = z17 at *
 clear hA hB hcs hW
 conv => arg 12; simp [Act.put]
 refine walkH_one rfl rfl (by kernel_rfl) ?_; go_big_quiet_step (fail); refine wpQuiet_nil ?_
 refine walkH_end ?_
 intro W hR
 have k9 : OwnB W lo9 (.slice A3 la1 c3) (pack N1) := Agr.own (s := ⟨z9, lo9, z9.heap.size⟩) (hR.agr 9) o3 rfl
 have k14 : Blk W lo14 33 #[.slice A3 la1 c3, .int .i64 (n1 : Nat)] := Agr.blk (s := ⟨z16, lo14, z14.heap.size⟩) (hR.agr 14) hb16 (Nat.le_refl _) (by rw [hs14]; exact Nat.lt_succ_self _)
 have k15 : Blk W lo15 88 #[.int .i64 e1.n, .int .i64 e1.last, .int .i64 e1.delta, .bool e1.val.has, .int .u64 ((e1.val.prev : Nat) : Int), .int .u8 ((e1.val.lead : Nat) : Int), .int .u8 ((e1.val.width : Nat) : Int)] := Agr.blk (s := ⟨z17, lo15, z15.heap.size⟩) (hR.agr 15) hb17 (Nat.le_refl _) (by rw [hs15]; exact Nat.lt_succ_self _)
 have kb := hR.base
 have n14 : w2.heap.size ≤ lo14 := hlo14
 have n15 : w2.heap.size ≤ lo15 := hlo15
 have n9 : w2.heap.size ≤ lo9 := hlo9
 have ne1 : lo14 ≠ lo15 := blk_apart k14 k15 (by decide)
 have hS3 := HS.out.own2 kb k9 n9 k14 k15 n14 n15 ne1 (own_apart k9 k14 (by decide)) (own_apart k9 k15 (by decide))
 unfold serH at hS3
 have hPA := HI.out.2.2.2.2.2.1
 unfold serC at hS3
 rw [hPA] at hS3
 simp only [List.cons_append, List.nil_append] at hS3
 clear hR hb16 hb17 hb15 hb14 hbz16 hbz17 hbw14 hbw15 hb9 o3 hz9 hz14 hz15 hs14 hs15 hbw1 hbw5 hz1 hz5 hlo1 hlo5 hlo9 hlo14 hlo15 C1 C2 C3 C4 HP
 have ne2 : gp ≠ lo14 := fun e => hS3.apart (i := 5) (j := 1) rfl rfl (by decide) gp rfl e
 have ne3 : gp ≠ lo15 := fun e => hS3.apart (i := 5) (j := 2) rfl rfl (by decide) gp rfl e
 have ne4 : s.g ≠ lo14 := fun e => hS3.apart (i := 4) (j := 1) rfl rfl (by decide) s.g rfl e
 have ne5 : s.g ≠ lo15 := fun e => hS3.apart (i := 4) (j := 2) rfl rfl (by decide) s.g rfl e
 have ne6 : gp ≠ s.g := fun e => hS3.apart (i := 5) (j := 4) rfl rfl (by decide) gp rfl e
 have hk : (s.ps.map rawP)[m]? = some (rawP q) := by rw [List.getElem?_map, HI.out.2.2.1]; rfl
 have hlen : s.pn = (s.ps.map rawP).length := by rw [List.length_map]; exact HR.out.ok.pn
 obtain ⟨_, -, -, hrow⟩ := row_at Tryz.eltPr (hS3.at_ 5 rfl) hk
 obtain ⟨gp', hgp', -, hrow⟩ := row_at Tryz.eltPr (hS3.at_ 5 rfl) hk
 injection hgp' with hgp'
 injection hgp' with hgp'
 subst hgp'
 have r0 : W.cell? ⟨gp, m * 4, none⟩ = some (.slice q.A (pack (bitsL q.L)).length q.c) := hrow 0 _ rfl
 have r1 : W.cell? ⟨gp, m * 4 + 1, none⟩ = some (.int .i64 ((bitsL q.L).length : Nat)) := hrow 1 _ rfl
 have hfz := fun i => row_froz (hS3.at_ 5 rfl) i
 have f0 := hfz (m * 4)
 have f1 := hfz (m * 4 + 1)
 have Cs := cells_say (hS3.blk 4) _ 0 rfl
 have C14 := cells_say (hS3.blk 1) _ 0 rfl
 have C15 := cells_say (hS3.blk 2) _ 0 rfl
 simp only [cellsSay, List.drop_zero, Nat.reduceAdd, and_true] at Cs C14 C15
 have B1 := hS3.blk 1
 have B2 := hS3.blk 2
 have dq : (W.cell? ⟨lo14, 0, none⟩ = some (.slice A3 la1 c3) ∧ W.cell? ⟨lo14, 1, none⟩ = some (.int .i64 (n1 : Nat))) ∧ (W.cell? ⟨lo15, 0, none⟩ = some (.int .i64 e1.n) ∧ W.cell? ⟨lo15, 1, none⟩ = some (.int .i64 e1.last) ∧ W.cell? ⟨lo15, 2, none⟩ = some (.int .i64 e1.delta) ∧ W.cell? ⟨lo15, 3, none⟩ = some (.bool e1.val.has) ∧ W.cell? ⟨lo15, 4, none⟩ = some (.int .u64 ((e1.val.prev : Nat) : Int)) ∧ W.cell? ⟨lo15, 5, none⟩ = some (.int .u8 ((e1.val.lead : Nat) : Int)) ∧ W.cell? ⟨lo15, 6, none⟩ = some (.int .u8 ((e1.val.width : Nat) : Int))) := ⟨⟨B1.cell 0, B1.cell 1⟩, B2.cell 0, B2.cell 1, B2.cell 2, B2.cell 3, B2.cell 4, B2.cell 5, B2.cell 6⟩
 have HS3 := Lib.hid hS3
 have HK := Lib.hid (And.intro hk hlen)
 clear hS3 hrow hfz hk hlen B1 B2 k9 k14 k15 kb HS hPA n14 n15 n9
 go_upto_region 5 with fail
 have nf1 := fun (W : World) (i j : Nat) (u : Value) => World.cell?_setCell_far W ⟨gp, i, none⟩ ⟨lo14, j, none⟩ u (by simp <;> omega)
 have nf2 := fun (W : World) (i j : Nat) (u : Value) => World.cell?_setCell_far W ⟨gp, i, none⟩ ⟨lo15, j, none⟩ u (by simp <;> omega)
 have nf3 := fun (W : World) (i j : Nat) (u : Value) => World.cell?_setCell_far W ⟨s.g, i, none⟩ ⟨lo14, j, none⟩ u (by simp <;> omega)
 have nf4 := fun (W : World) (i j : Nat) (u : Value) => World.cell?_setCell_far W ⟨s.g, i, none⟩ ⟨lo15, j, none⟩ u (by simp <;> omega)
 have ndr : ∀ (W : World) (a : Addr), W.drew.cell? a = W.cell? a := fun _ _ => rfl
 go_region_held3 (fun w' => (w'.cell? ⟨lo14, 0, none⟩ = some (.slice A3 la1 c3) ∧ w'.cell? ⟨lo14, 1, none⟩ = some (.int .i64 (n1 : Nat))) ∧ (w'.cell? ⟨lo15, 0, none⟩ = some (.int .i64 e1.n) ∧ w'.cell? ⟨lo15, 1, none⟩ = some (.int .i64 e1.last) ∧ w'.cell? ⟨lo15, 2, none⟩ = some (.int .i64 e1.delta) ∧ w'.cell? ⟨lo15, 3, none⟩ = some (.bool e1.val.has) ∧ w'.cell? ⟨lo15, 4, none⟩ = some (.int .u64 ((e1.val.prev : Nat) : Int)) ∧ w'.cell? ⟨lo15, 5, none⟩ = some (.int .u8 ((e1.val.lead : Nat) : Int)) ∧ w'.cell? ⟨lo15, 6, none⟩ = some (.int .u8 ((e1.val.width : Nat) : Int)))) (first | (simp only [ndr]; with_reducible exact dq) | (simp only [ndr, nf1, nf2, nf3, nf4]; with_reducible exact dq)) (fail)
 go_upto_region 6 with fail
 clear dq nf1 nf2 nf3 nf4 ndr r0 r1 f0 f1 Cs C14 C15
 generalize hW5 : World.setCell _ _ _ = W5 at *
 have hS4 := HS3.out.turnR Tryz.eltPr 5 rfl HK.out.2 m 0 (rawP q) ⟨A3, la1, c3, (bitsL q.L).length, q.E, q.L.length, q.ec, q.ah⟩ (.slice A3 la1 c3) HK.out.1 (by decide) rfl
 have hk4 := HK.out.1
 have hmr : m < (s.ps.map rawP).length := (List.getElem?_eq_some_iff.1 hk4).1
 have hS5 := hS4.turnR Tryz.eltPr 5 rfl (by rw [List.length_set]; exact HK.out.2) m 1 ⟨A3, la1, c3, (bitsL q.L).length, q.E, q.L.length, q.ec, q.ah⟩ ⟨A3, la1, c3, n1, q.E, q.L.length, q.ec, q.ah⟩ (.int .i64 (n1 : Nat)) (List.getElem?_set_self hmr) (by decide) rfl
 rw [List.set_set] at hS5
 have hS6 := (hS5.put 4 s.g [(1, .int .i64 e1.n), (2, .int .i64 e1.last), (3, .int .i64 e1.delta), (4, .bool e1.val.has), (5, .int .u64 ((e1.val.prev : Nat) : Int)), (6, .int .u8 ((e1.val.lead : Nat) : Int)), (7, .int .u8 ((e1.val.width : Nat) : Int))] #[.slice (some ⟨gp, 0, none⟩) s.pn s.pc, .int .i64 e1.n, .int .i64 e1.last, .int .i64 e1.delta, .bool e1.val.has, .int .u64 ((e1.val.prev : Nat) : Int), .int .u8 ((e1.val.lead : Nat) : Int), .int .u8 ((e1.val.width : Nat) : Int), .int .i64 s.fl] hW5).drew
 simp only [List.set, List.set_set] at hS6
 clear hS4 hS5 hW5 HS3 hk4
 generalize W5.drew = W6 at *
 obtain ⟨rq, hrq⟩ : ∃ r : Pr, r = ⟨A3, la1, c3, n1, q.E, q.L.length, q.ec, q.ah⟩ := ⟨_, rfl⟩
 rw [← hrq] at hS6
 have hk6 : ((s.ps.map rawP).set m rq)[m]? = some rq := List.getElem?_set_self hmr
 obtain ⟨gp', hgp', -, hrow⟩ := row_at Tryz.eltPr (hS6.at_ 5 rfl) hk6
 injection hgp' with hgp'
 injection hgp' with hgp'
 subst hgp'
 have r2 : W6.cell? ⟨gp, m * 4 + 2, none⟩ = some (.slice q.E q.L.length q.ec) := hrow 2 _ (by rw [hrq]; rfl)
 have f2 := row_froz (hS6.at_ 5 rfl) (m * 4 + 2)
 have C14 := cells_say (hS6.blk 1) _ 0 rfl
 simp only [cellsSay, List.drop_zero, Nat.reduceAdd, and_true] at C14
 have HS6 := Lib.hid ((hS6.box #[.int .i64 (n1 : Nat)] 3).drew)
 have HK6 := Lib.hid (And.intro hk6 (And.intro hmr hrq))
 obtain ⟨qn, hqn⟩ : ∃ a, a = q.L.length := ⟨_, rfl⟩
 have HQN := Lib.hid hqn
 have hql : q.L.length ≤ 1000 := (HR.out.each q (List.mem_of_getElem? HI.out.2.2.1)).1
 rw [← hqn] at r2 hql
 clear hS6 hrow hk6 hmr hrq hqn
 have kA := fun W => keepA W
 go_region_law (refine step_appSep Tryz.eltI rfl (.tmp 45) (.tmp 48) rfl 8 (.slice q.E q.L.length q.ec) (endsI q.L) (by rw [← HQN.out]; simp [Act.eval, Act.put]) HS6.out rfl W6.heap.size 1 (n1 : Int) 3 #[.int .i64 (n1 : Nat)] (by simp [Act.eval, Act.put]) (HS6.out.blk 0) rfl (by rw [endsI_len, ← HQN.out]; unfold maxLen; omega) (by rw [endsI_len, ← HQN.out]; omega) ?_; intro g5 c5 w5 hS7 hsz7; have hS8 := hS7; simp only [List.set] at hS8; obtain ⟨gp9, hgp9, -, hrow9⟩ := row_at Tryz.eltPr (hS8.at_ 6 rfl) HK6.out.1; injection hgp9 with hgp9; injection hgp9 with hgp9; subst hgp9; have r9 : w5.cell? ⟨gp, m * 4 + 2, none⟩ = some (.slice q.E qn q.ec) := hrow9 2 _ (by rw [HK6.out.2.2, HQN.out]; rfl); have f9 := row_froz (hS8.at_ 6 rfl) (m * 4 + 2); clear hS7 hrow9)
 all_goals
  generalize hW7 : World.setCell _ _ _ = w7
  clear kA r2 f2 C14 r9 f9 hsz7
  have HW7 := Lib.hid (And.intro hW7 hS8)
  clear hW7 hS8
  go_wp2_with fail
  go_ret
  obtain ⟨hW7, hS8⟩ := HW7.out
  have hps := HI.out.2.2.2.2.1
  have hmi : m = s.ps.dropLast.length := by rw [List.length_dropLast, ← HI.out.1]; exact HI.out.2.1
  have hS9 := hS8.turnR Tryz.eltPr 6 rfl (by rw [List.length_set]; exact HK.out.2) m 2 rq ⟨A3, la1, c3, n1, some ⟨g5, 0, none⟩, q.L.length + 1, c5, q.ah⟩ (.slice (some ⟨g5, 0, none⟩) (q.L.length + 1) c5) HK6.out.1 (by decide) (by rw [HK6.out.2.2]; rfl)
  rw [show w5.setCell ⟨gp, m * 4 + 2, none⟩ (.slice (some ⟨g5, 0, none⟩) (q.L.length + 1) c5) = w7 by rw [← hW7]; first | rfl | simp [endsI_len]] at hS9
  simp only [List.set, List.set_set] at hS9
  refine ⟨rfl, ⟨s.g, some ⟨gp, 0, none⟩, s.pn, s.pc, s.ps.dropLast ++ [⟨LL ++ [(t, v)], q.ah, A3, c3, some ⟨g5, 0, none⟩, c5⟩], lastC ec0 (LL ++ [(t, v)]), s.fl⟩, rfl, ?_⟩
  have hok := HR.out.ok.turn (q' := ⟨LL ++ [(t, v)], q.ah, A3, c3, some ⟨g5, 0, none⟩, c5⟩) hps rfl (some ⟨gp, 0, none⟩) s.pc
  refine ⟨hok.1, by rw [hok.2, HR.out.cs, ← HE.out.1], Sep.shutS (q := ⟨LL ++ [(t, v)], q.ah, A3, c3, some ⟨g5, 0, none⟩, c5⟩) (init := s.ps.dropLast) ?_ rfl⟩
  have hsel := hS9.sel (hs := [_, _, _, _, _, _, _, _, _]) [5, 6, 1, 8] (by decide)
  have e1' := HE.out.2.2.2.2.2.1
  have q1 : q.L = LL := HE.out.2.1
  refine cast ?_ hsel
  congr 1
  congr 1
  unfold serH
  have h2 : (endsI q.L).length + 1 = (LL ++ [(t, v)]).length := by rw [endsI_len, q1, List.length_append]; rfl
  have h3 : endsI q.L ++ [(n1 : Int)] = endsI (LL ++ [(t, v)]) := by rw [endsI_snoc, q1, HE.out.2.2.2.2.1, HE.out.2.2.1]
  have h4 : (s.ps.map rawP).set m ⟨A3, la1, c3, n1, some ⟨g5, 0, none⟩, q.L.length + 1, c5, q.ah⟩ = (s.ps.dropLast ++ [(⟨LL ++ [(t, v)], q.ah, A3, c3, some ⟨g5, 0, none⟩, c5⟩ : Pm)]).map rawP := by
   rw [List.map_append]
   conv => lhs; rw [hps, hmi]
   rw [map_set_last]
   congr 1
   simp only [rawP, List.map_cons, List.map_nil, List.length_append, List.length_singleton]
   rw [q1, HE.out.2.2.2.1, HE.out.2.2.2.2.1, HE.out.2.2.1]
  simp only [List.filterMap_cons, List.filterMap_nil, List.getElem?_cons_succ, List.getElem?_cons_zero]
  rw [h2, h3, h4, ← HE.out.2.2.1, ← HE.out.2.2.2.1, ← e1']
  rfl
end Go.Proofs.YtmcdollkmlcpbaaGreatDoor
set_option linter.unusedSimpArgs false
set_option linter.unusedVariables false
namespace Go.Proofs.YtmcdollkmlcpbaaGreatDoor
open Go.RowKit
set_option maxRecDepth 100000
theorem OkSl.close {s : Sl} {C : CsT} (ok : OkSl s) (hc : s.Cs = C) (oc : OkC1 C) (hne : lastL C ≠ []) (PA : Option Addr) (c k : Nat) (hk : k = totC C) : OkSl ⟨s.g, PA, s.pn + 1, c, s.ps ++ [⟨[], k, none, 0, none, 0⟩], ec0, s.e.last⟩ ∧ (⟨s.g, PA, s.pn + 1, c, s.ps ++ [⟨[], k, none, 0, none, 0⟩], ec0, s.e.last⟩ : Sl).Cs = C ++ [[]] := by
 have hC' : (⟨s.g, PA, s.pn + 1, c, s.ps ++ [⟨[], k, none, 0, none, 0⟩], ec0, s.e.last⟩ : Sl).Cs = C ++ [[]] := by
  rw [← hc]; unfold Sl.Cs; rw [List.map_append]; rfl
 have hl : s.ps.length = C.length := by rw [← hc]; unfold Sl.Cs; rw [List.length_map]
 refine ⟨⟨?_, ?_, ?_, ?_⟩, hC'⟩
 ·rw [ok.pn, List.length_append]; rfl
 ·intro i p hi
  rw [hC']
  by_cases h1 : i < s.ps.length
  ·have h2 : (s.ps ++ [(⟨[], k, none, 0, none, 0⟩ : Pm)])[i]? = s.ps[i]? := List.getElem?_append_left h1
   have h3 := ok.ah i p (h2.symm.trans hi)
   rw [hc] at h3
   rw [List.take_append_of_le_length (by omega)]
   exact h3
  ·have h2 : i = s.ps.length := by
    have := (List.getElem?_eq_some_iff.1 hi).1
    simp at this
    omega
   subst h2
   have h4 : p = ⟨[], k, none, 0, none, 0⟩ := by simpa using hi.symm
   rw [h4, hl, List.take_left]
   exact hk
 ·rw [hC']
  unfold lastL
  rw [List.getLast?_concat]
  rfl
 ·intro x hx
  rw [hC', List.dropLast_concat] at hx
  show s.e.last = x.1
  rw [ok.st, hc]
  exact last_time _ (by rw [← last_snoc hne oc.ne]; exact hx)
theorem enc_new (k : Nat) : encPm ⟨[], k, none, 0, none, 0⟩ = [.slice none 0 0, .int .i64 0, .slice none 0 0, .int .i64 (k : Nat)] := by
 show ([.slice none (pack (bitsL [])).length 0, .int .i64 ((bitsL []).length : Nat), .slice none (0 : Nat) 0, .int .i64 (k : Nat)] : List Value) = _
 rw [show bitsL [] = [] from rfl, packN0]
 rfl
theorem Sep.addNil {B : Nat} {w0 w : World} {ts : List Kt} (h : Sep B w0 w ts) (k : Nat) : Sep B w0 w (pmT ⟨[], k, none, 0, none, 0⟩ ++ ts) := by
 have h1 : ∀ j, ¬ (thO (.slice none (pack (bitsL [])).length 0) (pack (bitsL []))).F j := fun j e => by cases e
 have h2 : ∀ j, ¬ (thR 3 encI 1 (.slice none 0 0) (endsI [])).F j := fun j e => by cases e
 refine h.consL (Below.refl _ _) (fun t ht => ?_) ?_
 ·rcases List.mem_cons.1 ht with rfl | ht
  ·refine ⟨?_, fun j e => (h1 j e).elim⟩
   show OwnB w 0 (.slice none (pack (bitsL [])).length 0) (pack (bitsL []))
   rw [show bitsL [] = [] from rfl, packN0]
   exact OwnB.nil w 0
  rcases List.mem_cons.1 ht with rfl | ht
  ·exact ⟨OwnR.nil w 0 _ _ _, fun j e => (h2 j e).elim⟩
  ·cases ht
 ·exact List.pairwise_cons.2 ⟨fun t ht j e => (h1 j e).elim, List.pairwise_cons.2 ⟨fun t ht => (by cases ht), .nil⟩⟩
set_option maxHeartbeats 16000000 in
theorem bfinish_any {B : Nat} {w0 w : World} {ts : List Kt} {s : Sl} {C : CsT} (h : Sep B w0 w (thSr s :: ts)) (ok : OkSl s) (hc : s.Cs = C) (oc : OkC1 C) (hne : lastL C ≠ []) :
  Calls Tryz.prog 40 #[prS s] w fun e w' => e = .returned (.tuple #[]) ∧ ∃ s', s'.g = s.g ∧ OkSl s' ∧ s'.Cs = C ++ [[]] ∧ Sep B w0 w' (thSr s' :: ts) := by
 have hmx : Tryz.prog.follows .mixedOrders = true := by kernel_rfl
 have hR0 : RsS w s C := ⟨RdS.of (h.at_ 0 rfl), ok, hc, oc⟩
 obtain ⟨q, hq, hqL⟩ := hR0.last
 have hq' : s.ps[s.ps.length - 1]? = some q := by rw [← List.getLast?_eq_getElem?]; exact hq
 have hqm := List.mem_of_getElem? hq'
 obtain ⟨n, hnn⟩ : ∃ n, n = s.ps.length := ⟨_, rfl⟩
 obtain ⟨m, hm⟩ : ∃ m, m = n - 1 := ⟨_, rfl⟩
 have hmn : m < n := by have := List.length_pos_iff.2 hR0.ne; omega
 have hn6 : n ≤ 1000000 := by rw [hnn]; exact hR0.few
 rw [← hnn, ← hm] at hq'
 have hS := Sep.openB h
 obtain ⟨gp, hPA, hCC⟩ := hR0.rd.cells5 hR0.ok.pn (i := m) (p := q) hq'
 rw [← hnn] at hCC
 obtain ⟨qa, hqa⟩ : ∃ a, a = pack (bitsL q.L) := ⟨_, rfl⟩
 obtain ⟨qn, hqn⟩ : ∃ a, a = (bitsL q.L).length := ⟨_, rfl⟩
 rw [← hqa, ← hqn] at hCC
 have HL := Lib.hid (fun (y : More) => (blast_any (hR0.rd.below (plus_below w y)) hR0.ok.pn hR0.ne hR0.few).mono (fun e w' ⟨he, hw⟩ => (⟨he, by rw [hw]; exact Below.refl _ _⟩ : e = Ending.returned (.int .i64 ((s.ps.length - 1 : Nat) : Int)) ∧ Below (plus w y).heap.size (plus w y) w')))
 rw [← hnn, ← hm] at HL
 have C0 := fun y => (hCC y).1
 have C1 := fun y => (hCC y).2.1
 have C2 := fun y => (hCC y).2.2.1
 have C3 := fun y => (hCC y).2.2.2.1
 have C4 := fun y => (hCC y).2.2.2.2
 obtain ⟨k1, hk1⟩ : ∃ k, k = totC C := ⟨_, rfl⟩
 have e1 : q.ah = totC C.dropLast := by rw [hR0.ok.ah _ _ hq', hR0.cs, List.dropLast_eq_take, hm, hnn, hR0.len]
 have e2 : q.ah + qn = k1 := by rw [e1, hqn, hk1, hqL, ← totC_one, ← totC_app, cs_split oc.ne]
 have e3 : k1 ≤ 146000 := by rw [hk1]; exact oc.tot
 obtain ⟨a, ha⟩ : ∃ a, a = q.ah := ⟨_, rfl⟩
 rw [← ha] at C4 e2
 have l1 : a ≤ 146000 := by omega
 have l2 : qn ≤ 146000 := by omega
 have hv : (a : Int) + (qn : Int) = (k1 : Int) := by omega
 have HI := Lib.hid (And.intro hnn (And.intro hq' (And.intro hqL (And.intro hPA (And.intro hR0 (And.intro hk1 (And.intro hne hqn)))))))
 have HS := Lib.hid hS
 clear h hR0 hq hqm hCC hS hPA hnn hq' hqL ok hc oc hk1 e1 e2 hqn hqa hne hm ha
 go_enter Tryz.func40, Tryz.ntmps40
 go_wp2_with fail
 refine wp_region_fresh_tail 9 [] [1, 5, 6, 8] (fun k V z => if k = 1 then V = .pointer (some ⟨s.g, 0, none⟩) else if k = 5 then V = .int .i64 (m : Nat) else if k = 6 then V = .pointer (some ⟨gp, m * 4, none⟩) else ∃ g, V = .pointer (some ⟨g, 0, none⟩) ∧ Blk z g 95 #[.slice none 0 0, .int .i64 0, .slice none 0 0, .int .i64 0] ∧ w.heap.size ≤ g) hmx (by kernel_rfl) (by kernel_rfl) ?_
 simp only [List.take_succ_cons, List.take_zero, List.drop_succ_cons, List.drop_zero]
 refine walkF_one none w rfl (by kernel_rfl) ?_; go_big_quiet_step (fail); refine wpQuiet_nil ?_
 refine walkF_make none w rfl rfl rfl (by kernel_rfl) (fun y => ?_) ?_
 ·refine grow_val (v := .pointer (some ⟨s.g, 0, none⟩)) (w' := plus w y) ?_ (Below.refl _ _) ?_
  ·simp [execOp, go_sem]
  ·exact rfl
 intro V1 z1 hV1 g1
 obtain rfl : V1 = .pointer (some ⟨s.g, 0, none⟩) := hV1
 conv => arg 11; simp [Act.put]
 iterate 3 (refine walkF_one none w rfl (by kernel_rfl) ?_; go_big_quiet_step (fail); refine wpQuiet_nil ?_)
 refine walkF_make none w rfl rfl rfl (by kernel_rfl) (fun y => ?_) ?_
 ·refine grow_call ?_ ((HL.out y).mono ?_)
  ·simp [execOp, go_sem]
  ·rintro e w4 ⟨rfl, b4⟩
   exact ⟨_, rfl, b4, rfl⟩
 intro V5 z5 hV5 g5
 obtain rfl : V5 = .int .i64 (m : Nat) := hV5
 conv => arg 11; simp [Act.put]
 refine walkF_make none w rfl rfl rfl (by kernel_rfl) (fun y => ?_) ?_
 ·refine grow_val (v := .pointer (some ⟨gp, m * 4, none⟩)) (w' := plus w y) ?_ (Below.refl _ _) ?_
  ·have k1 : (m : Int) < (n : Int) := by omega
   simp [execOp, go_sem, k1]
  ·exact rfl
 intro V6 z6 hV6 g6
 obtain rfl : V6 = .pointer (some ⟨gp, m * 4, none⟩) := hV6
 conv => arg 11; simp [Act.put]
 refine walkF_one none w rfl (by kernel_rfl) ?_; go_big_quiet_step (fail); refine wpQuiet_nil ?_
 refine walkF_make none w rfl rfl rfl (by kernel_rfl) (fun y => ?_) ?_
 ·have hr : ∀ w' : World, (execOp (Act.eval { tmps := #[], defers := [] }) { dst := none, op := .alloc 95, type := 0, pos := "", after := #[], guard := none }).run Tryz.prog w' = .ok (.value (.pointer (some ⟨w'.heap.size, 0, none⟩))) (w'.alloc (.cells #[.slice none 0 0, .int .i64 0, .slice none 0 0, .int .i64 0] 95)) := fun w' => by simp [execOp, go_sem]
  have hr2 := hr (plus w y)
  unfold growUpon
  simp only [execOp] at hr2 ⊢
  rw [hr2]
  exact ⟨below_alloc _ _, _, rfl, Blk.new _ _ _, (plus_below w y).size⟩
 intro V8 z8 hV8 g8
 obtain ⟨gl, rfl, b8, s8⟩ : ∃ g, V8 = .pointer (some ⟨g, 0, none⟩) ∧ Blk z8 g 95 #[.slice none 0 0, .int .i64 0, .slice none 0 0, .int .i64 0] ∧ w.heap.size ≤ g := hV8
 conv => arg 11; simp [Act.put]
 refine walkF_end ?_
 intro V h0 hE
 have b9 : Blk V gl 95 #[.slice none 0 0, .int .i64 0, .slice none 0 0, .int .i64 0] := b8.below (hE 8) b8.lt
 clear hE g1 g5 g6 g8 b8
 have hS2 := HS.out.cons (t := thB gl 95 #[.slice none 0 0, .int .i64 0, .slice none 0 0, .int .i64 0]) h0 b9 (fun k hk => by have e : k = gl := hk; omega)
 have b9s : cellsSay V gl 0 [.slice none 0 0, .int .i64 0, .slice none 0 0, .int .i64 0] := cells_say b9 _ 0 rfl
 simp only [cellsSay, Nat.reduceAdd, and_true] at b9s
 go_upto_region 1 with fail
 generalize hV5 : World.setCell _ _ _ = V5
 have hS5 := hS2.put 0 gl [(0, .slice q.A qa.length q.c), (1, .int .i64 (qn : Nat)), (2, .slice q.E q.L.length q.ec), (3, .int .i64 (a : Nat))] #[.slice q.A qa.length q.c, .int .i64 (qn : Nat), .slice q.E q.L.length q.ec, .int .i64 (a : Nat)] hV5
 unfold serT serC at hS5
 rw [HI.out.2.2.2.1] at hS5
 simp only [List.set, List.cons_append] at hS5
 clear hV5 b9s b9 h0 hS2 C0 C1 C2 C3 C4 HL HS
 have Cg := cells_say (hS5.blk 0) _ 0 rfl
 have Cs := cells_say (hS5.blk 1) _ 0 rfl
 simp only [cellsSay, List.drop_zero, Nat.reduceAdd, and_true] at Cg Cs
 obtain ⟨pn, hpn⟩ : ∃ a, a = s.pn := ⟨_, rfl⟩
 have hpnn : s.pn = s.ps.length := HI.out.2.2.2.2.1.ok.pn
 have HPN := Lib.hid (And.intro hpn (And.intro hpnn hS5))
 have HS6 := Lib.hid ((hS5.box #[.slice none 0 0, .int .i64 (k1 : Nat), .slice none 0 0, .int .i64 0] 95).drew)
 clear HS6
 have HS6 := Lib.hid ((hS5.box #[.slice none 0 0, .int .i64 0, .slice none 0 0, .int .i64 (k1 : Nat)] 95).drew)
 have hps3 : s.ps.length ≤ 1000000 := HI.out.2.2.2.2.1.few
 clear hS5 hpn hpnn
 have kA := fun W => keepA W
 have hw := (show IntKind.i64.wrap (k1 : Int) = (k1 : Int) by rw [IntKind.wrap_i64]; omega)
 have T1 : (#[.slice none 0 0, .int .i64 0, .slice none 0 0, .int .i64 (k1 : Nat)] : Array Value) = (encPm ⟨[], k1, none, 0, none, 0⟩).toArray := by rw [enc_new]
 have HT1 := Lib.hid T1
 clear T1
 go_region_law (refine step_appSep Tryz.eltPm rfl (.tmp 15) (.tmp 23) rfl 3 (.slice (some ⟨gp, 0, none⟩) s.pn s.pc) s.ps (by simp [Act.eval, Act.put]) HS6.out rfl V5.heap.size 1 ⟨[], k1, none, 0, none, 0⟩ 95 #[.slice none 0 0, .int .i64 0, .slice none 0 0, .int .i64 (k1 : Nat)] (by simp [Act.eval, Act.put]) (HS6.out.blk 0) HT1.out (by unfold maxLen; omega) (by omega) ?_; intro g5 c5 w5 hS7 hsz7; have hS8 := hS7; simp only [List.set] at hS8; have C9 := cells_say (hS8.blk 2) _ 0 rfl; simp only [cellsSay, List.drop_zero, Nat.reduceAdd, and_true] at C9; clear hS7)
 all_goals
  generalize hW7 : World.setCell _ _ _ = w7
  have hS9 := hS8.put 2 s.g [(0, .slice (some ⟨g5, 0, none⟩) (s.ps.length + 1) c5)] #[.slice (some ⟨g5, 0, none⟩) (s.ps.length + 1) c5, .int .i64 s.e.n, .int .i64 s.e.last, .int .i64 s.e.delta, .bool s.e.val.has, .int .u64 ((s.e.val.prev : Nat) : Int), .int .u8 ((s.e.val.lead : Nat) : Int), .int .u8 ((s.e.val.width : Nat) : Int), .int .i64 s.fl] hW7
  simp only [List.set] at hS9
  clear kA Cg Cs C9 hsz7 hW7 hS8
  have C9 := cells_say (hS9.blk 2) _ 0 rfl
  simp only [cellsSay, List.drop_zero, Nat.reduceAdd, and_true] at C9
  have HS9 := Lib.hid hS9
  clear hS9 HS6
  go_wp2_with fail
  generalize hW8 : World.setCell _ _ _ = w8
  have hS10 := HS9.out.put 2 s.g [(8, .int .i64 s.e.last), (1, .int .i64 0), (2, .int .i64 0), (3, .int .i64 0), (4, .bool false), (5, .int .u64 0), (6, .int .u8 0), (7, .int .u8 0)] #[.slice (some ⟨g5, 0, none⟩) (s.ps.length + 1) c5, .int .i64 0, .int .i64 0, .int .i64 0, .bool false, .int .u64 0, .int .u8 0, .int .u8 0, .int .i64 s.e.last] hW8
  simp only [List.set] at hS10
  have HS10 := Lib.hid hS10
  clear hS10 hW8 C9
  refine bodyPost_end (results_none rfl _ _ _) rfl ?_
  obtain ⟨hpn, hpnn, -⟩ := HPN.out
  obtain ⟨hnn, hq', hqL, hPA, hR0, hk1, hne, hqn⟩ := HI.out
  have hok := hR0.ok.close hR0.cs hR0.oc hne (some ⟨g5, 0, none⟩) c5 k1 hk1
  refine ⟨rfl, ⟨s.g, some ⟨g5, 0, none⟩, s.pn + 1, c5, s.ps ++ [⟨[], k1, none, 0, none, 0⟩], ec0, s.e.last⟩, rfl, hok.1, hok.2, Sep.shutB ?_⟩
  have hsel := (HS10.out.sel (hs := [_, _, _, _]) [2, 3] (by decide)).addNil k1
  refine cast ?_ (hsel.permB ((List.perm_append_comm_assoc _ _ _).trans (List.Perm.append_left _ (List.perm_append_comm_assoc _ _ _))))
  congr 1
  unfold serT
  simp only [List.filterMap_cons, List.filterMap_nil, List.getElem?_cons_succ, List.getElem?_cons_zero, List.flatMap_append, List.flatMap_cons, List.flatMap_nil, List.append_nil, List.append_assoc, List.cons_append, List.nil_append, hpnn]
  rfl
end Go.Proofs.YtmcdollkmlcpbaaGreatDoor
set_option linter.unusedSimpArgs false
set_option linter.unusedVariables false
namespace Go.Proofs.YtmcdollkmlcpbaaGreatDoor
open Go.RowKit
set_option maxRecDepth 100000
theorem OkB.nd {X : Bl} (ok : OkB X) : (X.M.map Prod.fst).Nodup := by
 have h := ok.D.nd
 unfold Bl.D at h
 rw [List.map_map] at h
 exact h
def bookR (X : Bl) (x : Nat) : List Kt := thB X.q 104 X.cs :: thMu prS X.b X.M :: (delM X.M x).map fun p => thSr p.2
theorem perm_open {X : Bl} (ok : OkB X) {x : Nat} {s : Sl} (h : lookM X.M x = some s) : (bookT X).Perm (thSr s :: bookR X x) := by
 unfold bookT bookR
 have h1 := (perm_look ok.nd h).map fun p => thSr p.2
 rw [List.map_cons] at h1
 exact ((List.Perm.cons _ (List.Perm.cons _ h1)).trans (List.Perm.cons _ (List.Perm.swap _ _ _))).trans (List.Perm.swap _ _ _)
def Bl.put (X : Bl) (x : Nat) (s : Sl) : Bl := ⟨X.q, X.b, X.mo, X.ch, putM X.M x s⟩
theorem perm_back {X : Bl} (ok : OkB X) (x : Nat) (s : Sl) : (bookT (X.put x s)).Perm (thSr s :: (thB X.q 104 X.cs :: thMu prS X.b (putM X.M x s) :: (delM X.M x).map fun p => thSr p.2)) := by
 unfold bookT
 have h1 := (perm_put ok.nd x s).map fun p => thSr p.2
 rw [List.map_cons] at h1
 exact ((List.Perm.cons _ (List.Perm.cons _ h1)).trans (List.Perm.cons _ (List.Perm.swap _ _ _))).trans (List.Perm.swap _ _ _)
theorem bookR_none {X : Bl} {x : Nat} (h : lookM X.M x = none) : bookR X x = bookT X := by
 unfold bookR bookT
 rw [delM_none (lookM_none.1 h)]
theorem Bl.put_D (X : Bl) (x : Nat) (s : Sl) : (X.put x s).D = ⟨X.mo, X.ch, putM X.D.M x s.Cs⟩ := by
 unfold Bl.put Bl.D
 rw [put_map Sl.Cs]
theorem OkB.put {X : Bl} (ok : OkB X) {x : Nat} {s : Sl} (h : OkD ⟨X.mo, X.ch, putM X.D.M x s.Cs⟩) (hs : OkSl s) : OkB (X.put x s) := ⟨by rw [Bl.put_D]; exact h, fun p hp => by
 rcases mem_put hp with rfl | hp
 ·exact hs
 ·exact ok.sl p hp⟩
theorem bser_open {B : Nat} {w0 w : World} {X : Bl} {ts : List Kt} (h : Sep B w0 w (thBk X :: ts)) (ok : OkB X) (x : Nat) (hx : x < 4294967296) : Calls Tryz.prog 29 #[prB X, .int .u32 (x : Nat)] w fun e w' => ∃ s, e = .returned (prS s) ∧ OkSl s ∧ s.Cs = X.D.at_ x ∧ Sep B w0 w' (thSr s :: (bookR X x ++ ts)) ∧ Below w.heap.size w w' := by
 have hK := RdK.of (h.at_ 0 rfl)
 have hO := Sep.openB h
 cases hs : lookM X.M x with
 | some s =>
  refine (bseries_some hK.blk hK.mu x hx s hs).mono ?_
  rintro e w' ⟨rfl, rfl⟩
  have hm := lookM_mem hs
  exact ⟨s, rfl, ok.sl _ hm, (Bl.at_some hs).symm, hO.permB ((perm_open ok hs).append_right ts), Below.refl _ _⟩
 | none =>
  refine (bseries_none hK.blk hK.mu x hx hs).mono ?_
  rintro e w' ⟨b, g, rfl, h1, h2, h3, hP, hB⟩
  refine ⟨_, rfl, empty_ok b g, by rw [Bl.at_none hs]; rfl, ?_, hB⟩
  rw [bookR_none hs]
  refine hO.cons hB hP (fun k hk => ?_)
  obtain ⟨t, ht, hk⟩ := hk
  rcases List.mem_cons.1 ht with rfl | ht
  ·have e : k = g := hk; omega
  rcases List.mem_cons.1 ht with rfl | ht
  ·have e : some b = some k := hk
   injection e with e
   omega
  rcases List.mem_cons.1 ht with rfl | ht
  ·cases hk
  rcases List.mem_cons.1 ht with rfl | ht
  ·cases hk
  ·cases ht
end Go.Proofs.YtmcdollkmlcpbaaGreatDoor
set_option linter.unusedSimpArgs false
set_option linter.unusedVariables false
namespace Go.Proofs.YtmcdollkmlcpbaaGreatDoor
open Go.RowKit
set_option maxRecDepth 100000
theorem Sep.tookS {B : Nat} {w0 w w' : World} {X : Bl} {x : Nat} {s : Sl} {ts : List Kt} (h : Sep B w0 w (thSr s :: (bookR X x ++ ts))) (ok : OkB X) (hm : Mu prS w' X.b (putM X.M x s)) (hg : w.grownBy w' (some X.b)) : Sep B w0 w' (thBk (X.put x s) :: ts) := by
 have h1 := h.call (t' := thMu prS X.b (putM X.M x s)) 2 rfl (Tou.of_grown hg (fun k e => by injection e with e; exact e.symm)) hm (fun k hk => .inl hk)
 exact Sep.shutB (h1.permB ((perm_back ok x s).symm.append_right ts))
set_option maxHeartbeats 8000000 in
theorem bPut_any {B : Nat} {w0 w : World} {X : Bl} {ts : List Kt} (h : Sep B w0 w (thBk X :: ts)) (ok : OkB X) (hT : Tab w) (x : Nat) (hx : x < 4294967296) (z : Sm) (hz : in64 z.1 ∧ z.2 < 18446744073709551616) (hn : (X.D.at_ x).flatten.length < 1000) :
  Calls Tryz.prog 23 #[prB X, .int .u32 (x : Nat), .agg #[.int .i64 z.1, .int .u64 (z.2 : Nat)]] w fun e w' => e = .returned (.int .u16 (mayD X.D x z.1 : Nat)) ∧ ∃ X', X'.q = X.q ∧ X'.D = putD X.D x z ∧ OkB X' ∧ Sep B w0 w' (thBk X' :: ts) := by
 have hmx : Tryz.prog.follows .mixedOrders = true := by kernel_rfl
 obtain ⟨t, v⟩ := z
 obtain ⟨W, hW⟩ : ∃ W, W = w.alloc (.cells #[.int .i64 t, .int .u64 (v : Nat)] 42) := ⟨_, rfl⟩
 obtain ⟨g5, hg5⟩ : ∃ g, g = w.heap.size := ⟨_, rfl⟩
 have bW : Below w.heap.size w W := by rw [hW]; exact below_alloc w _
 have cg : Blk W g5 42 #[.int .i64 t, .int .u64 (v : Nat)] := by rw [hW, hg5]; exact Blk.new _ _ _
 have hS := h.go bW
 have HM := Lib.hid (bMay_any (RdK.of (hS.at_ 0 rfl)) ok x hx t v)
 have HS := Lib.hid (And.intro hS (And.intro ok (And.intro (tabGo hT bW) (And.intro hz hn))))
 have C := cells_say cg _ 0 rfl
 simp only [cellsSay, List.drop_zero, Nat.reduceAdd, and_true] at C
 have HC := Lib.hid cg
 obtain ⟨me, hme⟩ : ∃ m, m = mayD X.D x t := ⟨_, rfl⟩
 simp only
 rw [← hme] at HM ⊢
 by_cases hm0 : me = 0
 ·subst hm0
  have hm0 : mayD X.D x t = 0 := hme.symm
  have HM0 := Lib.hid hm0
  clear h hS bW cg hme hm0 hT hn hz ok
  go_enter Tryz.func23, Tryz.ntmps23
  go_upto_region 1 with fail
  rw [← hW, ← hg5]
  clear hW hg5
  go_upto_region 4 with (go_at_call 38; refine HM.out.mono ?_; rintro e w2 ⟨rfl, b2⟩)
  have HO := Lib.hid (bser_open (HS.out.1.go b2) HS.out.2.1 x hx)
  have HT2 := Lib.hid (tabGo HS.out.2.2.1 b2)
  replace HC := Lib.hid (HC.out.below b2 HC.out.lt)
  clear C b2 HM
  go_upto_region 5 with (go_at_call 29; refine HO.out.mono ?_; rintro e w3 ⟨s, rfl, hok, hcs, hS3, b3⟩)
  replace HC := Lib.hid (HC.out.below b3 HC.out.lt)
  have hoc := HS.out.2.1.D.at_ x
  obtain ⟨m1, m2⟩ := mayD_zero HM0.out
  have HP := Lib.hid (bsput_any hS3 hok hcs hoc (tabGo HT2.out b3) (t, v) HS.out.2.2.2.1 m2 HS.out.2.2.2.2)
  have C := cells_say HC.out _ 0 rfl
  simp only [cellsSay, List.drop_zero, Nat.reduceAdd, and_true] at C
  obtain ⟨g, hg⟩ : ∃ g, g = s.g := ⟨_, rfl⟩
  have HG := Lib.hid (And.intro hg (And.intro hoc m1))
  rw [show prS s = Value.pointer (some ⟨g, 0, none⟩) by rw [hg]] at HP ⊢
  clear hok hcs hS3 b3 HO HT2 hoc m1 m2 hg
  go_upto_region 8 with (go_at_call 39; refine HP.out.mono ?_; rintro e w4 ⟨rfl, s1, hg1, hok1, hc1, hS4⟩)
  have hoc1 : OkC1 (setLast (X.D.at_ x) (lastL (X.D.at_ x) ++ [(t, v)]) false) := by
   have := OkC1.put (ch := 0) (x := (t, v)) HG.out.2.1 HS.out.2.2.2.1 (mayD_zero HM0.out).2 HS.out.2.2.2.2
   unfold putCs at this
   rw [decide_eq_false (by omega)] at this
   exact this
  have hgg : s1.g = g := by rw [hg1, HG.out.1]
  have hR4 : RsS w4 s1 _ := ⟨RdS.of (hS4.at_ 0 rfl), hok1, hc1, hoc1⟩
  have hen : s1.e.n = (((lastL (X.D.at_ x)).length + 1 : Nat) : Int) := by
   have hl := hoc1.lenL hoc1.lastM
   have hi := hoc1.incL hoc1.lastM
   rw [setLast_last] at hl hi
   rw [hok1.st, hc1, setLast_last, (rows_ok _ ec0 ok0 (Int.le_refl _) (by show (0 : Int) + _ ≤ _; omega) hi).2.1, List.length_append]
   show (0 : Int) + _ = _
   simp
  obtain ⟨k, hk⟩ : ∃ k, k = (lastL (X.D.at_ x)).length + 1 := ⟨_, rfl⟩
  rw [← hk] at hen
  obtain ⟨ch, hch⟩ : ∃ c, c = X.ch := ⟨_, rfl⟩
  have hbk : Blk w4 X.q 104 X.cs := hS4.at_ (t := thB X.q 104 X.cs) 1 rfl
  have C1 : ∀ y : More, (plus w4 y).cell? ⟨g, 1, none⟩ = some (.int .i64 (k : Nat)) := fun y => by
   rw [← hgg, ← hen]
   exact (hR4.rd.blk.below (plus_below w4 y) hR4.rd.blk.lt).cell 1
  have C2 : ∀ y : More, (plus w4 y).cell? ⟨X.q, 1, none⟩ = some (.int .i64 (ch : Nat)) := fun y => by
   rw [hch]
   exact (hbk.below (plus_below w4 y) hbk.lt).cell 1
  have HK := Lib.hid (And.intro hg1 (And.intro hok1 (And.intro hc1 (And.intro hoc1 (And.intro hS4 (And.intro hk hch))))))
  have HGG := Lib.hid hgg
  clear C HP hg1 hok1 hc1 hoc1 hS4 hR4 hen hk hch hbk hgg HC
  have hend : ∀ (b : Bool) (w6 : World) (s2 : Sl), OkSl s2 → s2.Cs = setLast (X.D.at_ x) (lastL (X.D.at_ x) ++ [(t, v)]) b → b = decide (k = ch) → Sep B w0 w6 (thBk (X.put x s2) :: ts) → ∃ X', X'.q = X.q ∧ X'.D = putD X.D x (t, v) ∧ OkB X' ∧ Sep B w0 w6 (thBk X' :: ts) := fun b w6 s2 h1 h2 h3 h4 => by
   have e : (X.put x s2).D = putD X.D x (t, v) := by
    rw [Bl.put_D]
    unfold putD
    rw [if_pos HM0.out, h2, h3, HK.out.2.2.2.2.2.1, HK.out.2.2.2.2.2.2]
    rfl
   refine ⟨X.put x s2, rfl, e, HS.out.2.1.put ?_ h1, h4⟩
   rw [← Bl.put_D, e]
   exact HS.out.2.1.D.put hx HS.out.2.2.2.1 HM0.out HS.out.2.2.2.2
  have HEnd := Lib.hid hend
  clear hend
  by_cases hkc : k = ch
  ·have d1 : ((k : Int) == (ch : Int)) = true := beq_iff_eq.2 (by omega)
   have hkc2 := Lib.hid hkc
   clear hkc
   refine wp_region_ext (by kernel_rfl) (by kernel_rfl) ?_
   repeat (go_big_quiet_step (fail))
   refine wpQuiet_nil ?_
   rintro w7 ⟨y, rfl⟩
   clear C1 C2
   have HF := Lib.hid (bfinish_any (HK.out.2.2.2.2.1.go (plus_below w4 y)) HK.out.2.1 HK.out.2.2.1 HK.out.2.2.2.1 (by rw [setLast_last]; simp))
   rw [show prS s1 = Value.pointer (some ⟨g, 0, none⟩) by rw [← HGG.out]] at HF
   go_upto_region 10 with (go_at_call 40; refine HF.out.mono ?_; rintro e w5 ⟨rfl, s2, hg2, hok2, hc2, hS5⟩)
   have hbk : Blk w5 X.q 104 X.cs := hS5.at_ (t := thB X.q 104 X.cs) 1 rfl
   have C5 : w5.cell? ⟨X.q, 2, none⟩ = some (.map (some X.b)) := hbk.cell 2
   have hmu : Mu prS w5 X.b X.M := hS5.at_ (t := thMu prS X.b X.M) 2 rfl
   have hml : X.M.length < maxLen := by
    have h1 := HS.out.2.1.D.few
    have h2 := HS.out.2.1.D.mo2
    have h3 : X.D.M.length = X.M.length := by unfold Bl.D; simp
    unfold maxLen; omega
   have HX := Lib.hid (And.intro hok2 (And.intro hc2 hS5))
   have hv2 : prS s2 = Value.pointer (some ⟨g, 0, none⟩) := by unfold prS; rw [hg2, HGG.out]
   clear hok2 hc2 hS5 hbk hg2 HF
   go_wp2_with (at_mapUpdate; go_must (refine step_putU rfl _ _ _ rfl bmU rfl hmu hml x hx rfl s2 hv2.symm ?_); intro w6 hm6 hgr6)
   go_ret
   refine ⟨rfl, HEnd.out true w6 s2 HX.out.1 (by rw [HX.out.2.1, setLast_true]) (decide_eq_true hkc2.out).symm (Sep.tookS HX.out.2.2 HS.out.2.1 hm6 hgr6)⟩
  ·have d1 : ((k : Int) == (ch : Int)) = false := beq_eq_false_iff_ne.2 (by omega)
   have hkc2 := Lib.hid hkc
   clear hkc
   refine wp_region_ext (by kernel_rfl) (by kernel_rfl) ?_
   repeat (go_big_quiet_step (fail))
   refine wpQuiet_nil ?_
   rintro w5 ⟨y, rfl⟩
   clear C1 C2
   have hS5 := HK.out.2.2.2.2.1.go (plus_below w4 y)
   generalize plus w4 y = w5 at hS5 ⊢
   have hbk : Blk w5 X.q 104 X.cs := hS5.at_ (t := thB X.q 104 X.cs) 1 rfl
   have C5 : w5.cell? ⟨X.q, 2, none⟩ = some (.map (some X.b)) := hbk.cell 2
   have hmu : Mu prS w5 X.b X.M := hS5.at_ (t := thMu prS X.b X.M) 2 rfl
   have hml : X.M.length < maxLen := by
    have h1 := HS.out.2.1.D.few
    have h2 := HS.out.2.1.D.mo2
    have h3 : X.D.M.length = X.M.length := by unfold Bl.D; simp
    unfold maxLen; omega
   have HX := Lib.hid hS5
   have hv2 : prS s1 = Value.pointer (some ⟨g, 0, none⟩) := by unfold prS; rw [HGG.out]
   clear hS5 hbk
   go_wp2_with (at_mapUpdate; go_must (refine step_putU rfl _ _ _ rfl bmU rfl hmu hml x hx rfl s1 hv2.symm ?_); intro w6 hm6 hgr6)
   go_ret
   refine ⟨rfl, HEnd.out false w6 s1 HK.out.2.1 HK.out.2.2.1 (decide_eq_false hkc2.out).symm (Sep.tookS HX.out HS.out.2.1 hm6 hgr6)⟩
 ·have hm1 : ¬ (me : Int) = 0 := by omega
  have hd : putD X.D x (t, v) = X.D := by unfold putD; rw [if_neg (by show ¬ mayD X.D x t = 0; rw [← hme]; exact hm0)]
  have HD := Lib.hid hd
  clear h hS bW cg hme hm0 hT hn hz ok hd
  go_enter Tryz.func23, Tryz.ntmps23
  go_upto_region 1 with fail
  rw [← hW, ← hg5]
  clear hW hg5
  go_wp2_with (go_at_call 38; refine HM.out.mono ?_; rintro e w2 ⟨rfl, b2⟩)
  go_ret
  exact ⟨rfl, X, rfl, HD.out.symm, HS.out.2.1, HS.out.1.go b2⟩
end Go.Proofs.YtmcdollkmlcpbaaGreatDoor
set_option linter.unusedSimpArgs false
set_option linter.unusedVariables false
namespace Go.Proofs.YtmcdollkmlcpbaaGreatDoor
open Go.RowKit
set_option maxRecDepth 100000
theorem okD_new (m c : Nat) (h1 : 1 ≤ m) (h2 : m ≤ 64) (h3 : 1 ≤ c) (h4 : c ≤ 24) : OkD ⟨m, c, []⟩ := ⟨h1, h2, h3, h4, Nat.zero_le _, .nil, fun p h => (by cases h), fun p h => (by cases h), fun p h => (by cases h)⟩
theorem bNew_sep {B : Nat} {w0 w : World} {ts : List Kt} (h : Sep B w0 w ts) (m c : Nat) (h1 : 1 ≤ m) (h2 : m ≤ 64) (h3 : 1 ≤ c) (h4 : c ≤ 24) : Calls Tryz.prog 16 #[.int .i64 (m : Nat), .int .i64 (c : Nat)] w fun e w' => ∃ X, e = .returned (prB X) ∧ X.D = ⟨m, c, []⟩ ∧ OkB X ∧ Sep B w0 w' (thBk X :: ts) := by
 refine (bnew_any m c h1 h2 h3 h4 w).mono ?_
 rintro e w' ⟨q, rfl, hq, rfl⟩
 subst hq
 refine ⟨⟨w.heap.size + 1, w.heap.size, m, c, []⟩, rfl, rfl, ⟨okD_new m c h1 h2 h3 h4, fun p h => (by cases h)⟩, Sep.shutB ?_⟩
 have s1 := h.cons (t := thMu prS w.heap.size []) (below_alloc w _) (Mu.made w) (fun k hk => by have e : k = w.heap.size := hk; omega)
 have s2 := s1.box #[.int .i64 (m : Nat), .int .i64 (c : Nat), .map (some w.heap.size)] 104
 rw [World.size_alloc] at s2
 exact s2
def Bk (B : Nat) (w0 w : World) (q : Nat) (D : BD) (ts : List Kt) : Prop := ∃ X : Bl, X.q = q ∧ X.D = D ∧ OkB X ∧ Sep B w0 w (thBk X :: ts)
abbrev ptB (q : Nat) : Value := .pointer (some ⟨q, 0, none⟩)
section
variable {B : Nat} {w0 w w' : World} {q : Nat} {D : BD} {ts us : List Kt}
theorem Bk.okD (h : Bk B w0 w q D ts) : OkD D := by
 obtain ⟨X, rfl, rfl, ok, _⟩ := h
 exact ok.D
theorem Bk.go (h : Bk B w0 w q D ts) (b : Below w.heap.size w w') : Bk B w0 w' q D ts := by
 obtain ⟨X, h1, h2, ok, hS⟩ := h
 exact ⟨X, h1, h2, ok, hS.go b⟩
theorem Bk.sep (h : Bk B w0 w q D ts) : Sep B w0 w ts := by
 obtain ⟨X, h1, h2, ok, hS⟩ := h
 exact hS.tail
theorem Bk.b (h : Bk B w0 w q D ts) : Below B w0 w := h.sep.b
theorem Bk.cons {t : Kt} (h : Bk B w0 w q D ts) (b : Below w.heap.size w w') (hP : t.P w') (hF : ∀ k, t.F k → w.heap.size ≤ k) : Bk B w0 w' q D (t :: ts) := by
 obtain ⟨X, h1, h2, ok, hS⟩ := h
 exact ⟨X, h1, h2, ok, (hS.cons b hP hF).permB (List.Perm.swap _ _ _)⟩
theorem Bk.box (h : Bk B w0 w q D ts) (cs : Array Value) (t : TypeId) : Bk B w0 (w.alloc (.cells cs t)) q D (thB w.heap.size t cs :: ts) := h.cons (below_alloc w _) (Blk.new w t cs) (fun k e => by have e2 : k = w.heap.size := e; omega)
theorem bk_new (h : Sep B w0 w ts) (m c : Nat) (h1 : 1 ≤ m) (h2 : m ≤ 64) (h3 : 1 ≤ c) (h4 : c ≤ 24) : Calls Tryz.prog 16 #[.int .i64 (m : Nat), .int .i64 (c : Nat)] w fun e w' => ∃ q, e = .returned (ptB q) ∧ Bk B w0 w' q ⟨m, c, []⟩ ts := by
 refine (bNew_sep h m c h1 h2 h3 h4).mono ?_
 rintro e w' ⟨X, rfl, hD, ok, hS⟩
 exact ⟨X.q, rfl, X, rfl, hD, ok, hS⟩
theorem bk_put (h : Bk B w0 w q D ts) (hT : Tab w) (x : Nat) (hx : x < 4294967296) (t : Int) (v : Nat) (hz : in64 t ∧ v < 18446744073709551616) (hn : (D.at_ x).flatten.length < 1000) :
  Calls Tryz.prog 23 #[ptB q, .int .u32 (x : Nat), .agg #[.int .i64 t, .int .u64 (v : Nat)]] w fun e w' => e = .returned (.int .u16 (mayD D x t : Nat)) ∧ Bk B w0 w' q (putD D x (t, v)) ts := by
 obtain ⟨X, rfl, rfl, ok, hS⟩ := h
 refine (bPut_any hS ok hT x hx (t, v) hz hn).mono ?_
 rintro e w' ⟨rfl, X', h1, h2, h3, h4⟩
 exact ⟨rfl, X', h1, h2, h3, h4⟩
theorem bk_end (h : Bk B w0 w q D ts) (x : Nat) (hx : x < 4294967296) : Calls Tryz.prog 21 #[ptB q, .int .u32 (x : Nat)] w fun e w' => e = .returned (plV (endC (D.at_ x)).1 (endC (D.at_ x)).2.1 (endC (D.at_ x)).2.2) ∧ Below w.heap.size w w' := by
 obtain ⟨X, rfl, rfl, ok, hS⟩ := h
 exact bEnd_any (RdK.of (hS.at_ 0 rfl)) ok x hx
theorem bk_cut (h : Bk B w0 w q D ts) (x : Nat) (hx : x < 4294967296) (pc pb pn : Nat) (most : Int) (hpc : pc < 4294967296) (hpb : pb < 4294967296) (hpn : pn < 4294967296) (hmo : in64 most) :
  Calls Tryz.prog 24 #[ptB q, .int .u32 (x : Nat), plV pc pb pn, .int .i64 most] w (CutO w (cutF x (D.at_ x) pc pb pn most)) := by
 obtain ⟨X, rfl, rfl, ok, hS⟩ := h
 exact bCut_any (RdK.of (hS.at_ 0 rfl)) ok x hx pc pb pn most hpc hpb hpn hmo
theorem bk_sum (h : Bk B w0 w q D ts) (x : Nat) (hx : x < 4294967296) (pc pb pn : Nat) (hpc : pc < 4294967296) (hpb : pb < 4294967296) (hpn : pn < 4294967296) :
  Calls Tryz.prog 20 #[ptB q, .int .u32 (x : Nat), plV pc pb pn] w fun e w' => e = .returned (.tuple #[.int .u64 ((if hasC (D.at_ x) pc pb pn then sumC (D.at_ x) pc pb else 0 : Nat) : Int), .int .u16 ((if hasC (D.at_ x) pc pb pn then 0 else 122 : Nat) : Int)]) ∧ Below w.heap.size w w' := by
 obtain ⟨X, rfl, rfl, ok, hS⟩ := h
 exact bSum_any (RdK.of (hS.at_ 0 rfl)) ok x hx pc pb pn hpc hpb hpn
end
end Go.Proofs.YtmcdollkmlcpbaaGreatDoor
set_option linter.unusedSimpArgs false
set_option linter.unusedVariables false
namespace Go.Proofs.YtmcdollkmlcpbaaGreatDoor
open Go.RowKit
set_option maxRecDepth 100000
structure OB where
 kd : Nat
 se : Nat
 t : Int
 v : Nat
 f : FrD
 A : Option Addr
 c : Nat
 at_ : Nat
 n : Int
def encOB (o : OB) : List Value := [.int .u8 ((o.kd : Nat) : Int), .int .u32 ((o.se : Nat) : Int), .int .i64 o.t, .int .u64 ((o.v : Nat) : Int), .int .u8 ((o.f.kd : Nat) : Int), .int .u32 ((o.f.ep : Nat) : Int), .int .u32 ((o.f.se : Nat) : Int), .int .u32 ((o.f.fc : Nat) : Int), .int .u32 ((o.f.fb : Nat) : Int), .int .u32 ((o.f.fn : Nat) : Int), .int .u32 ((o.f.cn : Nat) : Int), .bool o.f.cl, .int .u64 ((o.f.sm : Nat) : Int), .slice o.A o.f.l.length o.c, .int .i64 o.f.n, .int .u8 ((o.at_ : Nat) : Int), .int .i64 o.n]
structure OkOB (o : OB) : Prop where
 kd : o.kd < 256
 se : o.se < 4294967296
 t : in64 o.t
 v : o.v < 18446744073709551616
 f : o.f.ok
 at_ : o.at_ < 256
 n : in64 o.n
end Go.Proofs.YtmcdollkmlcpbaaGreatDoor
set_option linter.unusedSimpArgs false
set_option linter.unusedVariables false
namespace Go.Proofs.YtmcdollkmlcpbaaGreatDoor
open Go.RowKit
set_option maxRecDepth 100000
structure Se where
 id : Nat
 A : Option Addr
 n : Nat
 c : Nat
 L : List Sm
def encSe (s : Se) : List Value := [.int .u32 ((s.id : Nat) : Int), .slice s.A s.n s.c]
theorem Tryz.eltSe : Elt Tryz.prog 26 54 encSe 2 32 := ⟨Tryz.underlying26, ⟨.agg #[.int .u32 0, .slice none 0 0], by kernel_rfl, rfl⟩, by decide, fun _ => rfl, fun x v h => by
 unfold encSe at h
 simp only [List.mem_cons, List.not_mem_nil, or_false] at h
 rcases h with rfl | rfl <;> rfl⟩
def seT (s : Se) : Kt := thR 42 smp 2 (.slice s.A s.n s.c) s.L
def laT (v : Value) (T : List Se) : List Kt := thR 54 encSe 2 v T :: T.map seT
def seD (s : Se) : Nat × List Sm := (s.id, s.L)
theorem Sep.replace {B : Nat} {w0 w : World} {m : Kt} {us ts : List Kt} (h : Sep B w0 w (m :: (us ++ ts))) (i : Nat) : Sep B w0 w (us.set i m ++ ts) := by
 by_cases hi : i < us.length
 ·have e1 : us = us.take i ++ us[i] :: us.drop (i + 1) := by simp
  have e2 : us.set i m = us.take i ++ m :: us.drop (i + 1) := List.set_eq_take_append_cons_drop .. |>.trans (by rw [if_pos hi])
  rw [e2]
  have h2 : Sep B w0 w (m :: (us.take i ++ us.drop (i + 1) ++ ts)) := by
   refine h.sub (List.Sublist.cons_cons m ?_)
   refine List.Sublist.append ?_ (List.Sublist.refl ts)
   conv => rhs; rw [e1]
   exact List.Sublist.append (List.Sublist.refl _) (List.sublist_cons_self _ _)
  refine h2.permB ?_
  rw [List.append_assoc, List.append_assoc]
  exact List.perm_middle.symm
 ·rw [List.set_eq_of_length_le (by omega)]
  exact h.tail
theorem Sep.addNilR {α : Type} {B : Nat} {w0 w : World} {ts : List Kt} (h : Sep B w0 w ts) (e : TypeId) (enc : α → List Value) (sz : Nat) : Sep B w0 w (thR e enc sz (.slice none 0 0) [] :: ts) :=
 h.cons (Below.refl _ _) (OwnR.nil w 0 _ _ _) (fun k hk => by cases hk)
theorem row_cellE {α : Type} {P : Program} {w : World} {t e : TypeId} {enc : α → List Value} {sz bytes : Nat} (E : Elt P t e enc sz bytes) {g n c : Nat} {l : List α} (h : OwnR w 0 e enc sz (.slice (some ⟨g, 0, none⟩) n c) l) {k : Nat} {x : α} (hk : l[k]? = some x) (j : Nat) (v : Value) (hj : (enc x)[j]? = some v) : w.cell? ⟨g, k * sz + j, none⟩ = some v := by
 obtain ⟨g', e1, -, hr⟩ := row_at E h hk
 injection e1 with e1
 injection e1 with e1
 subst e1
 exact hr j v hj
end Go.Proofs.YtmcdollkmlcpbaaGreatDoor
set_option linter.unusedSimpArgs false
set_option linter.unusedVariables false
namespace Go.Proofs.YtmcdollkmlcpbaaGreatDoor
open Go.RowKit
set_option maxRecDepth 100000
def pickB {α : Type} (o : Option Value) (x y : α) : α := match o with
 | none => x
 | some _ => y
def laS (D : BD) (o : OB) : BD := putD D (o.se % 64) (o.t, o.v)
def laD (sz : Nat) (l : List OB) : BD := l.foldl laS ⟨64, sz, []⟩
def laSz (size : Int) : Nat := 1 + (max size 0).toNat % 24
theorem laD_succ (sz : Nat) (l : List OB) {k : Nat} {o : OB} (h : l[k]? = some o) : laD sz (l.take (k + 1)) = laS (laD sz (l.take k)) o := by
 obtain ⟨h1, h2⟩ := List.getElem?_eq_some_iff.1 h
 unfold laD
 rw [List.take_succ_eq_append_getElem h1, List.foldl_append, h2]
 rfl
theorem laD_ok {sz : Nat} (h1 : 1 ≤ sz) (h2 : sz ≤ 24) (l : List OB) (hok : ∀ o ∈ l, OkOB o) : ∀ k, k ≤ l.length → k ≤ 900 → LaI sz k (laD sz (l.take k))
 | 0, _, _ => LaI.new h1 h2
 | k + 1, hk, hk2 => by
  have hg := List.getElem?_eq_getElem (l := l) (i := k) (by omega)
  rw [laD_succ sz l hg]
  have ho := hok _ (List.mem_of_getElem? hg)
  exact (laD_ok h1 h2 l hok k (by omega) (by omega)).put (Nat.mod_lt _ (by decide)) ⟨ho.t, ho.v⟩ (by omega)
set_option maxHeartbeats 16000000 in
theorem bLay_any {B : Nat} {w0 w : World} {ts : List Kt} (h : Sep B w0 w ts) (hT : Tab w0) (hB0 : w0.heap.size ≤ B) (size : Int) (hsz : in64 size) (V : Option Addr) (c : Nat) (l : List OB) (hV : Rw w0 encOB 17 V l) (hok : ∀ o ∈ l, OkOB o) (hl : l.length ≤ 60) :
  Calls Tryz.prog 8 #[.int .i64 size, .slice V l.length c] w fun e w' => ∃ (q : Nat) (T : List Se) (A : Option Addr) (cc : Nat), e = .returned (.tuple #[ptB q, .slice A T.length cc]) ∧ T.map seD = allD (laD (laSz size) l) ∧ Bk B w0 w' q (laD (laSz size) l) (laT (.slice A T.length cc) T ++ ts) := by
 have hmx : Tryz.prog.follows .mixedOrders = true := by kernel_rfl
 obtain ⟨sz, hs⟩ : ∃ s, s = laSz size := ⟨_, rfl⟩
 have hs1 : 1 ≤ sz := by rw [hs]; unfold laSz; omega
 have hs2 : sz ≤ 24 := by rw [hs]; unfold laSz; omega
 obtain ⟨n, hn⟩ : ∃ n, n = l.length := ⟨_, rfl⟩
 have hn60 : n ≤ 60 := by omega
 have HN := Lib.hid (bk_new h 64 sz (by decide) (by decide) hs1 hs2)
 have HSz := Lib.hid (show 1 + max size 0 % 24 = ((sz : Nat) : Int) by rw [hs]; unfold laSz; omega)
 have HV := Lib.hid (And.intro hV (And.intro hok (And.intro hn (And.intro hT (And.intro hB0 (And.intro hs1 hs2))))))
 rw [← hs, ← hn]
 clear hV hok hn hT hB0 h hl hs
 go_enter Tryz.func8, Tryz.ntmps8
 go_upto_region 1 with fail
 go_wp2_with (go_at_call 16; rw [HSz.out]; refine HN.out.mono ?_; rintro e w1 ⟨q, rfl, hS0⟩)
 have HS0 := Lib.hid hS0
 clear hS0 HN HSz
 go_loopw [7, 8, 9, 10] (fun s7 s8 s9 s10 wr => ∃ (k tn cc : Nat) (A : Option Addr) (T : List Se), s8 = .int .i64 (k : Nat) ∧ k ≤ n ∧ s7 = .slice A tn cc ∧ tn ≤ k ∧ Hid (tn = T.length ∧ T.map seD = allD (laD sz (l.take k)) ∧ Bk B w0 wr q (laD sz (l.take k)) (laT (.slice A tn cc) T ++ ts)))
  (fun _ s8 _ _ _ => n - (intOf s8).toNat)
 case atStart => exact ⟨0, 0, 0, none, [], rfl, Nat.zero_le _, rfl, Nat.le_refl _, Lib.hid ⟨rfl, rfl, by
  obtain ⟨X, h1, h2, h3, h4⟩ := HS0.out
  exact ⟨X, h1, h2, h3, (h4.addNilR 54 encSe 2).permB (List.Perm.swap _ _ _)⟩⟩⟩
 case round =>
  obtain ⟨k, tn, cc, A, T, rfl, hk, rfl, htn, HI⟩ := hrel
  by_cases hlt : k < n
  ·obtain ⟨o, ho⟩ : ∃ o, l[k]? = some o := ⟨_, List.getElem?_eq_getElem (by rw [← HV.out.2.2.1]; exact hlt)⟩
   obtain ⟨D, hD⟩ : ∃ D, D = laD sz (l.take k) := ⟨_, rfl⟩
   have hLa : LaI sz k D := by rw [hD]; exact laD_ok HV.out.2.2.2.2.2.1 HV.out.2.2.2.2.2.2 l HV.out.2.1 k (by rw [← HV.out.2.2.1]; omega) (by omega)
   have hD1 : laD sz (l.take (k + 1)) = laS D o := by rw [laD_succ sz l ho, ← hD]
   rw [← hD] at HI
   have hoo := HV.out.2.1 o (List.mem_of_getElem? ho)
   obtain ⟨p, f, rfl, hc⟩ := HV.out.1 k o ho
   have hkln : (k : Int) < (n : Int) := by omega
   obtain ⟨x, hx⟩ : ∃ x, x = o.se % 64 := ⟨_, rfl⟩
   have f0 : ((o.se : Nat) : Int) % 64 = (x : Int) := by omega
   have hx64 : x < 64 := by omega
   obtain ⟨ot, hot⟩ : ∃ t, t = o.t := ⟨_, rfl⟩
   obtain ⟨ov, hov⟩ : ∃ t, t = o.v := ⟨_, rfl⟩
   obtain ⟨me, hme⟩ : ∃ m, m = mayD D x ot := ⟨_, rfl⟩
   obtain ⟨D', hD'⟩ : ∃ E, E = putD D x (ot, ov) := ⟨_, rfl⟩
   have hP := fun (W : World) (us : List Kt) (hb : Bk B w0 W q D us) => bk_put hb (tabGo HV.out.2.2.2.1 (hb.b.mono HV.out.2.2.2.2.1)) x (by omega) ot ov ⟨by rw [hot]; exact hoo.t, by rw [hov]; exact hoo.v⟩ (by have := hLa.len x; omega)
   rw [← hme, ← hD'] at hP
   have HP := Lib.hid hP
   have hcell : ∀ (W : World), Below B w0 W → W.cell? ⟨p, f + k * 17 + 1, none⟩ = some (.int .u32 ((o.se : Nat) : Int)) ∧ W.cell? ⟨p, f + k * 17 + 2, none⟩ = some (.int .i64 ot) ∧ W.cell? ⟨p, f + k * 17 + 3, none⟩ = some (.int .u64 (ov : Nat)) := fun W hb => by
    rw [hot, hov]
    have h1 := hc 1 _ rfl
    have h2 := hc 2 _ rfl
    have h3 := hc 3 _ rfl
    have hlt := fun {a : Addr} {v : Value} (h : w0.cell? a = some v) => (hb.cell (Nat.lt_of_lt_of_le (cell_lt h) HV.out.2.2.2.2.1)).trans h
    exact ⟨hlt h1, hlt h2, hlt h3⟩
   have HCell := Lib.hid hcell
   have HE := Lib.hid (And.intro hLa (And.intro hD1 (And.intro ho (And.intro hx (And.intro hot (And.intro hov (And.intro hme hD')))))))
   clear hP hcell hoo hc ho hD hLa hD1 hx hot hov hme hD'
   go_wp2_with fail
   obtain ⟨I, hI⟩ : ∃ I : Rec → World → Prop, ∀ E W, I E W ↔ Bk B w0 W q (pickB (E 12) D D') (laT (.slice A tn cc) T ++ ts) := ⟨_, fun _ _ => Iff.rfl⟩
   have hI0 : I (fun _ => none) wr.drew := (hI _ _).2 (HI.out.2.2.go (Below.refl wr.heap.size wr).drew)
   haveI : Nonempty (InvW I) := ⟨⟨_, _, hI0⟩⟩
   have e1 := fun (y : InvW I) => (HCell.out y.W ((hI _ _).1 y.h).b).1
   have e2 := fun (y : InvW I) => (HCell.out y.W ((hI _ _).1 y.h).b).2.1
   have e3 := fun (y : InvW I) => (HCell.out y.W ((hI _ _).1 y.h).b).2.2
   have HI2 := Lib.hid hI
   clear hI
   refine wp_region_inv I [] [3, 9, 12] (fun k2 v => if k2 = 12 then v = .int .u16 (me : Nat) else v = .pointer (some ⟨p, f + k * 17, none⟩)) hmx (by kernel_rfl) hI0 ?_
   iterate 3 (refine walkJ_one rfl (by kernel_rfl) ?_; go_big_quiet_step (fail); refine wpQuiet_nil ?_)
   refine walkJ_turn rfl rfl ⟨_, rfl⟩ (fun s W1 hs h7 _ => ?_) ?_
   ·refine inv_val (W' := W1) (v := .pointer (some ⟨p, f + k * 17, none⟩)) (by simp [execOp, go_sem, hkln]) ⟨rfl, (HI2.out _ _).2 ?_⟩
    have h := (HI2.out _ _).1 hs
    exact h
   rintro v rfl
   conv => arg 11; simp [Act.put]
   iterate 5 (refine walkJ_one rfl (by kernel_rfl) ?_; go_big_quiet_step (fail); refine wpQuiet_nil ?_)
   refine walkJ_turn rfl rfl ⟨_, rfl⟩ (fun s W1 hs h7 _ => ?_) ?_
   ·refine inv_val (W' := W1) (v := .pointer (some ⟨p, f + k * 17, none⟩)) (by simp [execOp, go_sem, hkln]) ⟨rfl, (HI2.out _ _).2 ?_⟩
    have h := (HI2.out _ _).1 hs
    exact h
   rintro v rfl
   conv => arg 11; simp [Act.put]
   iterate 2 (refine walkJ_one rfl (by kernel_rfl) ?_; go_big_quiet_step (fail); refine wpQuiet_nil ?_)
   refine walkJ_turn rfl rfl ⟨_, rfl⟩ (fun s W1 hs h7 _ => ?_) ?_
   ·have h := (HI2.out _ _).1 hs
    rw [show s 12 = none from h7] at h
    refine inv_call (by simp [execOp, go_sem, f0]) ((HP.out _ _ h).mono ?_)
    rintro e w3 ⟨rfl, hB⟩
    exact ⟨_, rfl, rfl, (HI2.out _ _).2 hB⟩
   rintro v rfl
   conv => arg 11; simp [Act.put]
   iterate 1 (refine walkJ_one rfl (by kernel_rfl) ?_; go_big_quiet_step (fail); refine wpQuiet_nil ?_)
   refine walkJ_end ?_
   intro wp hW'
   have HB := Lib.hid (show Bk B w0 wp q D' (laT (.slice A tn cc) T ++ ts) from (HI2.out _ _).1 hW')
   have HF0 := Lib.hid (And.intro f0 hx64)
   clear e1 e2 e3 hW' HI2 HP f0
   by_cases hm0 : me = 0
   ·subst hm0
    go_upto_block 2 with fail
    go_cut [9] (fun s9 wx => ∃ j : Nat, s9 = .int .i64 (j : Nat) ∧ j ≤ tn ∧ Hid (∀ i y, i < j → T[i]? = some y → y.id ≠ x) ∧ Hid (∀ y, T[j]? = some y → y.id = x) ∧ Hid (Below wp.heap.size wp wx))
    case first =>
     go_wp2_with fail
     go_loopw [9] (fun s9 wi => ∃ j : Nat, s9 = .int .i64 (j : Nat) ∧ j ≤ tn ∧ Hid (∀ i y, i < j → T[i]? = some y → y.id ≠ x) ∧ Hid (Below wp.heap.size wp wi))
      (fun s9 _ => tn - (intOf s9).toNat)
     case atStart => exact ⟨0, by go_num, Nat.zero_le _, Lib.hid (fun i y h => absurd h (Nat.not_lt_zero _)), Lib.hid (Below.refl _ _)⟩
     case round =>
      obtain ⟨j, rfl, hj, HJ, HW⟩ := hrel
      obtain ⟨wi, hwi⟩ : ∃ wi, wi = wr := ⟨_, rfl⟩
      rw [← hwi] at HW ⊢
      clear hwi
      have C1 : ∀ y : More, (plus wi y).cell? ⟨p, f + k * 17 + 1, none⟩ = some (.int .u32 ((o.se : Nat) : Int)) := fun y => (HCell.out _ ((HB.out.go HW.out).go (plus_below wi y)).b).1
      by_cases hjt : j < tn
      ·obtain ⟨y0, hy0⟩ : ∃ y, T[j]? = some y := ⟨_, List.getElem?_eq_getElem (by rw [← HI.out.1]; exact hjt)⟩
       obtain ⟨gr, hgr, -, -⟩ := row_at Tryz.eltSe ((HB.out.go HW.out).sep.at_ (t := thR 54 encSe 2 (.slice A tn cc) T) 0 rfl) hy0
       subst hgr
       have C2 : ∀ y : More, (plus wi y).cell? ⟨gr, j * 2, none⟩ = some (.int .u32 ((y0.id : Nat) : Int)) := fun y => row_cellE Tryz.eltSe (((HB.out.go HW.out).go (plus_below wi y)).sep.at_ (t := thR 54 encSe 2 (.slice (some ⟨gr, 0, none⟩) tn cc) T) 0 rfl) hy0 0 _ rfl
       have hjt2 : (j : Int) < (tn : Int) := by omega
       have HY := Lib.hid hy0
       clear hy0
       by_cases hyx : y0.id = x
       ·have hd : (((y0.id : Nat) : Int) == ((o.se : Nat) : Int) % 64) = true := beq_iff_eq.2 (by rw [HF0.out.1]; omega)
        have HYX := Lib.hid hyx
        clear hyx
        go_wp2_with fail
        refine wp_region_ext (by kernel_rfl) (by kernel_rfl) ?_
        repeat (go_big_quiet_step (fail))
        refine wpQuiet_nil ?_
        rintro w7 ⟨y, rfl⟩
        clear C1 C2
        go_wp2_with fail
        go_meet
        exact ⟨j, rfl, hj, HJ, Lib.hid (fun y hy => by rw [HY.out] at hy; injection hy with hy; rw [← hy]; exact HYX.out), Lib.hid (HW.out.trans ((plus_below wi y).mono HW.out.size))⟩
       ·have hd : (((y0.id : Nat) : Int) == ((o.se : Nat) : Int) % 64) = false := beq_eq_false_iff_ne.2 (by rw [HF0.out.1]; omega)
        have HYX := Lib.hid hyx
        clear hyx
        go_wp2_with fail
        refine wp_region_ext (by kernel_rfl) (by kernel_rfl) ?_
        repeat (go_big_quiet_step (fail))
        refine wpQuiet_nil ?_
        rintro w7 ⟨y, rfl⟩
        clear C1 C2
        go_wp2_with fail
        go_roundw
        case measure => simp [intOf]; omega
        case rel => exact ⟨j + 1, by go_num, by omega, Lib.hid (fun i y hi hy => by
         by_cases e : i = j
         ·subst e
          rw [HY.out] at hy; injection hy with hy; rw [← hy]; exact HYX.out
         ·exact HJ.out i y (by omega) hy), Lib.hid (HW.out.trans ((plus_below wi y).mono HW.out.size))⟩
      ·have hjt2 : ¬ (j : Int) < (tn : Int) := by omega
       go_wp2_with fail
       refine wp_region_ext (by kernel_rfl) (by kernel_rfl) ?_
       repeat (go_big_quiet_step (fail))
       refine wpQuiet_nil ?_
       rintro w7 ⟨y, rfl⟩
       clear C1
       go_wp2_with fail
       go_meet
       exact ⟨j, rfl, hj, HJ, Lib.hid (fun y hy => by have := (List.getElem?_eq_some_iff.1 hy).1; rw [← HI.out.1] at this; omega), Lib.hid (HW.out.trans ((plus_below wi y).mono HW.out.size))⟩
    case rest =>
     obtain ⟨j, rfl, hj, HJ, HJ2, HWc⟩ := hcut
     obtain ⟨X, hq, hXD, hXok, hS⟩ := HB.out.go HWc.out
     have HX := Lib.hid (And.intro hq (And.intro hXD hXok))
     have HS := Lib.hid hS
     clear hq hXD hXok hS HB
     go_upto_if 61 with fail
     go_cut [7] from 61 to 71 (fun s7 wx => ∃ (A1 : Option Addr) (c1 t1n : Nat) (T1 : List Se) (y : Se), s7 = .slice A1 t1n c1 ∧ t1n ≤ tn + 1 ∧ j < t1n ∧ Hid (t1n = T1.length ∧ T1[j]? = some y ∧ y.id = x ∧ (T1.map seD).set j (x, y.L ++ [(ot, ov)]) = allD D' ∧ Sep B w0 wx (thBk X :: (laT (.slice A1 t1n c1) T1 ++ ts))))
     case first =>
      obtain ⟨W3, hW3⟩ : ∃ W, W = wc := ⟨_, rfl⟩
      rw [← hW3] at HS HWc ⊢
      clear hW3
      have hok := HE.out.1.ok
      have hm0 : mayD D x ot = 0 := HE.out.2.2.2.2.2.2.1.symm
      by_cases hjt : j = tn
      ·have hd : ((j : Int) == (tn : Int)) = true := beq_iff_eq.2 (by omega)
       have hlk : lookM D.M x = none := lookM_none.2 (fun p hp e => by
        obtain ⟨i, hi⟩ := List.getElem?_of_mem hp
        have h1 := allD_get D i
        rw [hi, ← HI.out.2.1, List.getElem?_map] at h1
        obtain ⟨y, hy, hy2⟩ := Option.map_eq_some_iff.1 h1
        have hil : i < T.length := (List.getElem?_eq_some_iff.1 hy).1
        refine HJ.out i y (by rw [hjt, HI.out.1]; exact hil) hy ?_
        have := congrArg Prod.fst hy2
        exact this.trans e)
       have hall := all_new (z := (ot, ov)) hm0 hlk
       rw [← HE.out.2.2.2.2.2.2.2, ← HI.out.2.1] at hall
       have hSx := HS.out.box #[.int .u32 (((o.se : Nat) : Int) % 64), .slice none 0 0] 54
       have HSx := Lib.hid hSx
       have HAll := Lib.hid hall
       have htl : T.length ≤ 60 := by rw [← HI.out.1]; omega
       have C1 := (HCell.out W3 HS.out.b).1
       clear hok hm0 hlk hall hSx hjt
       go_wp2_with (at_builtin; go_must (refine sep_app1 Tryz.eltSe rfl (.tmp 62) (.tmp 70) rfl 2 (.slice A tn cc) T rfl HSx.out rfl W3.heap.size 1 ⟨x, none, 0, 0, []⟩ 54 #[.int .u32 (((o.se : Nat) : Int) % 64), .slice none 0 0] rfl (HSx.out.blk 0) (by unfold encSe; rw [HF0.out.1]) (by unfold maxLen; omega) (by omega) ?_); intro g7 c7 w7 hS7)
       go_meet
       refine ⟨some ⟨g7, 0, none⟩, c7, T.length + 1, T ++ [⟨x, none, 0, 0, []⟩], ⟨x, none, 0, 0, []⟩, rfl, by rw [← HI.out.1]; exact Nat.le_refl _, by rw [← HI.out.1]; omega, Lib.hid ⟨by simp, ?_, rfl, ?_, ?_⟩⟩
       ·rw [show j = T.length by have := (beq_iff_eq.1 hd); rw [← HI.out.1]; omega]
        simp
       ·rw [HAll.out, List.map_append, show j = (T.map seD).length by have := (beq_iff_eq.1 hd); rw [List.length_map, ← HI.out.1]; omega]
        rw [List.set_append, if_neg (by omega), Nat.sub_self]
        rfl
       ·have h1 := (hS7.tail).addNilR 42 smp 2
        refine h1.permB ?_
        simp only [laT, List.map_append, List.map_cons, List.map_nil, List.append_assoc, List.cons_append, List.nil_append, List.set_cons_succ, List.set_cons_zero, List.tail_cons]
        exact (List.perm_middle (a := seT ⟨x, none, 0, 0, []⟩) (l₁ := thBk X :: _ :: T.map seT) (l₂ := ts)).symm
      ·have hd : ((j : Int) == (tn : Int)) = false := beq_eq_false_iff_ne.2 (by omega)
       obtain ⟨y, hy⟩ : ∃ y, T[j]? = some y := ⟨_, List.getElem?_eq_getElem (by rw [← HI.out.1]; omega)⟩
       have hyx := HJ2.out y hy
       have hall : (T.map seD).set j (x, y.L ++ [(ot, ov)]) = allD D' := by
        have h1 := allD_get D j
        rw [← HI.out.2.1, List.getElem?_map, hy] at h1
        obtain ⟨p, hp, hp2⟩ := Option.map_eq_some_iff.1 h1.symm
        have e1 : p.1 = x := by have := congrArg Prod.fst hp2; exact this.trans hyx
        have e2 : p.2.flatten = y.L := congrArg Prod.snd hp2
        rw [HE.out.2.2.2.2.2.2.2, all_at hok (z := (ot, ov)) hm0 hp e1, HI.out.2.1, e2]
       have HAll := Lib.hid (And.intro hy (And.intro hyx hall))
       clear hok hm0 hy hyx hall
       go_wp2_with fail
       go_meet
       exact ⟨A, cc, tn, T, y, rfl, by omega, by omega, Lib.hid ⟨HI.out.1, HAll.out.1, HAll.out.2.1, HAll.out.2.2, HS.out⟩⟩
     case rest =>
      obtain ⟨A1, c1, t1n, T1, y, rfl, ht1, hj1, HR⟩ := hcut
      clear HS HWc HJ HJ2
      obtain ⟨W4, hW4⟩ : ∃ W, W = wc := ⟨_, rfl⟩
      rw [← hW4] at HR ⊢
      clear hW4
      obtain ⟨r1, r2, r3, r4, hS⟩ := HR.out
      have hyr : OwnR W4 0 42 smp 2 (.slice y.A y.n y.c) y.L := hS.get (t := seT y) (List.mem_cons_of_mem _ (List.mem_append.2 (.inl (List.mem_cons_of_mem _ (List.mem_map.2 ⟨y, List.mem_of_getElem? r2, rfl⟩)))))
      obtain ⟨A2, c2, hyv, -, hyR⟩ := OwnR.row Tryz.eltS hyr
      injection hyv with ya yn yc
      rw [← ya] at hyR
      have hyl : y.L.length ≤ 999 := by
       have h1 : ((T1.map seD).set j (x, y.L ++ [(ot, ov)]))[j]? = some (x, y.L ++ [(ot, ov)]) := List.getElem?_set_self (by rw [List.length_map, ← r1]; exact hj1)
       rw [r4, allD_get] at h1
       obtain ⟨p2, hp2, hp3⟩ := Option.map_eq_some_iff.1 h1
       have hD9 : OkD D' := by rw [← HX.out.2.1]; exact HX.out.2.2.D
       have h2 := (hD9.ok p2 (List.mem_of_getElem? hp2)).len
       rw [show p2.2.flatten = y.L ++ [(ot, ov)] from congrArg Prod.snd hp3, List.length_append, List.length_singleton] at h2
       omega
      obtain ⟨gr, hgr, -, -⟩ := row_at Tryz.eltSe (hS.at_ (t := thR 54 encSe 2 (.slice A1 t1n c1) T1) 1 rfl) r2
      subst hgr
      have C1 : W4.cell? ⟨gr, j * 2 + 1, none⟩ = some (.slice y.A y.L.length y.c) := by
       rw [← yn]
       exact row_cellE Tryz.eltSe (hS.at_ (t := thR 54 encSe 2 (.slice (some ⟨gr, 0, none⟩) t1n c1) T1) 1 rfl) r2 1 _ rfl
      have hj2 : (j : Int) < (t1n : Int) := by omega
      have HYR := Lib.hid hyR
      have HS4 := Lib.hid hS
      clear r1 r2 r3 r4 hS hyr hyR ya yn yc
      go_upto_region 16 with (at_builtin; go_must (refine appR Tryz.eltS _ rfl (.tmp 72) (.tmp 77) rfl W4.heap.size (.slice none 0 0) [] rfl (OwnR.nil _ _ _ _ _) y.A y.c y.L rfl HYR.out (by unfold maxLen; simp <;> omega) (by simp <;> omega) (Nat.le_refl _) ?_); intro A3 c3 w5 hown5 hb5)
      have hown5' : OwnR w5 W4.heap.size 42 smp 2 (.slice A3 y.L.length c3) y.L := by simpa using hown5
      have hS5 := HS4.out.cons (t := thR 42 smp 2 (.slice A3 y.L.length c3) y.L) hb5 (OwnR.mono hown5' (Nat.zero_le _)) (fun k hk => (World.ownsRow.lt hown5' k hk).1)
      obtain ⟨d1, d2, d3⟩ := HCell.out w5 hS5.b
      have HSB := Lib.hid (hS5.box #[.int .i64 ot, .int .u64 (ov : Nat)] 42)
      clear hown5 hown5' hb5 hS5 C1 d1 HS4 HYR
      go_upto_region 17 with (at_builtin; go_must (refine sep_app1 Tryz.eltS rfl (.tmp 79) (.tmp 85) rfl 1 (.slice A3 y.L.length c3) y.L (by simp [Act.eval, Act.put]) HSB.out rfl w5.heap.size 1 (ot, ov) 42 #[.int .i64 ot, .int .u64 (ov : Nat)] rfl (HSB.out.blk 0) rfl (by unfold maxLen; omega) (by omega) ?_); intro g6 c6 w6 hS6)
      have hS6' := hS6.tail
      simp only [List.set_cons_succ, List.set_cons_zero, List.tail_cons] at hS6'
      have hrow : OwnR w6 0 54 encSe 2 (.slice (some ⟨gr, 0, none⟩) t1n c1) T1 := hS6'.at_ (t := thR 54 encSe 2 (.slice (some ⟨gr, 0, none⟩) t1n c1) T1) 2 rfl
      have C6 := row_cellE Tryz.eltSe hrow HR.out.2.1 1 _ rfl
      have F6 := row_froz hrow (j * 2 + 1)
      have HS6 := Lib.hid hS6'
      clear d2 d3 HSB hS6 hS6' hrow
      go_wp2_with fail
      go_roundw
      case measure => simp [intOf]; omega
      case rel =>
       obtain ⟨r1, r2, r3, r4, -⟩ := HR.out
       have hS7 := HS6.out.turnR Tryz.eltSe 2 rfl r1 j 1 y ⟨y.id, some ⟨g6, 0, none⟩, y.L.length + 1, c6, y.L ++ [(ot, ov)]⟩ (.slice (some ⟨g6, 0, none⟩) (y.L.length + 1) c6) r2 (by decide) rfl
       simp only [List.set_cons_succ, List.set_cons_zero] at hS7
       have hS8 := Sep.replace (us := thBk X :: thR 54 encSe 2 (.slice (some ⟨gr, 0, none⟩) t1n c1) (T1.set j ⟨y.id, some ⟨g6, 0, none⟩, y.L.length + 1, c6, y.L ++ [(ot, ov)]⟩) :: T1.map seT) hS7 (j + 2)
       simp only [List.set_cons_succ] at hS8
       have hDk : laD sz (l.take (k + 1)) = D' := by
        rw [HE.out.2.1, HE.out.2.2.2.2.2.2.2]
        unfold laS
        rw [← HE.out.2.2.2.1, ← HE.out.2.2.2.2.1, ← HE.out.2.2.2.2.2.1]
       refine ⟨k + 1, t1n, c1, some ⟨gr, 0, none⟩, T1.set j ⟨y.id, some ⟨g6, 0, none⟩, y.L.length + 1, c6, y.L ++ [(ot, ov)]⟩, by go_num, by omega, rfl, by omega, Lib.hid ⟨by rw [List.length_set]; exact r1, ?_, ?_⟩⟩
       ·rw [hDk, ← r4, List.map_set]
        congr 1
        show (y.id, y.L ++ [(ot, ov)]) = _
        rw [r3]
       ·rw [hDk]
        refine ⟨X, HX.out.1, HX.out.2.1, HX.out.2.2, ?_⟩
        unfold laT
        rw [List.map_set]
        exact hS8
   ·have hm1 : ((me : Int) == 0) = false := beq_eq_false_iff_ne.2 (by omega)
    have hm2 : ¬ (me : Int) = 0 := by omega
    have hDD : laS D o = D := by
     unfold laS putD
     rw [← HE.out.2.2.2.1, ← HE.out.2.2.2.2.1, if_neg (by show ¬ mayD D x ot = 0; rw [← HE.out.2.2.2.2.2.2.1]; exact hm0)]
    have hD2 : D' = D := by
     rw [HE.out.2.2.2.2.2.2.2]
     unfold putD
     rw [if_neg (by show ¬ mayD D x ot = 0; rw [← HE.out.2.2.2.2.2.2.1]; exact hm0)]
    have HF := Lib.hid (show T.map seD = allD (laD sz (l.take (k + 1))) ∧ Bk B w0 wp q (laD sz (l.take (k + 1))) (laT (.slice A tn cc) T ++ ts) by
     rw [HE.out.2.1, hDD]
     refine ⟨HI.out.2.1, ?_⟩
     have := HB.out
     rw [hD2] at this
     exact this)
    clear hDD hD2 HB
    go_wp2_with fail
    go_roundw
    case measure => simp [intOf]; omega
    case rel => exact ⟨k + 1, tn, cc, A, T, by go_num, by omega, rfl, by omega, Lib.hid ⟨HI.out.1, HF.out.1, HF.out.2⟩⟩
  ·obtain rfl : k = n := by omega
   have hkln : ¬ (k : Int) < (k : Int) := by omega
   go_wp2_with fail
   go_ret2
   have h1 := HI.out
   rw [HV.out.2.2.1, List.take_length] at h1
   have h2 := h1.1
   subst h2
   exact ⟨q, T, A, cc, rfl, h1.2.1, h1.2.2⟩
end Go.Proofs.YtmcdollkmlcpbaaGreatDoor
set_option linter.unusedSimpArgs false
set_option linter.unusedVariables false
namespace Go.Proofs.YtmcdollkmlcpbaaGreatDoor
open Go.RowKit
set_option maxRecDepth 100000
theorem nePlB_run (a1 a2 a3 b1 b2 b3 : Nat) (w : World) : (binOp .neq 36 (.agg #[.int .u32 (a1 : Nat), .int .u32 (a2 : Nat), .int .u32 (a3 : Nat)]) (.agg #[.int .u32 (b1 : Nat), .int .u32 (b2 : Nat), .int .u32 (b3 : Nat)])).run Tryz.prog w = .ok (.bool (!decide ((a1, a2, a3) = (b1, b2, b3)))) w := by
 rw [run_neq_struct, eqInPlB_run (a1, a2, a3) (b1, b2, b3)]; rfl
section
variable {B : Nat} {w0 w w' : World} {q : Nat} {D : BD} {ts us : List Kt}
theorem Bk.put_ (h : Bk B w0 w q D ts) (i g : Nat) (l : List (Nat × Value)) (cs' : Array Value) {t : TypeId} {cs : Array Value} (hW : sets w g l = w') (e : ts[i]? = some (thB g t cs) := by rfl) (hc : setsL cs.toList l = cs'.toList := by rfl) : Bk B w0 w' q D (ts.set i (thB g t cs')) := by
 obtain ⟨X, h1, h2, ok, hS⟩ := h
 exact ⟨X, h1, h2, ok, hS.put (i + 1) g l cs' hW e hc⟩
theorem Bk.perm (h : Bk B w0 w q D ts) (hp : ts.Perm us) : Bk B w0 w q D us := by
 obtain ⟨X, h1, h2, ok, hS⟩ := h
 exact ⟨X, h1, h2, ok, hS.permB (List.Perm.cons _ hp)⟩
theorem la_key {sz k : Nat} {D : BD} (hLa : LaI sz k D) {T : List Se} (hT : T.map seD = allD D) {i : Nat} {y : Se} (hy : T[i]? = some y) : y.id < 64 ∧ (D.at_ y.id).flatten = y.L ∧ ∃ p ∈ D.M, p.1 = y.id := by
 have h1 := allD_get D i
 rw [← hT, List.getElem?_map, hy] at h1
 obtain ⟨p, hp, hp2⟩ := Option.map_eq_some_iff.1 h1.symm
 have e1 : p.1 = y.id := congrArg Prod.fst hp2
 have e2 : p.2.flatten = y.L := congrArg Prod.snd hp2
 have hm := List.mem_of_getElem? hp
 refine ⟨by rw [← e1]; exact hLa.key p hm, ?_, p, hm, e1⟩
 rw [← e1, at_of_mem hLa.ok hm]
 exact e2
end
end Go.Proofs.YtmcdollkmlcpbaaGreatDoor
