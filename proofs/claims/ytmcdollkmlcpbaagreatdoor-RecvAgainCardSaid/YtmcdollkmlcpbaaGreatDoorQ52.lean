/- Joined: Rv1, Rv2, Rv3, Rv4, Rv5, Rv6, Rv7. -/
import Derived.Test.YtmcdollkmlcpbaaGreatDoorQ51
import Derived.Test.YtmcdollkmlcpbaaGreatDoorQ13
import Derived.Test.YtmcdollkmlcpbaaGreatDoorQ15
import Derived.Test.YtmcdollkmlcpbaaGreatDoorQ9
import Derived.Deep.DeepCutAuto
set_option linter.unusedSimpArgs false
set_option linter.unusedVariables false
set_option linter.unusedSimpArgs false
set_option linter.unusedVariables false
namespace Go.Proofs.YtmcdollkmlcpbaaGreatDoor
open Go.RowKit
set_option maxRecDepth 100000
theorem ne_ownR {w : World} {g base : Nat} {t : TypeId} {c : Array Value} {v : Value} {l : List UInt8} (k : OwnB w base v l) (k1 : Blk w g t c) (h : 5 ≠ t) : v.ownBlock ≠ some g := fun e => by
 rcases k.2 with ⟨e0, _⟩ | ⟨g', cap, cur, e0, _, hgg, _⟩
 ·rw [e0] at e; cases e
 ·rw [e0] at e
  injection e with e
  have e2 : g' = g := e
  subst e2
  have := Option.some.inj (hgg.symm.trans k1)
  injection this with _ e3 _
  exact h e3
theorem Sep.own1 {B : Nat} {w0 w w' : World} {ts : List Kt} (h : Sep B w0 w ts) (b : Below w.heap.size w w') {v : Value} {l : List UInt8} {base : Nat} (k9 : OwnB w' base v l) (n9 : w.heap.size ≤ base) {g1 : Nat} {t1 : TypeId} {c1 : Array Value} (k1 : Blk w' g1 t1 c1) (n1 : w.heap.size ≤ g1) (h1 : v.ownBlock ≠ some g1) : Sep B w0 w' (thO v l :: thB g1 t1 c1 :: ts) := by
 refine h.consL (us := [thO v l, thB g1 t1 c1]) b (fun t ht => ?_) ?_
 ·simp only [List.mem_cons, List.not_mem_nil, or_false] at ht
  rcases ht with rfl | rfl
  ·exact ⟨k9.mono (Nat.zero_le _), fun k hk => Nat.le_trans n9 (World.ownsRow.lt k9 k hk).1⟩
  ·exact ⟨k1, fun k hk => (by have : k = g1 := hk; omega)⟩
 ·simp only [List.pairwise_cons, List.mem_cons, List.not_mem_nil, or_false]
  refine ⟨fun t ht k hk hk2 => ?_, fun t ht => ht.elim, .nil⟩
  subst ht
  have e : k = g1 := hk2
  subst e
  exact h1 hk
theorem clone_no (c : Nat) (w : World) : Calls Tryz.prog 46 #[.slice none 0 c] w fun e w' => e = .returned (.slice none 0 0) ∧ w' = w := by
 have hnil : (binOp .eql 31 (.slice none 0 c) (.slice none 0 0)).run Tryz.prog w = .ok (.bool true) w := Go.Lib.run_eql_slice_nil w _ _ _ _ _ _ _ (by rfl)
 go_enter Tryz.func46, Tryz.ntmps46
 go_wp2_with fail
 go_ret
 exact ⟨rfl, rfl⟩
theorem clone_any (A : Option Addr) (c : Nat) (l : List UInt8) (w : World) (hA : Bs w A l) (hL : l.length ≤ 100000) :
  Calls Tryz.prog 46 #[.slice A l.length c] w fun e w' => ∃ A' c', e = .returned (.slice A' l.length c') ∧ Hid (OwnB w' w.heap.size (.slice A' l.length c') l ∧ Below w.heap.size w w') := by
 cases A with
 | some ad => exact clone_bytes ad c l w hA hL
 | none =>
  obtain rfl : l = [] := by
   cases l with
   | nil => rfl
   | cons x l =>
    obtain ⟨p, o, e, -⟩ := hA 0 x rfl
    cases e
  refine (clone_no c w).mono ?_
  rintro e w1 ⟨rfl, rfl⟩
  exact ⟨none, 0, rfl, Lib.hid ⟨OwnB.nil _ _, Below.refl _ _⟩⟩
set_option maxHeartbeats 8000000 in
theorem noteOf_any (f : FrD) (A : Option Addr) (c : Nat) (w : World) (hA : Bs w A f.l) (hL : f.l.length ≤ 1000) :
  Calls Tryz.prog 27 #[.agg (frC f A c)] w fun e w' => ∃ A' c', e = .returned (.agg (noC (noF f) A' c')) ∧ OwnB w' w.heap.size (.slice A' f.l.length c') f.l ∧ Below w.heap.size w w' := by
 have hmx : Tryz.prog.follows .mixedOrders = true := by kernel_rfl
 obtain ⟨kd, ep, se, fc, fb, fn, cn, cl, sm, l, n⟩ := f
 simp only [frC, noC, noF] at hA hL ⊢
 obtain ⟨W, hW⟩ : ∃ W, W = (w.alloc (.cells #[.int .u8 ((kd : Nat) : Int), .int .u32 ((ep : Nat) : Int), .int .u32 ((se : Nat) : Int), .int .u32 ((fc : Nat) : Int), .int .u32 ((fb : Nat) : Int), .int .u32 ((fn : Nat) : Int), .int .u32 ((cn : Nat) : Int), .bool cl, .int .u64 ((sm : Nat) : Int), .slice A l.length c, .int .i64 n] 39)).alloc (.cells #[.int .u8 0, .int .u32 0, .int .u32 0, .int .i64 0, .int .u64 0, .int .u32 0, .int .u32 0, .int .u32 0, .int .u32 0, .bool false, .slice none 0 0, .int .i64 0] 44) := ⟨_, rfl⟩
 obtain ⟨g1, hg1⟩ : ∃ g, g = w.heap.size := ⟨_, rfl⟩
 obtain ⟨g2, hg2⟩ : ∃ g, g = w.heap.size + 1 := ⟨_, rfl⟩
 have hS : Sep w.heap.size w W [thB g2 44 #[.int .u8 0, .int .u32 0, .int .u32 0, .int .i64 0, .int .u64 0, .int .u32 0, .int .u32 0, .int .u32 0, .int .u32 0, .bool false, .slice none 0 0, .int .i64 0], thB g1 39 #[.int .u8 ((kd : Nat) : Int), .int .u32 ((ep : Nat) : Int), .int .u32 ((se : Nat) : Int), .int .u32 ((fc : Nat) : Int), .int .u32 ((fb : Nat) : Int), .int .u32 ((fn : Nat) : Int), .int .u32 ((cn : Nat) : Int), .bool cl, .int .u64 ((sm : Nat) : Int), .slice A l.length c, .int .i64 n]] := by
  have h := (((Sep.nil (Below.refl w.heap.size w) (Nat.le_refl _)).box #[.int .u8 ((kd : Nat) : Int), .int .u32 ((ep : Nat) : Int), .int .u32 ((se : Nat) : Int), .int .u32 ((fc : Nat) : Int), .int .u32 ((fb : Nat) : Int), .int .u32 ((fn : Nat) : Int), .int .u32 ((cn : Nat) : Int), .bool cl, .int .u64 ((sm : Nat) : Int), .slice A l.length c, .int .i64 n] 39).box #[.int .u8 0, .int .u32 0, .int .u32 0, .int .i64 0, .int .u64 0, .int .u32 0, .int .u32 0, .int .u32 0, .int .u32 0, .bool false, .slice none 0 0, .int .i64 0] 44)
  simp only [World.size_alloc] at h
  rw [hW, hg1, hg2]
  exact h
 have HCl := Lib.hid (fun (V : World) (b : Below W.heap.size W V) => clone_any A c l V (hA.below (hS.b.trans (b.mono hS.sz))) (by omega))
 have HS := Lib.hid hS
 have C1 : ∀ y : More, cellsSay (plus W y) g1 0 [.int .u8 ((kd : Nat) : Int), .int .u32 ((ep : Nat) : Int), .int .u32 ((se : Nat) : Int), .int .u32 ((fc : Nat) : Int), .int .u32 ((fb : Nat) : Int), .int .u32 ((fn : Nat) : Int), .int .u32 ((cn : Nat) : Int), .bool cl, .int .u64 ((sm : Nat) : Int), .slice A l.length c, .int .i64 n] := fun y => cells_say ((hS.go (plus_below W y)).blk 1) _ 0 rfl
 simp only [cellsSay, Nat.reduceAdd, and_true] at C1
 clear hA hL hS
 go_enter Tryz.func27, Tryz.ntmps27
 go_upto_region 1 with fail
 rw [← hW, ← hg2, ← hg1]
 clear hW hg1 hg2
 refine wp_region_frw [none, none, none, none, none, none, none, none, none, some 8] [3, 8] [9] (fun k lo v z => if k = 3 then ∃ (A3 : Option Addr) (c3 : Nat), v = .slice A3 l.length c3 ∧ OwnB z lo (.slice A3 l.length c3) l
  else v = .pointer (some ⟨lo, 0, none⟩) ∧ z.heap.size = lo + 1 ∧ Blk z lo 33 #[.slice none 0 0, .int .i64 0]) hmx (by kernel_rfl) ?_
 iterate 3 (refine walkH_one rfl rfl (by kernel_rfl) ?_; go_big_quiet_step (fail); refine wpQuiet_nil ?_)
 refine walkH_make rfl rfl (by kernel_rfl) (fun x => ?_) ?_
 ·refine grow_call ?_ ((HCl.out _ (plus_below W x)).mono ?_)
  ·simp [execOp, go_sem]
  ·rintro e w4 ⟨A3, c3, rfl, o3⟩
   exact ⟨_, rfl, o3.out.2, A3, c3, rfl, o3.out.1⟩
 rintro V3 lo3 z3 ⟨A3, c3, rfl, o3⟩ hlo3 hz3 hb3
 conv => arg 12; simp [Act.put]
 iterate 4 (refine walkH_one rfl rfl (by kernel_rfl) ?_; go_big_quiet_step (fail); refine wpQuiet_nil ?_)
 refine walkH_make rfl rfl (by kernel_rfl) (fun x => ?_) ?_
 ·exact grow_alloc (by simp [execOp, go_sem]) ⟨rfl, by simp, Blk.new _ _ _⟩
 rintro V8 lo8 z8 ⟨rfl, hs8, hb8⟩ hlo8 hz8 hbw8
 conv => arg 12; simp [Act.put]
 refine walkH_store rfl rfl (j := 8) rfl (by kernel_rfl) (fun W hW hA => ?_)
 have hB : Blk W lo8 33 #[.slice none 0 0, .int .i64 0] := Agr.blk (s := ⟨z8, lo8, z8.heap.size⟩) hA hb8 (Nat.le_refl _) (by rw [hs8]; exact Nat.lt_succ_self _)
 have hcs := cells_say hB _ 0 rfl
 simp only [cellsSay, List.drop_zero, Nat.reduceAdd, and_true] at hcs
 refine ⟨sets W lo8 [(0, .slice A3 l.length c3), (1, .int .i64 n)], by simp [execOp, go_sem, hcs, sets], ((storeUpon.same W _).cell _ _ (Nat.le_refl _) (show lo8 < z8.heap.size by omega)).cell _ _ (Nat.le_refl _) (show lo8 < z8.heap.size by omega), fun hbz9 => ?_⟩
 have hb9 := hB.sets [(0, .slice A3 l.length c3), (1, .int .i64 n)]
 generalize sets W lo8 _ = z9 at *
 clear hA hB hcs hW
 conv => arg 12; simp [Act.put]
 refine walkH_end ?_
 intro W9 hR
 have k3 : OwnB W9 lo3 (.slice A3 l.length c3) l := Agr.own (s := ⟨z3, lo3, z3.heap.size⟩) (hR.agr 3) o3 rfl
 have k8 : Blk W9 lo8 33 #[.slice A3 l.length c3, .int .i64 n] := Agr.blk (s := ⟨z9, lo8, z8.heap.size⟩) (hR.agr 8) hb9 (Nat.le_refl _) (by rw [hs8]; exact Nat.lt_succ_self _)
 have h9 := HS.out.own1 hR.base k3 hlo3 k8 hlo8 (ne_ownR k3 k8 (by decide))
 have hlo : w.heap.size ≤ lo3 := Nat.le_trans HS.out.sz hlo3
 have H9 := Lib.hid (And.intro h9 (And.intro k3 hlo))
 have D1 := cells_say (h9.blk 1) _ 0 rfl
 have D2 := cells_say (h9.blk 2) _ 0 rfl
 have D3 := cells_say (h9.blk 3) _ 0 rfl
 simp only [cellsSay, List.drop_zero, Nat.reduceAdd, and_true] at D1 D2 D3
 clear C1 hR hb9 hb8 hbz9 hbw8 hb3 o3 hz3 hz8 hs8 hlo3 hlo8 k3 k8 h9 hlo HCl HS
 go_wp2_with fail
 generalize hWx : World.setCell _ _ _ = Wx
 have h10 := H9.out.1.put 2 g2 [(0, .int .u8 4), (1, .int .u32 0), (2, .int .u32 ((se : Nat) : Int)), (3, .int .i64 0), (4, .int .u64 0), (5, .int .u32 ((fc : Nat) : Int)), (6, .int .u32 ((fb : Nat) : Int)), (7, .int .u32 ((fn : Nat) : Int)), (8, .int .u32 ((cn : Nat) : Int)), (9, .bool cl), (10, .slice A3 l.length c3), (11, .int .i64 n)] #[.int .u8 4, .int .u32 0, .int .u32 ((se : Nat) : Int), .int .i64 0, .int .u64 0, .int .u32 ((fc : Nat) : Int), .int .u32 ((fb : Nat) : Int), .int .u32 ((fn : Nat) : Int), .int .u32 ((cn : Nat) : Int), .bool cl, .slice A3 l.length c3, .int .i64 n] hWx
 simp only [List.set_cons_succ, List.set_cons_zero] at h10
 have hown : OwnB Wx w.heap.size (.slice A3 l.length c3) l := OwnB.raise (h10.own 0) (fun k hk => by
  have h1 := (World.ownsRow.lt H9.out.2.1 k hk).1
  have h2 := H9.out.2.2
  omega)
 exact bodyPost_ret (results_cell_row Tryz.results27 _ _ g2 44 #[.int .u8 4, .int .u32 0, .int .u32 ((se : Nat) : Int), .int .i64 0, .int .u64 0, .int .u32 ((fc : Nat) : Int), .int .u32 ((fb : Nat) : Int), .int .u32 ((fn : Nat) : Int), .int .u32 ((cn : Nat) : Int), .bool cl, .slice A3 l.length c3, .int .i64 n] (0, 0) _ rfl (h10.blk 2) Tryz.underlying44 rfl (by kernel_rfl)) rfl ⟨A3, c3, rfl, hown, h10.b⟩
end Go.Proofs.YtmcdollkmlcpbaaGreatDoor
set_option linter.unusedSimpArgs false
set_option linter.unusedVariables false
namespace Go.Proofs.YtmcdollkmlcpbaaGreatDoor
open Go.RowKit
set_option maxRecDepth 100000
theorem end_hasR {C : CsT} (oc : OkC1 C) : hasC C (endC C).1 (endC C).2.1 (endC C).2.2 = true := by
 have hl : C[C.length - 1]? = some (lastL C) := by
  unfold lastL
  rw [← List.getLast?_eq_getElem?, List.getLast?_eq_some_getLast oc.ne, Option.getD_some]
 have hp := List.length_pos_iff.2 oc.ne
 show hasC C (C.length - 1) (endN (lastL C) (lastL C).length) (lastL C).length = true
 exact hasC_of (pn := (lastL C).length) hl (Nat.le_refl _) (fun h => by omega)
theorem end_okR {C : CsT} (oc : OkC1 C) : (endC C).1 < 4294967296 ∧ (endC C).2.1 < 4294967296 ∧ (endC C).2.2 < 4294967296 := by
 have h1 := oc.few
 have h2 := oc.lenL oc.lastM
 have h3 := bits_small h2 (oc.incL oc.lastM)
 have h4 := endN_le (lastL C) (lastL C).length
 unfold endC
 dsimp only
 omega
def rvC (q ep : Nat) : Array Value := #[.pointer (some ⟨q, 0, none⟩), .int .u32 (ep : Nat)]
abbrev thV (r q ep : Nat) : Kt := thB r 78 (rvC q ep)
def Rv (B : Nat) (w0 w : World) (r q ep : Nat) (D : BD) (ts : List Kt) : Prop := Bk B w0 w q D (thV r q ep :: ts)
section
variable {B : Nat} {w0 w w' : World} {r q ep : Nat} {D : BD} {ts us : List Kt}
theorem Rv.go (h : Rv B w0 w r q ep D ts) (b : Below w.heap.size w w') : Rv B w0 w' r q ep D ts := Bk.go h b
theorem Rv.okD (h : Rv B w0 w r q ep D ts) : OkD D := Bk.okD h
theorem Rv.blk (h : Rv B w0 w r q ep D ts) : Blk w r 78 (rvC q ep) := (Bk.sep h).blk 0
theorem Rv.sep (h : Rv B w0 w r q ep D ts) : Sep B w0 w ts := (Bk.sep h).tail
theorem Rv.b (h : Rv B w0 w r q ep D ts) : Below B w0 w := h.sep.b
theorem Rv.perm (h : Rv B w0 w r q ep D ts) (hp : ts.Perm us) : Rv B w0 w r q ep D us := Bk.perm h (List.Perm.cons _ hp)
theorem Rv.sub (h : Rv B w0 w r q ep D ts) (hs : us.Sublist ts) : Rv B w0 w r q ep D us := by
 obtain ⟨X, h1, h2, ok, hS⟩ := h
 exact ⟨X, h1, h2, ok, hS.sub ((hs.cons_cons _).cons_cons _)⟩
theorem Rv.tail {t : Kt} (h : Rv B w0 w r q ep D (t :: ts)) : Rv B w0 w r q ep D ts := h.sub (List.sublist_cons_self t ts)
theorem Rv.cons {t : Kt} (h : Rv B w0 w r q ep D ts) (b : Below w.heap.size w w') (hP : t.P w') (hF : ∀ k, t.F k → w.heap.size ≤ k) : Rv B w0 w' r q ep D (t :: ts) := (Bk.cons h b hP hF).perm (List.Perm.swap _ _ _)
theorem Rv.box (h : Rv B w0 w r q ep D ts) (cs : Array Value) (t : TypeId) : Rv B w0 (w.alloc (.cells cs t)) r q ep D (thB w.heap.size t cs :: ts) := (Bk.box h cs t).perm (List.Perm.swap _ _ _)
theorem Rv.side (h : Rv B w0 w r q ep D ts) (hs : ∀ rs, Sep B w0 w (ts ++ rs) → Sep B w0 w' (us ++ rs)) : Rv B w0 w' r q ep D us := by
 obtain ⟨X, h1, h2, ok, hS⟩ := h
 have h3 := hs _ (hS.permB (List.perm_append_comm (l₁ := [_, _]) (l₂ := ts)))
 exact ⟨X, h1, h2, ok, h3.permB (List.perm_append_comm (l₁ := us) (l₂ := [_, _]))⟩
theorem Rv.cells (h : Rv B w0 w r q ep D ts) (y : More) : (plus w y).cell? ⟨r, 0, none⟩ = some (.pointer (some ⟨q, 0, none⟩)) ∧ (plus w y).cell? ⟨r, 1, none⟩ = some (.int .u32 (ep : Nat)) :=
 ⟨(h.go (plus_below w y)).blk.cell 0, (h.go (plus_below w y)).blk.cell 1⟩
set_option maxHeartbeats 4000000 in
theorem rsum_any (h : Rv B w0 w r q ep D ts) (x : Nat) (hx : x < 4294967296) : Calls Tryz.prog 34 #[ptB r, .int .u32 (x : Nat)] w fun e w' => e = .returned (.int .u64 (sumE (D.at_ x) : Nat)) ∧ Below w.heap.size w w' := by
 have hmx : Tryz.prog.follows .mixedOrders = true := by kernel_rfl
 have hoc := h.okD.at_ x
 have hb := end_okR hoc
 have hh := end_hasR hoc
 obtain ⟨s, hs⟩ : ∃ s, s = sumE (D.at_ x) := ⟨_, rfl⟩
 have hs2 : s = sumC (D.at_ x) (endC (D.at_ x)).1 (endC (D.at_ x)).2.1 := hs
 have hEn := fun (y : More) => ext_of (bk_end (h.go (plus_below w y)) x hx)
 obtain ⟨⟨e1, e2, e3⟩, he⟩ : ∃ p, p = endC (D.at_ x) := ⟨_, rfl⟩
 rw [← he] at hEn hb hh hs2
 rw [← hs]
 have hSu := fun (y : More) => ext_of (bk_sum (h.go (plus_below w y)) x hx e1 e2 e3 hb.1 hb.2.1 hb.2.2)
 rw [hh] at hSu
 simp only [if_true] at hSu
 rw [← hs2] at hSu
 simp only [plV] at hEn hSu
 have C := h.cells
 have HE := Lib.hid hEn
 have HS := Lib.hid hSu
 clear h hoc hb hh hs hs2 he hEn hSu
 go_enter Tryz.func34, Tryz.ntmps34
 go_upto_region 1 with fail
 refine wp_region_ext (by kernel_rfl) (by kernel_rfl) ?_
 repeat (go_big_quiet_step (first | (go_at_call 21; exact HE.out _) | (go_at_call 20; exact HS.out _)))
 refine wpQuiet_nil ?_
 rintro w7 ⟨y, rfl⟩
 clear C
 go_wp2_with fail
 go_ret
 exact ⟨rfl, plus_below w y⟩
set_option maxHeartbeats 4000000 in
theorem ans_any (h : Rv B w0 w r q ep D ts) (kd : Nat) (x : Nat) (hx : x < 4294967296) : Calls Tryz.prog 19 #[ptB r, .int .u8 (kd : Nat), .int .u32 (x : Nat)] w fun e w' => e = .returned (.agg (frC (ansF D ep kd x) none 0)) ∧ Below w.heap.size w w' := by
 have hmx : Tryz.prog.follows .mixedOrders = true := by kernel_rfl
 obtain ⟨W, hW⟩ : ∃ W, W = w.alloc (.cells #[.int .u8 0, .int .u32 0, .int .u32 0, .int .u32 0, .int .u32 0, .int .u32 0, .int .u32 0, .bool false, .int .u64 0, .slice none 0 0, .int .i64 0] 39) := ⟨_, rfl⟩
 obtain ⟨g, hg⟩ : ∃ g, g = w.heap.size := ⟨_, rfl⟩
 have bW : Below w.heap.size w W := by rw [hW]; exact below_alloc w _
 have cg : Blk W g 39 #[.int .u8 0, .int .u32 0, .int .u32 0, .int .u32 0, .int .u32 0, .int .u32 0, .int .u32 0, .bool false, .int .u64 0, .slice none 0 0, .int .i64 0] := by rw [hW, hg]; exact Blk.new _ _ _
 have hR := h.go bW
 have hEn := fun (y : More) => ext_of (bk_end (hR.go (plus_below W y)) x hx)
 have hSu := fun (y : More) => ext_of (rsum_any (hR.go (plus_below W y)) x hx)
 unfold ansF
 obtain ⟨s, hs⟩ : ∃ s, s = sumE (D.at_ x) := ⟨_, rfl⟩
 obtain ⟨⟨e1, e2, e3⟩, he⟩ : ∃ p, p = endC (D.at_ x) := ⟨_, rfl⟩
 rw [← he] at hEn ⊢
 rw [← hs] at hSu ⊢
 simp only [plV] at hEn
 simp only [frC, List.length_nil]
 have C := hR.cells
 have HE := Lib.hid hEn
 have HS := Lib.hid hSu
 have HB := Lib.hid (And.intro cg (And.intro bW (Nat.le_of_eq hg.symm)))
 clear h hR hEn hSu hs he bW cg
 go_enter Tryz.func19, Tryz.ntmps19
 go_upto_region 1 with fail
 rw [← hW, ← hg]
 clear hW hg
 refine wp_region_tail_ext 16 (by kernel_rfl) (by kernel_rfl) ?_
 simp only [List.take_succ_cons, List.take_zero, List.drop_succ_cons, List.drop_zero]
 repeat (go_big_quiet_step (first | (go_at_call 21; exact HE.out _) | (go_at_call 34; exact HS.out _)))
 refine wpQuiet_nil ?_
 rintro w7 ⟨y, hw7⟩
 have b7 : Below W.heap.size W w7 := by rw [hw7]; exact plus_below W y
 have k7 := HB.out.1.below b7 HB.out.1.lt
 have B7 := HB.out.2.1.trans (b7.mono HB.out.2.1.size)
 have D1 := cells_say k7 _ 0 rfl
 simp only [cellsSay, List.drop_zero, Nat.reduceAdd, and_true] at D1
 have H7 := Lib.hid (And.intro k7 (And.intro B7 HB.out.2.2))
 clear C hw7 b7 k7 B7 HE HS HB
 go_wp2_with fail
 generalize hWx : World.setCell _ _ _ = Wx
 have k8 : Blk Wx g 39 #[.int .u8 ((kd : Nat) : Int), .int .u32 ((ep : Nat) : Int), .int .u32 ((x : Nat) : Int), .int .u32 ((e1 : Nat) : Int), .int .u32 ((e2 : Nat) : Int), .int .u32 ((e3 : Nat) : Int), .int .u32 0, .bool false, .int .u64 ((s : Nat) : Int), .slice none 0 0, .int .i64 0] := by
  rw [← hWx]
  exact H7.out.1.sets [(0, .int .u8 ((kd : Nat) : Int)), (1, .int .u32 ((ep : Nat) : Int)), (2, .int .u32 ((x : Nat) : Int)), (3, .int .u32 ((e1 : Nat) : Int)), (4, .int .u32 ((e2 : Nat) : Int)), (5, .int .u32 ((e3 : Nat) : Int)), (6, .int .u32 0), (7, .bool false), (8, .int .u64 ((s : Nat) : Int)), (9, .slice none 0 0), (10, .int .i64 0)]
 have b8 : Below w.heap.size w Wx := by
  rw [← hWx]
  exact (H7.out.2.1.grown (grown_sets g [(0, .int .u8 ((kd : Nat) : Int)), (1, .int .u32 ((ep : Nat) : Int)), (2, .int .u32 ((x : Nat) : Int)), (3, .int .u32 ((e1 : Nat) : Int)), (4, .int .u32 ((e2 : Nat) : Int)), (5, .int .u32 ((e3 : Nat) : Int)), (6, .int .u32 0), (7, .bool false), (8, .int .u64 ((s : Nat) : Int)), (9, .slice none 0 0), (10, .int .i64 0)] w7) H7.out.2.1.size (fun k hk => by injection hk with hk; have := H7.out.2.2; omega))
 exact bodyPost_ret (results_cell_row Tryz.results19 _ _ g 39 #[.int .u8 ((kd : Nat) : Int), .int .u32 ((ep : Nat) : Int), .int .u32 ((x : Nat) : Int), .int .u32 ((e1 : Nat) : Int), .int .u32 ((e2 : Nat) : Int), .int .u32 ((e3 : Nat) : Int), .int .u32 0, .bool false, .int .u64 ((s : Nat) : Int), .slice none 0 0, .int .i64 0] (0, 0) _ rfl k8 Tryz.underlying39 rfl (by kernel_rfl)) rfl ⟨rfl, b8⟩
theorem epo_any (h : Rv B w0 w r q ep D ts) : Calls Tryz.prog 10 #[ptB r] w fun e w' => e = .returned (.int .u32 (ep : Nat)) ∧ w' = w := by
 have C := cells_say h.blk _ 0 rfl
 simp only [cellsSay, rvC, List.drop_zero, Nat.reduceAdd, and_true] at C
 clear h
 go_enter Tryz.func10, Tryz.ntmps10
 go_wp2_with fail
 go_ret
 exact ⟨rfl, rfl⟩
theorem rnew_any (h : Bk B w0 w q D ts) : Calls Tryz.prog 9 #[ptB q] w fun e w' => ∃ r, e = .returned (ptB r) ∧ Rv B w0 w' r q 0 D ts := by
 have H := Lib.hid (h.box (rvC q 0) 78)
 unfold rvC at H
 clear h
 go_enter Tryz.func9, Tryz.ntmps9
 go_wp2_with fail
 go_ret
 exact ⟨_, rfl, H.out⟩
end
end Go.Proofs.YtmcdollkmlcpbaaGreatDoor
set_option linter.unusedSimpArgs false
set_option linter.unusedVariables false
namespace Go.Proofs.YtmcdollkmlcpbaaGreatDoor
open Go.RowKit
set_option maxRecDepth 100000
section
variable {B : Nat} {w0 w w' : World} {r q ep : Nat} {D : BD} {ts us : List Kt}
set_option maxHeartbeats 16000000 in
theorem taking_any (h : Rv B w0 w r q ep D ts) (hT : Tab w) (f : FrD) (hf : f.ok) (A : Option Addr) (c : Nat) (hA : Bs w A f.l) (hl : f.l.length ≤ 1000) :
  Calls Tryz.prog 45 #[ptB r, .agg (frC f A c)] w fun e w' => e = .returned (.int .i64 (takF D f : Nat)) ∧ Below w.heap.size w w' := by
 have hmx : Tryz.prog.follows .mixedOrders = true := by kernel_rfl
 obtain ⟨kd, ef, se, fc, fb, fn, cn, cl, sm, l, n⟩ := f
 simp only at hA hl
 obtain ⟨mb, hmb⟩ : ∃ b, b = mayN (noF ⟨kd, ef, se, fc, fb, fn, cn, cl, sm, l, n⟩) := ⟨_, rfl⟩
 obtain ⟨er, her⟩ : ∃ k, k = (fitD D ⟨kd, ef, se, fc, fb, fn, cn, cl, sm, l, n⟩).1 := ⟨_, rfl⟩
 have htk : takF D ⟨kd, ef, se, fc, fb, fn, cn, cl, sm, l, n⟩ = if mb = true ∧ er = 0 then 1 else 0 := by rw [hmb, her]; rfl
 obtain ⟨tk, htk2⟩ : ∃ k, k = takF D ⟨kd, ef, se, fc, fb, fn, cn, cl, sm, l, n⟩ := ⟨_, rfl⟩
 rw [← htk2] at htk ⊢
 obtain ⟨W, hW⟩ : ∃ W, W = w.alloc (.cells (frC ⟨kd, ef, se, fc, fb, fn, cn, cl, sm, l, n⟩ A c) 39) := ⟨_, rfl⟩
 obtain ⟨g3, hg3⟩ : ∃ g, g = w.heap.size := ⟨_, rfl⟩
 have bW : Below w.heap.size w W := by rw [hW]; exact below_alloc w _
 have cg : Blk W g3 39 (frC ⟨kd, ef, se, fc, fb, fn, cn, cl, sm, l, n⟩ A c) := by rw [hW, hg3]; exact Blk.new _ _ _
 have HNo := Lib.hid (fun (V : World) (b : Below W.heap.size W V) => noteOf_any ⟨kd, ef, se, fc, fb, fn, cn, cl, sm, l, n⟩ A c V (hA.below (bW.trans (b.mono bW.size))) hl)
 have HMy := Lib.hid (fun (V : World) (A5 : Option Addr) (c5 : Nat) (hb : Bs V A5 l) => (show Calls Tryz.prog 59 #[.agg #[.int .u8 4, .int .u32 0, .int .u32 ((se : Nat) : Int), .int .i64 0, .int .u64 0, .int .u32 ((fc : Nat) : Int), .int .u32 ((fb : Nat) : Int), .int .u32 ((fn : Nat) : Int), .int .u32 ((cn : Nat) : Int), .bool cl, .slice A5 l.length c5, .int .i64 n]] V _ from nmayP_any se fc fb fn cn cl l n A5 c5 V hb ⟨(by decide : (4 : Nat) < 256), (by decide : (0 : Nat) < 4294967296), hf.2.2.1, ⟨(by decide : (-9223372036854775808 : Int) ≤ 0), (by decide : (0 : Int) ≤ 9223372036854775807)⟩, (by decide : (0 : Nat) < 18446744073709551616), hf.2.2.2.1, hf.2.2.2.2.1, hf.2.2.2.2.2.1, hf.2.2.2.2.2.2.1, hf.2.2.2.2.2.2.2.2.1, hf.2.2.2.2.2.2.2.2.2⟩ (by omega)))
 have HFi := Lib.hid (fun (V : World) (b : Below W.heap.size W V) => bk_fits (h.go (bW.trans (b.mono bW.size))) (tabGo hT (bW.trans (b.mono bW.size))) ⟨kd, ef, se, fc, fb, fn, cn, cl, sm, l, n⟩ hf A c (hA.below (bW.trans (b.mono bW.size))) hl)
 rw [← her] at HFi
 rw [show mayN ⟨4, 0, se, 0, 0, fc, fb, fn, cn, cl, l, n⟩ = mb from hmb.symm] at HMy
 simp only [frC, noC, noF] at HNo HFi hW cg ⊢
 have HC := Lib.hid (fun (V : World) (b : Below W.heap.size W V) => And.intro (cells_say (cg.below b cg.lt) _ 0 rfl) ((h.go (bW.trans (b.mono bW.size))).blk.cell 0))
 have HB := Lib.hid (And.intro bW htk)
 clear h hT hf hA hl hmb her htk2 bW cg htk
 go_enter Tryz.func45, Tryz.ntmps45
 go_upto_region 1 with fail
 rw [← hW, ← hg3]
 clear hW hg3
 obtain ⟨I, hI⟩ : ∃ I : Rec → World → Prop, ∀ E V, I E V ↔ (Below W.heap.size W V ∧ ∀ u, E 1 = some u → ∃ A5 c5, u = .agg #[.int .u8 4, .int .u32 0, .int .u32 ((se : Nat) : Int), .int .i64 0, .int .u64 0, .int .u32 ((fc : Nat) : Int), .int .u32 ((fb : Nat) : Int), .int .u32 ((fn : Nat) : Int), .int .u32 ((cn : Nat) : Int), .bool cl, .slice A5 l.length c5, .int .i64 n] ∧ Bs V A5 l) := ⟨_, fun _ _ => Iff.rfl⟩
 have hI0 : I (fun _ => none) W.drew := (hI _ _).2 ⟨(Below.refl _ _).drew, fun u hu => by cases hu⟩
 haveI : Nonempty (InvW I) := ⟨⟨_, _, hI0⟩⟩
 have e1 := fun (y : InvW I) => (HC.out y.W ((hI _ _).1 y.h).1).1
 have e2 : ∀ y : InvW I, y.W.cell? ⟨r, 0, none⟩ = some (.pointer (some ⟨q, 0, none⟩)) := fun y => (HC.out y.W ((hI _ _).1 y.h).1).2
 simp only [cellsSay, List.drop_zero, Nat.reduceAdd, and_true] at e1
 have HI := Lib.hid hI
 clear hI HC
 cases mb with
 | false =>
  refine wp_region_inv I [[], [], [1], [], [], [], [], [], [], [], [], []] [1, 2, 5, 9] (fun k v => if k = 1 then ∃ A5 c5, v = .agg #[.int .u8 4, .int .u32 0, .int .u32 ((se : Nat) : Int), .int .i64 0, .int .u64 0, .int .u32 ((fc : Nat) : Int), .int .u32 ((fb : Nat) : Int), .int .u32 ((fn : Nat) : Int), .int .u32 ((cn : Nat) : Int), .bool cl, .slice A5 l.length c5, .int .i64 n] else if k = 2 then v = .bool false else if k = 5 then v = ptB r else v = .int .u16 ((er : Nat) : Int)) hmx (by kernel_rfl) hI0 ?_
  iterate 1 (refine walkJ_one rfl (by kernel_rfl) ?_; go_big_quiet_step (fail); refine wpQuiet_nil ?_)
  refine walkJ_turn rfl rfl ⟨_, none, 0, rfl⟩ (fun s W1 hs h7 _ => ?_) ?_
  ·obtain ⟨b, -⟩ := (HI.out _ _).1 hs
   refine inv_call (by simp [execOp, go_sem]) ((HNo.out W1 b).mono ?_)
   rintro e w5 ⟨A5, c5, rfl, o5, b5⟩
   refine ⟨_, rfl, ⟨A5, c5, rfl⟩, (HI.out _ _).2 ⟨b.trans (b5.mono b.size), fun u hu => ?_⟩⟩
   rw [recSet_same] at hu
   injection hu with hu
   exact ⟨A5, c5, hu.symm, o5.bs⟩
  rintro v ⟨A5, c5, rfl⟩
  conv => arg 11; simp [Act.put]
  refine walkJ_turn rfl rfl ⟨_, rfl⟩ (fun s W1 hs h7 hch => ?_) ?_
  ·obtain ⟨b, hE⟩ := (HI.out _ _).1 hs
   obtain ⟨A6, c6, e6, hb6⟩ := hE _ ((hch 1 (by simp)).trans rfl)
   have e7 : A5 = A6 ∧ c5 = c6 := by simpa using e6
   refine inv_call (by simp [execOp, go_sem]) ((HMy.out W1 A5 c5 (by rw [e7.1]; exact hb6)).mono ?_)
   rintro e w6 ⟨rfl, b6⟩
   refine ⟨_, rfl, rfl, (HI.out _ _).2 ⟨b.trans (b6.mono b.size), fun u hu => ?_⟩⟩
   rw [recSet_ne (by decide)] at hu
   obtain ⟨A7, c7, e8, hb8⟩ := hE u hu
   exact ⟨A7, c7, e8, hb8.below b6⟩
  rintro v rfl
  conv => arg 11; simp [Act.put]
  iterate 1 (refine walkJ_one rfl (by kernel_rfl) ?_; go_big_quiet_step (fail); refine wpQuiet_nil ?_)
  iterate 1 (refine walkJ_one rfl (by kernel_rfl) ?_; go_big_quiet_step (fail); refine wpQuiet_nil ?_)
  refine walkJ_off (by kernel_rfl) ?_
  conv => arg 11; simp [Act.put]
  iterate 3 (refine walkJ_one rfl (by kernel_rfl) ?_; go_big_quiet_step (fail); refine wpQuiet_nil ?_)
  refine walkJ_off (by kernel_rfl) ?_
  conv => arg 11; simp [Act.put]
  iterate 2 (refine walkJ_one rfl (by kernel_rfl) ?_; go_big_quiet_step (fail); refine wpQuiet_nil ?_)
  refine walkJ_end ?_
  intro W9 hW9
  have b9 := Lib.hid ((HI.out _ _).1 hW9).1
  clear e1 e2 hI0 HI hW9 HNo HMy HFi
  go_wp2_with fail
  go_ret
  exact ⟨by have h := HB.out.2; simp at h; rw [h]; rfl, HB.out.1.trans (b9.out.mono HB.out.1.size)⟩
 | true =>
  by_cases h0 : er = 0
  ·subst h0
   refine wp_region_inv I [[], [], [1], [], [], [], [], [], [], [], [], []] [1, 2, 5, 9] (fun k v => if k = 1 then ∃ A5 c5, v = .agg #[.int .u8 4, .int .u32 0, .int .u32 ((se : Nat) : Int), .int .i64 0, .int .u64 0, .int .u32 ((fc : Nat) : Int), .int .u32 ((fb : Nat) : Int), .int .u32 ((fn : Nat) : Int), .int .u32 ((cn : Nat) : Int), .bool cl, .slice A5 l.length c5, .int .i64 n] else if k = 2 then v = .bool true else if k = 5 then v = ptB r else v = .int .u16 ((0 : Nat) : Int)) hmx (by kernel_rfl) hI0 ?_
   iterate 1 (refine walkJ_one rfl (by kernel_rfl) ?_; go_big_quiet_step (fail); refine wpQuiet_nil ?_)
   refine walkJ_turn rfl rfl ⟨_, none, 0, rfl⟩ (fun s W1 hs h7 _ => ?_) ?_
   ·obtain ⟨b, -⟩ := (HI.out _ _).1 hs
    refine inv_call (by simp [execOp, go_sem]) ((HNo.out W1 b).mono ?_)
    rintro e w5 ⟨A5, c5, rfl, o5, b5⟩
    refine ⟨_, rfl, ⟨A5, c5, rfl⟩, (HI.out _ _).2 ⟨b.trans (b5.mono b.size), fun u hu => ?_⟩⟩
    rw [recSet_same] at hu
    injection hu with hu
    exact ⟨A5, c5, hu.symm, o5.bs⟩
   rintro v ⟨A5, c5, rfl⟩
   conv => arg 11; simp [Act.put]
   refine walkJ_turn rfl rfl ⟨_, rfl⟩ (fun s W1 hs h7 hch => ?_) ?_
   ·obtain ⟨b, hE⟩ := (HI.out _ _).1 hs
    obtain ⟨A6, c6, e6, hb6⟩ := hE _ ((hch 1 (by simp)).trans rfl)
    have e7 : A5 = A6 ∧ c5 = c6 := by simpa using e6
    refine inv_call (by simp [execOp, go_sem]) ((HMy.out W1 A5 c5 (by rw [e7.1]; exact hb6)).mono ?_)
    rintro e w6 ⟨rfl, b6⟩
    refine ⟨_, rfl, rfl, (HI.out _ _).2 ⟨b.trans (b6.mono b.size), fun u hu => ?_⟩⟩
    rw [recSet_ne (by decide)] at hu
    obtain ⟨A7, c7, e8, hb8⟩ := hE u hu
    exact ⟨A7, c7, e8, hb8.below b6⟩
   rintro v rfl
   conv => arg 11; simp [Act.put]
   iterate 1 (refine walkJ_one rfl (by kernel_rfl) ?_; go_big_quiet_step (fail); refine wpQuiet_nil ?_)
   iterate 1 (refine walkJ_one rfl (by kernel_rfl) ?_; go_big_quiet_step (fail); refine wpQuiet_nil ?_)
   refine walkJ_turn rfl rfl ⟨_, rfl⟩ (fun s W1 hs h7 _ => ?_) ?_
   ·obtain ⟨b, hE⟩ := (HI.out _ _).1 hs
    exact inv_val (W' := W1) (v := ptB r) (by simp [execOp, go_sem]) ⟨rfl, (HI.out _ _).2 ⟨b, fun u hu => hE u (by rw [recSet_ne (by decide)] at hu; exact hu)⟩⟩
   rintro v rfl
   conv => arg 11; simp [Act.put]
   iterate 3 (refine walkJ_one rfl (by kernel_rfl) ?_; go_big_quiet_step (fail); refine wpQuiet_nil ?_)
   refine walkJ_turn rfl rfl ⟨_, rfl⟩ (fun s W1 hs h7 _ => ?_) ?_
   ·obtain ⟨b, hE⟩ := (HI.out _ _).1 hs
    refine inv_call (by simp [execOp, go_sem]) ((HFi.out W1 b).mono ?_)
    rintro e w6 ⟨rfl, b6⟩
    refine ⟨_, rfl, rfl, (HI.out _ _).2 ⟨b.trans (b6.mono b.size), fun u hu => ?_⟩⟩
    rw [recSet_ne (by decide)] at hu
    obtain ⟨A7, c7, e8, hb8⟩ := hE u hu
    exact ⟨A7, c7, e8, hb8.below b6⟩
   rintro v rfl
   conv => arg 11; simp [Act.put]
   iterate 2 (refine walkJ_one rfl (by kernel_rfl) ?_; go_big_quiet_step (fail); refine wpQuiet_nil ?_)
   refine walkJ_end ?_
   intro W9 hW9
   have b9 := Lib.hid ((HI.out _ _).1 hW9).1
   clear e1 e2 hI0 HI hW9 HNo HMy HFi
   go_wp2_with fail
   go_ret
   exact ⟨by have h := HB.out.2; simp at h; rw [h]; rfl, HB.out.1.trans (b9.out.mono HB.out.1.size)⟩
  ·have hne := h0
   have h1 : (((er : Nat) : Int) == 0) = false := beq_eq_false_iff_ne.2 (by omega)
   have h2 : (er == 0) = false := beq_eq_false_iff_ne.2 h0
   clear h0
   refine wp_region_inv I [[], [], [1], [], [], [], [], [], [], [], [], []] [1, 2, 5, 9] (fun k v => if k = 1 then ∃ A5 c5, v = .agg #[.int .u8 4, .int .u32 0, .int .u32 ((se : Nat) : Int), .int .i64 0, .int .u64 0, .int .u32 ((fc : Nat) : Int), .int .u32 ((fb : Nat) : Int), .int .u32 ((fn : Nat) : Int), .int .u32 ((cn : Nat) : Int), .bool cl, .slice A5 l.length c5, .int .i64 n] else if k = 2 then v = .bool true else if k = 5 then v = ptB r else v = .int .u16 ((er : Nat) : Int)) hmx (by kernel_rfl) hI0 ?_
   iterate 1 (refine walkJ_one rfl (by kernel_rfl) ?_; go_big_quiet_step (fail); refine wpQuiet_nil ?_)
   refine walkJ_turn rfl rfl ⟨_, none, 0, rfl⟩ (fun s W1 hs h7 _ => ?_) ?_
   ·obtain ⟨b, -⟩ := (HI.out _ _).1 hs
    refine inv_call (by simp [execOp, go_sem]) ((HNo.out W1 b).mono ?_)
    rintro e w5 ⟨A5, c5, rfl, o5, b5⟩
    refine ⟨_, rfl, ⟨A5, c5, rfl⟩, (HI.out _ _).2 ⟨b.trans (b5.mono b.size), fun u hu => ?_⟩⟩
    rw [recSet_same] at hu
    injection hu with hu
    exact ⟨A5, c5, hu.symm, o5.bs⟩
   rintro v ⟨A5, c5, rfl⟩
   conv => arg 11; simp [Act.put]
   refine walkJ_turn rfl rfl ⟨_, rfl⟩ (fun s W1 hs h7 hch => ?_) ?_
   ·obtain ⟨b, hE⟩ := (HI.out _ _).1 hs
    obtain ⟨A6, c6, e6, hb6⟩ := hE _ ((hch 1 (by simp)).trans rfl)
    have e7 : A5 = A6 ∧ c5 = c6 := by simpa using e6
    refine inv_call (by simp [execOp, go_sem]) ((HMy.out W1 A5 c5 (by rw [e7.1]; exact hb6)).mono ?_)
    rintro e w6 ⟨rfl, b6⟩
    refine ⟨_, rfl, rfl, (HI.out _ _).2 ⟨b.trans (b6.mono b.size), fun u hu => ?_⟩⟩
    rw [recSet_ne (by decide)] at hu
    obtain ⟨A7, c7, e8, hb8⟩ := hE u hu
    exact ⟨A7, c7, e8, hb8.below b6⟩
   rintro v rfl
   conv => arg 11; simp [Act.put]
   iterate 1 (refine walkJ_one rfl (by kernel_rfl) ?_; go_big_quiet_step (fail); refine wpQuiet_nil ?_)
   iterate 1 (refine walkJ_one rfl (by kernel_rfl) ?_; go_big_quiet_step (fail); refine wpQuiet_nil ?_)
   refine walkJ_turn rfl rfl ⟨_, rfl⟩ (fun s W1 hs h7 _ => ?_) ?_
   ·obtain ⟨b, hE⟩ := (HI.out _ _).1 hs
    exact inv_val (W' := W1) (v := ptB r) (by simp [execOp, go_sem]) ⟨rfl, (HI.out _ _).2 ⟨b, fun u hu => hE u (by rw [recSet_ne (by decide)] at hu; exact hu)⟩⟩
   rintro v rfl
   conv => arg 11; simp [Act.put]
   iterate 3 (refine walkJ_one rfl (by kernel_rfl) ?_; go_big_quiet_step (fail); refine wpQuiet_nil ?_)
   refine walkJ_turn rfl rfl ⟨_, rfl⟩ (fun s W1 hs h7 _ => ?_) ?_
   ·obtain ⟨b, hE⟩ := (HI.out _ _).1 hs
    refine inv_call (by simp [execOp, go_sem]) ((HFi.out W1 b).mono ?_)
    rintro e w6 ⟨rfl, b6⟩
    refine ⟨_, rfl, rfl, (HI.out _ _).2 ⟨b.trans (b6.mono b.size), fun u hu => ?_⟩⟩
    rw [recSet_ne (by decide)] at hu
    obtain ⟨A7, c7, e8, hb8⟩ := hE u hu
    exact ⟨A7, c7, e8, hb8.below b6⟩
   rintro v rfl
   conv => arg 11; simp [Act.put]
   iterate 2 (refine walkJ_one rfl (by kernel_rfl) ?_; go_big_quiet_step (fail); refine wpQuiet_nil ?_)
   refine walkJ_end ?_
   intro W9 hW9
   have b9 := Lib.hid ((HI.out _ _).1 hW9).1
   clear e1 e2 hI0 HI hW9 HNo HMy HFi
   go_wp2_with fail
   go_ret
   exact ⟨by have h := HB.out.2; simp [hne] at h; rw [h]; rfl, HB.out.1.trans (b9.out.mono HB.out.1.size)⟩
end
end Go.Proofs.YtmcdollkmlcpbaaGreatDoor
set_option linter.unusedSimpArgs false
set_option linter.unusedVariables false
namespace Go.Proofs.YtmcdollkmlcpbaaGreatDoor
open Go.RowKit
set_option maxRecDepth 100000
section
variable {B : Nat} {w0 w w' : World} {r q ep : Nat} {D : BD} {ts us : List Kt}
set_option maxHeartbeats 16000000 in
theorem react_any (h : Rv B w0 w r q ep D ts) (hT : Tab w) (f : FrD) (hf : f.ok) (A : Option Addr) (c : Nat) (hA : Bs w A f.l) (hl : f.l.length ≤ 1000) :
  Calls Tryz.prog 26 #[ptB r, .agg (frC f A c)] w fun e w' => e = .returned (.int .i64 (reactF D f : Nat)) ∧ Below w.heap.size w w' := by
 have hmx : Tryz.prog.follows .mixedOrders = true := by kernel_rfl
 obtain ⟨kd, ef, se, fc, fb, fn, cn, cl, sm, l, n⟩ := f
 simp only at hA hl
 have hx : se < 4294967296 := hf.2.2.1
 obtain ⟨W, hW⟩ : ∃ W, W = w.alloc (.cells (frC ⟨kd, ef, se, fc, fb, fn, cn, cl, sm, l, n⟩ A c) 39) := ⟨_, rfl⟩
 obtain ⟨g3, hg3⟩ : ∃ g, g = w.heap.size := ⟨_, rfl⟩
 have bW : Below w.heap.size w W := by rw [hW]; exact below_alloc w _
 have hR : Rv B w0 W r q ep D (thB g3 39 (frC ⟨kd, ef, se, fc, fb, fn, cn, cl, sm, l, n⟩ A c) :: ts) := by rw [hW, hg3]; exact h.box _ _
 have HEn := Lib.hid (fun (V : World) (b : Below W.heap.size W V) => bk_end (hR.go b) se hx)
 have HSm := Lib.hid (fun (V : World) (b : Below W.heap.size W V) => rsum_any (hR.go b) se hx)
 have HTk := Lib.hid (fun (V : World) (b : Below W.heap.size W V) => taking_any (h.go (bW.trans (b.mono bW.size))) (tabGo hT (bW.trans (b.mono bW.size))) ⟨kd, ef, se, fc, fb, fn, cn, cl, sm, l, n⟩ hf A c (hA.below (bW.trans (b.mono bW.size))) hl)
 obtain ⟨⟨e1, e2, e3⟩, he⟩ : ∃ p, p = endC (D.at_ se) := ⟨_, rfl⟩
 obtain ⟨s, hs⟩ : ∃ s, s = sumE (D.at_ se) := ⟨_, rfl⟩
 obtain ⟨tk, htk⟩ : ∃ k, k = takF D ⟨kd, ef, se, fc, fb, fn, cn, cl, sm, l, n⟩ := ⟨_, rfl⟩
 have hre : reactF D ⟨kd, ef, se, fc, fb, fn, cn, cl, sm, l, n⟩ = (if kd = 3 then if fc < e1 ∨ fc = e1 ∧ cn < e3 then 2 else if fc = e1 then tk else 3 else if (fc, fb, fn) = (e1, e2, e3) then (if sm = s then tk else 3) else if fc < e1 ∨ fc = e1 ∧ cn ≤ e3 then 2 else 3) := by
  unfold reactF
  dsimp only
  rw [← he, ← hs, ← htk]
 obtain ⟨re, hre2⟩ : ∃ k, k = reactF D ⟨kd, ef, se, fc, fb, fn, cn, cl, sm, l, n⟩ := ⟨_, rfl⟩
 rw [← hre2] at hre ⊢
 rw [← he] at HEn
 rw [← hs] at HSm
 rw [← htk] at HTk
 simp only [frC, plV] at HEn HTk hW hR ⊢
 have HR := Lib.hid hR
 have HB := Lib.hid (And.intro bW hre)
 have C := fun (y : More) => cells_say ((hR.go (plus_below W y)).sep.blk 0) _ 0 rfl
 simp only [cellsSay, List.drop_zero, Nat.reduceAdd, and_true] at C
 have C2 := fun (y : More) => (hR.cells y).1
 clear h hT hf hA hl bW hR hre hre2 he hs htk
 go_enter Tryz.func26, Tryz.ntmps26
 go_upto_region 1 with fail
 rw [← hW, ← hg3]
 clear hW hg3
 refine wp_region_frw [none, none, none, none, none, none, none, none, some 7] [1, 6, 7] [8] (fun k lo v z => if k = 1 then v = ptB r else if k = 6 then v = .agg #[.int .u32 (e1 : Nat), .int .u32 (e2 : Nat), .int .u32 (e3 : Nat)] else v = .pointer (some ⟨lo, 0, none⟩) ∧ z.heap.size = lo + 1 ∧ Blk z lo 36 #[.int .u32 0, .int .u32 0, .int .u32 0]) hmx (by kernel_rfl) ?_
 iterate 1 (refine walkH_one rfl rfl (by kernel_rfl) ?_; go_big_quiet_step (fail); refine wpQuiet_nil ?_)
 refine walkH_make rfl rfl (by kernel_rfl) (fun x => ?_) ?_
 ·refine grow_val (v := ptB r) (w' := plus W x) ?_ (Below.refl _ _) rfl
  simp [execOp, go_sem]
 rintro V1 lo1 z1 rfl hlo1 hz1 hbw1
 conv => arg 12; simp [Act.put]
 iterate 4 (refine walkH_one rfl rfl (by kernel_rfl) ?_; go_big_quiet_step (fail); refine wpQuiet_nil ?_)
 refine walkH_make rfl rfl (by kernel_rfl) (fun x => ?_) ?_
 ·refine grow_call ?_ ((HEn.out _ (plus_below W x)).mono ?_)
  ·simp [execOp, go_sem]
  ·rintro e w4 ⟨rfl, b4⟩
   exact ⟨_, rfl, b4, rfl⟩
 rintro V6 lo6 z6 rfl hlo6 hz6 hbw6
 conv => arg 12; simp [Act.put]
 refine walkH_make rfl rfl (by kernel_rfl) (fun x => ?_) ?_
 ·exact grow_alloc (by simp [execOp, go_sem]) ⟨rfl, by simp, Blk.new _ _ _⟩
 rintro V7 lo7 z7 ⟨rfl, hs7, hb7⟩ hlo7 hz7 hbw7
 conv => arg 12; simp [Act.put]
 refine walkH_store rfl rfl (j := 7) rfl (by kernel_rfl) (fun W hW hA => ?_)
 have hB : Blk W lo7 36 #[.int .u32 0, .int .u32 0, .int .u32 0] := Agr.blk (s := ⟨z7, lo7, z7.heap.size⟩) hA hb7 (Nat.le_refl _) (by rw [hs7]; exact Nat.lt_succ_self _)
 have hcs := cells_say hB _ 0 rfl
 simp only [cellsSay, List.drop_zero, Nat.reduceAdd, and_true] at hcs
 refine ⟨sets W lo7 [(0, .int .u32 ((e1 : Nat) : Int)), (1, .int .u32 ((e2 : Nat) : Int)), (2, .int .u32 ((e3 : Nat) : Int))], by simp [execOp, go_sem, hcs, sets],
  (((storeUpon.same W _).cell _ _ (Nat.le_refl _) (show lo7 < z7.heap.size by omega)).cell _ _ (Nat.le_refl _) (show lo7 < z7.heap.size by omega)).cell _ _ (Nat.le_refl _) (show lo7 < z7.heap.size by omega), fun hbz8 => ?_⟩
 have hb8 := hB.sets [(0, .int .u32 ((e1 : Nat) : Int)), (1, .int .u32 ((e2 : Nat) : Int)), (2, .int .u32 ((e3 : Nat) : Int))]
 generalize sets W lo7 _ = z8 at *
 clear hA hB hcs hW
 conv => arg 12; simp [Act.put]
 refine walkH_end ?_
 intro W9 hK
 have k7 : Blk W9 lo7 36 #[.int .u32 ((e1 : Nat) : Int), .int .u32 ((e2 : Nat) : Int), .int .u32 ((e3 : Nat) : Int)] := Agr.blk (s := ⟨z8, lo7, z7.heap.size⟩) (hK.agr 7) hb8 (Nat.le_refl _) (by rw [hs7]; exact Nat.lt_succ_self _)
 have h9 := HR.out.cons (t := thB lo7 36 #[.int .u32 ((e1 : Nat) : Int), .int .u32 ((e2 : Nat) : Int), .int .u32 ((e3 : Nat) : Int)]) hK.base k7 (fun k hk => by have e : k = lo7 := hk; subst e; exact hlo7)
 have HBase := Lib.hid hK.base
 clear C C2 hK hb8 hb7 hbz8 hbw7 hbw6 hbw1 hz1 hz6 hz7 hs7 hlo1 hlo6 hlo7 k7 HR HEn
 have D5 := cells_say (h9.sep.blk 0) _ 0 rfl
 have D3 := cells_say (h9.sep.blk 1) _ 0 rfl
 simp only [cellsSay, List.drop_zero, Nat.reduceAdd, and_true] at D5 D3
 have hcu := h9.cells
 have H9 := Lib.hid h9
 have HBb := Lib.hid (HB.out.1.trans (HBase.out.mono HB.out.1.size))
 clear h9
 by_cases hk : kd = 3
 ·have hk1 : ((kd : Nat) == 3) = true := beq_iff_eq.2 hk
  have hk2 : (((kd : Nat) : Int) == 3) = true := beq_iff_eq.2 (by omega)
  by_cases hb : fc < e1
  ·have hb1 : decide (fc < e1) = true := decide_eq_true hb
   have hb2 : decide (((fc : Nat) : Int) < ((e1 : Nat) : Int)) = true := decide_eq_true (by omega)
   have Hr := Lib.hid (show re = 2 by rw [HB.out.2, if_pos hk, if_pos (.inl hb)])
   clear hk hb
   go_wp2_with fail
   go_ret
   exact ⟨by rw [Hr.out]; rfl, HBb.out⟩
  ·have hb1 : decide (fc < e1) = false := decide_eq_false hb
   have hb2 : decide (((fc : Nat) : Int) < ((e1 : Nat) : Int)) = false := decide_eq_false (by omega)
   by_cases hs : fc = e1
   ·have hs1 : ((fc : Nat) == e1) = true := beq_iff_eq.2 hs
    have hs2 : (((fc : Nat) : Int) == ((e1 : Nat) : Int)) = true := beq_iff_eq.2 (by omega)
    by_cases hc : cn < e3
    ·have hc1 : decide (cn < e3) = true := decide_eq_true hc
     have hc2 : decide (((cn : Nat) : Int) < ((e3 : Nat) : Int)) = true := decide_eq_true (by omega)
     have Hr := Lib.hid (show re = 2 by rw [HB.out.2, if_pos hk, if_pos (.inr ⟨hs, hc⟩)])
     clear hk hb hs hc
     go_wp2_with fail
     go_ret
     exact ⟨by rw [Hr.out]; rfl, HBb.out⟩
    ·have hc1 : decide (cn < e3) = false := decide_eq_false hc
     have hc2 : decide (((cn : Nat) : Int) < ((e3 : Nat) : Int)) = false := decide_eq_false (by omega)
     have Hr := Lib.hid (show re = tk by rw [HB.out.2, if_pos hk, if_neg (by omega), if_pos hs])
     have HT9 := Lib.hid (HTk.out W9 HBase.out)
     clear hk hb hs hc
     go_wp2_with (go_at_call 45; refine HT9.out.mono ?_; rintro e w10 ⟨rfl, b10⟩)
     go_ret
     exact ⟨by rw [Hr.out]; rfl, HBb.out.trans (b10.mono HBb.out.size)⟩
   ·have hs1 : ((fc : Nat) == e1) = false := beq_eq_false_iff_ne.2 hs
    have hs2 : (((fc : Nat) : Int) == ((e1 : Nat) : Int)) = false := beq_eq_false_iff_ne.2 (by omega)
    have Hr := Lib.hid (show re = 3 by rw [HB.out.2, if_pos hk, if_neg (by omega), if_neg hs])
    clear hk hb hs
    go_wp2_with fail
    go_ret
    exact ⟨by rw [Hr.out]; rfl, HBb.out⟩
 ·have hk1 : ((kd : Nat) == 3) = false := beq_eq_false_iff_ne.2 hk
  have hk2 : (((kd : Nat) : Int) == 3) = false := beq_eq_false_iff_ne.2 (by omega)
  by_cases hq : (fc, fb, fn) = (e1, e2, e3)
  ·have hQ : ∀ w, (binOp .eql 36 (.agg #[.int .u32 (fc : Nat), .int .u32 (fb : Nat), .int .u32 (fn : Nat)]) (.agg #[.int .u32 (e1 : Nat), .int .u32 (e2 : Nat), .int .u32 (e3 : Nat)])).run Tryz.prog w = .ok (.bool true) w := fun w => by rw [eqPlB_run fc fb fn e1 e2 e3 w, decide_eq_true hq]
   by_cases hm : sm = s
   ·have hm1 : ((sm : Nat) == s) = true := beq_iff_eq.2 hm
    have hm2 : (((sm : Nat) : Int) == ((s : Nat) : Int)) = true := beq_iff_eq.2 (by omega)
    have Hr := Lib.hid (show re = tk by rw [HB.out.2, if_neg hk, if_pos hq, if_pos hm])
    clear hk hq hm
    go_upto_region 11 with fail
    clear D5 D3
    have HS11 := Lib.hid (fun (y : More) => ext_of (HSm.out (plus W9 y) (HBase.out.trans ((plus_below W9 y).mono HBase.out.size))))
    have D5 := fun (y : More) => cells_say ((H9.out.go (plus_below W9 y)).sep.blk 0) _ 0 rfl
    have D3 := fun (y : More) => cells_say ((H9.out.go (plus_below W9 y)).sep.blk 1) _ 0 rfl
    simp only [cellsSay, List.drop_zero, Nat.reduceAdd, and_true] at D5 D3
    refine wp_region_ext (by kernel_rfl) (by kernel_rfl) ?_
    repeat (go_big_quiet_step ((go_at_call 34; exact HS11.out _)))
    refine wpQuiet_nil ?_
    rintro wz ⟨yz, hwz⟩
    have bz : Below W9.heap.size W9 wz := by rw [hwz]; exact plus_below W9 yz
    have h12 := H9.out.go bz
    have HBz := Lib.hid (And.intro (HBb.out.trans (bz.mono HBb.out.size)) (HBase.out.trans (bz.mono HBase.out.size)))
    clear D5 D3 hcu hwz bz HS11
    have D5 := cells_say (h12.sep.blk 0) _ 0 rfl
    have D3 := cells_say (h12.sep.blk 1) _ 0 rfl
    simp only [cellsSay, List.drop_zero, Nat.reduceAdd, and_true] at D5 D3
    clear h12
    have HT9 := Lib.hid (HTk.out wz HBz.out.2)
    go_wp2_with (go_at_call 45; refine HT9.out.mono ?_; rintro e w10 ⟨rfl, b10⟩)
    go_ret
    exact ⟨by rw [Hr.out]; rfl, HBz.out.1.trans (b10.mono HBz.out.1.size)⟩
   ·have hm1 : ((sm : Nat) == s) = false := beq_eq_false_iff_ne.2 hm
    have hm2 : (((sm : Nat) : Int) == ((s : Nat) : Int)) = false := beq_eq_false_iff_ne.2 (by omega)
    have Hr := Lib.hid (show re = 3 by rw [HB.out.2, if_neg hk, if_pos hq, if_neg hm])
    clear hk hq hm
    go_upto_region 11 with fail
    clear D5 D3
    have HS11 := Lib.hid (fun (y : More) => ext_of (HSm.out (plus W9 y) (HBase.out.trans ((plus_below W9 y).mono HBase.out.size))))
    have D5 := fun (y : More) => cells_say ((H9.out.go (plus_below W9 y)).sep.blk 0) _ 0 rfl
    have D3 := fun (y : More) => cells_say ((H9.out.go (plus_below W9 y)).sep.blk 1) _ 0 rfl
    simp only [cellsSay, List.drop_zero, Nat.reduceAdd, and_true] at D5 D3
    refine wp_region_ext (by kernel_rfl) (by kernel_rfl) ?_
    repeat (go_big_quiet_step ((go_at_call 34; exact HS11.out _)))
    refine wpQuiet_nil ?_
    rintro wz ⟨yz, hwz⟩
    have bz : Below W9.heap.size W9 wz := by rw [hwz]; exact plus_below W9 yz
    have h12 := H9.out.go bz
    have HBz := Lib.hid (And.intro (HBb.out.trans (bz.mono HBb.out.size)) (HBase.out.trans (bz.mono HBase.out.size)))
    clear D5 D3 hcu hwz bz HS11
    have D5 := cells_say (h12.sep.blk 0) _ 0 rfl
    have D3 := cells_say (h12.sep.blk 1) _ 0 rfl
    simp only [cellsSay, List.drop_zero, Nat.reduceAdd, and_true] at D5 D3
    clear h12
    go_wp2_with fail
    go_ret
    exact ⟨by rw [Hr.out]; rfl, HBz.out.1⟩
  ·have hQ : ∀ w, (binOp .eql 36 (.agg #[.int .u32 (fc : Nat), .int .u32 (fb : Nat), .int .u32 (fn : Nat)]) (.agg #[.int .u32 (e1 : Nat), .int .u32 (e2 : Nat), .int .u32 (e3 : Nat)])).run Tryz.prog w = .ok (.bool false) w := fun w => by rw [eqPlB_run fc fb fn e1 e2 e3 w, decide_eq_false hq]
   by_cases hb : fc < e1
   ·have hb1 : decide (fc < e1) = true := decide_eq_true hb
    have hb2 : decide (((fc : Nat) : Int) < ((e1 : Nat) : Int)) = true := decide_eq_true (by omega)
    have Hr := Lib.hid (show re = 2 by rw [HB.out.2, if_neg hk, if_neg hq, if_pos (.inl hb)])
    clear hk hq hb
    go_upto_region 11 with fail
    clear D5 D3
    have HS11 := Lib.hid (fun (y : More) => ext_of (HSm.out (plus W9 y) (HBase.out.trans ((plus_below W9 y).mono HBase.out.size))))
    have D5 := fun (y : More) => cells_say ((H9.out.go (plus_below W9 y)).sep.blk 0) _ 0 rfl
    have D3 := fun (y : More) => cells_say ((H9.out.go (plus_below W9 y)).sep.blk 1) _ 0 rfl
    simp only [cellsSay, List.drop_zero, Nat.reduceAdd, and_true] at D5 D3
    refine wp_region_ext (by kernel_rfl) (by kernel_rfl) ?_
    repeat (go_big_quiet_step ((go_at_call 34; exact HS11.out _)))
    refine wpQuiet_nil ?_
    rintro wz ⟨yz, hwz⟩
    have bz : Below W9.heap.size W9 wz := by rw [hwz]; exact plus_below W9 yz
    have h12 := H9.out.go bz
    have HBz := Lib.hid (And.intro (HBb.out.trans (bz.mono HBb.out.size)) (HBase.out.trans (bz.mono HBase.out.size)))
    clear D5 D3 hcu hwz bz HS11
    have D5 := cells_say (h12.sep.blk 0) _ 0 rfl
    have D3 := cells_say (h12.sep.blk 1) _ 0 rfl
    simp only [cellsSay, List.drop_zero, Nat.reduceAdd, and_true] at D5 D3
    clear h12
    go_wp2_with fail
    go_ret
    exact ⟨by rw [Hr.out]; rfl, HBz.out.1⟩
   ·have hb1 : decide (fc < e1) = false := decide_eq_false hb
    have hb2 : decide (((fc : Nat) : Int) < ((e1 : Nat) : Int)) = false := decide_eq_false (by omega)
    by_cases hs : fc = e1
    ·have hs1 : ((fc : Nat) == e1) = true := beq_iff_eq.2 hs
     have hs2 : (((fc : Nat) : Int) == ((e1 : Nat) : Int)) = true := beq_iff_eq.2 (by omega)
     by_cases hc : cn ≤ e3
     ·have hc1 : decide (cn ≤ e3) = true := decide_eq_true hc
      have hc2 : decide (((cn : Nat) : Int) ≤ ((e3 : Nat) : Int)) = true := decide_eq_true (by omega)
      have Hr := Lib.hid (show re = 2 by rw [HB.out.2, if_neg hk, if_neg hq, if_pos (.inr ⟨hs, hc⟩)])
      clear hk hq hb hs hc
      go_upto_region 11 with fail
      clear D5 D3
      have HS11 := Lib.hid (fun (y : More) => ext_of (HSm.out (plus W9 y) (HBase.out.trans ((plus_below W9 y).mono HBase.out.size))))
      have D5 := fun (y : More) => cells_say ((H9.out.go (plus_below W9 y)).sep.blk 0) _ 0 rfl
      have D3 := fun (y : More) => cells_say ((H9.out.go (plus_below W9 y)).sep.blk 1) _ 0 rfl
      simp only [cellsSay, List.drop_zero, Nat.reduceAdd, and_true] at D5 D3
      refine wp_region_ext (by kernel_rfl) (by kernel_rfl) ?_
      repeat (go_big_quiet_step ((go_at_call 34; exact HS11.out _)))
      refine wpQuiet_nil ?_
      rintro wz ⟨yz, hwz⟩
      have bz : Below W9.heap.size W9 wz := by rw [hwz]; exact plus_below W9 yz
      have h12 := H9.out.go bz
      have HBz := Lib.hid (And.intro (HBb.out.trans (bz.mono HBb.out.size)) (HBase.out.trans (bz.mono HBase.out.size)))
      clear D5 D3 hcu hwz bz HS11
      have D5 := cells_say (h12.sep.blk 0) _ 0 rfl
      have D3 := cells_say (h12.sep.blk 1) _ 0 rfl
      simp only [cellsSay, List.drop_zero, Nat.reduceAdd, and_true] at D5 D3
      clear h12
      go_wp2_with fail
      go_ret
      exact ⟨by rw [Hr.out]; rfl, HBz.out.1⟩
     ·have hc1 : decide (cn ≤ e3) = false := decide_eq_false hc
      have hc2 : decide (((cn : Nat) : Int) ≤ ((e3 : Nat) : Int)) = false := decide_eq_false (by omega)
      have Hr := Lib.hid (show re = 3 by rw [HB.out.2, if_neg hk, if_neg hq, if_neg (by omega)])
      clear hk hq hb hs hc
      go_upto_region 11 with fail
      clear D5 D3
      have HS11 := Lib.hid (fun (y : More) => ext_of (HSm.out (plus W9 y) (HBase.out.trans ((plus_below W9 y).mono HBase.out.size))))
      have D5 := fun (y : More) => cells_say ((H9.out.go (plus_below W9 y)).sep.blk 0) _ 0 rfl
      have D3 := fun (y : More) => cells_say ((H9.out.go (plus_below W9 y)).sep.blk 1) _ 0 rfl
      simp only [cellsSay, List.drop_zero, Nat.reduceAdd, and_true] at D5 D3
      refine wp_region_ext (by kernel_rfl) (by kernel_rfl) ?_
      repeat (go_big_quiet_step ((go_at_call 34; exact HS11.out _)))
      refine wpQuiet_nil ?_
      rintro wz ⟨yz, hwz⟩
      have bz : Below W9.heap.size W9 wz := by rw [hwz]; exact plus_below W9 yz
      have h12 := H9.out.go bz
      have HBz := Lib.hid (And.intro (HBb.out.trans (bz.mono HBb.out.size)) (HBase.out.trans (bz.mono HBase.out.size)))
      clear D5 D3 hcu hwz bz HS11
      have D5 := cells_say (h12.sep.blk 0) _ 0 rfl
      have D3 := cells_say (h12.sep.blk 1) _ 0 rfl
      simp only [cellsSay, List.drop_zero, Nat.reduceAdd, and_true] at D5 D3
      clear h12
      go_wp2_with fail
      go_ret
      exact ⟨by rw [Hr.out]; rfl, HBz.out.1⟩
    ·have hs1 : ((fc : Nat) == e1) = false := beq_eq_false_iff_ne.2 hs
     have hs2 : (((fc : Nat) : Int) == ((e1 : Nat) : Int)) = false := beq_eq_false_iff_ne.2 (by omega)
     have Hr := Lib.hid (show re = 3 by rw [HB.out.2, if_neg hk, if_neg hq, if_neg (by omega)])
     clear hk hq hb hs
     go_upto_region 11 with fail
     clear D5 D3
     have HS11 := Lib.hid (fun (y : More) => ext_of (HSm.out (plus W9 y) (HBase.out.trans ((plus_below W9 y).mono HBase.out.size))))
     have D5 := fun (y : More) => cells_say ((H9.out.go (plus_below W9 y)).sep.blk 0) _ 0 rfl
     have D3 := fun (y : More) => cells_say ((H9.out.go (plus_below W9 y)).sep.blk 1) _ 0 rfl
     simp only [cellsSay, List.drop_zero, Nat.reduceAdd, and_true] at D5 D3
     refine wp_region_ext (by kernel_rfl) (by kernel_rfl) ?_
     repeat (go_big_quiet_step ((go_at_call 34; exact HS11.out _)))
     refine wpQuiet_nil ?_
     rintro wz ⟨yz, hwz⟩
     have bz : Below W9.heap.size W9 wz := by rw [hwz]; exact plus_below W9 yz
     have h12 := H9.out.go bz
     have HBz := Lib.hid (And.intro (HBb.out.trans (bz.mono HBb.out.size)) (HBase.out.trans (bz.mono HBase.out.size)))
     clear D5 D3 hcu hwz bz HS11
     have D5 := cells_say (h12.sep.blk 0) _ 0 rfl
     have D3 := cells_say (h12.sep.blk 1) _ 0 rfl
     simp only [cellsSay, List.drop_zero, Nat.reduceAdd, and_true] at D5 D3
     clear h12
     go_wp2_with fail
     go_ret
     exact ⟨by rw [Hr.out]; rfl, HBz.out.1⟩
end
end Go.Proofs.YtmcdollkmlcpbaaGreatDoor
set_option linter.unusedSimpArgs false
set_option linter.unusedVariables false
namespace Go.Proofs.YtmcdollkmlcpbaaGreatDoor
open Go.RowKit
set_option maxRecDepth 100000
def fe (f : FrD) : FrE := ⟨f, none, 0⟩
section
variable {B : Nat} {w0 w w' : World} {r q ep : Nat} {D : BD} {ts us : List Kt}
def FsO (B : Nat) (w0 : World) (r q ep : Nat) (D : BD) (ts : List Kt) (fs : List FrD) (e : Ending) (w' : World) : Prop := ∃ U c, e = .returned (.slice U fs.length c) ∧ Rv B w0 w' r q ep D (thR 39 encFrE 11 (.slice U fs.length c) (fs.map fe) :: ts)
theorem ans_cells (h : Rv B w0 w r q ep D ts) (kd x : Nat) (hx : x < 4294967296) : ∃ e1 e2 e3 s : Nat, ansF D ep kd x = ⟨kd, ep, x, e1, e2, e3, 0, false, s, [], 0⟩ ∧ ∀ W, Below w.heap.size w W → Calls Tryz.prog 19 #[ptB r, .int .u8 (kd : Nat), .int .u32 (x : Nat)] W fun e w' => e = .returned (.agg #[.int .u8 ((kd : Nat) : Int), .int .u32 ((ep : Nat) : Int), .int .u32 ((x : Nat) : Int), .int .u32 ((e1 : Nat) : Int), .int .u32 ((e2 : Nat) : Int), .int .u32 ((e3 : Nat) : Int), .int .u32 0, .bool false, .int .u64 ((s : Nat) : Int), .slice none 0 0, .int .i64 0]) ∧ Below W.heap.size W w' :=
 ⟨_, _, _, _, rfl, fun W b => ans_any (h.go b) kd x hx⟩
set_option maxHeartbeats 16000000 in
theorem welcome_any (h : Rv B w0 w r q ep D ts) : Calls Tryz.prog 25 #[ptB r] w (FsO B w0 r q ep D ts ((ksD D).map (ansF D ep 4))) := by
 have hmx : Tryz.prog.follows .mixedOrders = true := by kernel_rfl
 have HSe := Lib.hid (bk_series h)
 have hk64 : (ksD D).length ≤ 64 := by rw [ksD_len]; have h1 := h.okD.few; have h2 := h.okD.mo2; omega
 have C := cells_say h.blk _ 0 rfl
 simp only [cellsSay, rvC, List.drop_zero, Nat.reduceAdd, and_true] at C
 have H0 := Lib.hid h
 clear h
 go_enter Tryz.func25, Tryz.ntmps25
 go_upto_region 3 with (go_at_call 15; refine HSe.out.mono ?_; rintro e w1 ⟨U1, c1, xs, rfl, h1, h2, h3, b1⟩)
 have hxs := ksD_of h1 h2
 rw [← hxs] at hk64
 obtain ⟨n, hn⟩ : ∃ n, n = xs.length := ⟨_, rfl⟩
 rw [← hn] at h3 hk64 ⊢
 have hxk : ∀ x ∈ xs, x < 4294967296 := fun x hx => by
  obtain ⟨p, hp, rfl⟩ := List.mem_map.1 (h1.subset hx)
  exact H0.out.okD.key p hp
 have hS1 : Rv B w0 w1 r q ep D (thR 34 encU 1 (.slice U1 n c1) xs :: ts) := H0.out.cons (t := thR 34 encU 1 (.slice U1 n c1) xs) b1 (h3.mono (Nat.zero_le _)) (fun k hk => (World.ownsRow.lt h3 k hk).1)
 have HX := Lib.hid (And.intro hxs (And.intro hn (And.intro hS1 hxk)))
 clear h1 h2 h3 b1 hxs hn hxk hS1 HSe H0 C
 go_loopw [3, 5, 12] (fun s3 s5 s12 wr => ∃ (i c : Nat) (U : Option Addr) (T : List FrE), s12 = .int .i64 (i : Nat) ∧ i ≤ n ∧ s3 = .slice U i c ∧ Hid (T.length = i ∧ T = (xs.take i).map (fun x => fe (ansF D ep 4 x)) ∧ Rv B w0 wr r q ep D (thR 39 encFrE 11 (.slice U i c) T :: thR 34 encU 1 (.slice U1 n c1) xs :: ts)))
  (fun _ _ s12 _ => n - (intOf s12).toNat)
 case atStart =>
  refine ⟨0, 0, none, [], by go_num, Nat.zero_le _, rfl, Lib.hid ⟨rfl, rfl, ?_⟩⟩
  exact HX.out.2.2.1.side fun rs hs => hs.addNilR 39 encFrE 11
 case round =>
  obtain ⟨i, c, U, T, rfl, hi, rfl, HI⟩ := hrel
  obtain ⟨wi, hwi⟩ : ∃ wi, wi = wr := ⟨_, rfl⟩
  rw [← hwi] at HI ⊢
  clear hwi
  by_cases hit : i < n
  ·obtain ⟨x, hx⟩ : ∃ x, xs[i]? = some x := ⟨_, List.getElem?_eq_getElem (by rw [← HX.out.2.1]; exact hit)⟩
   obtain ⟨gs, hgs, -, hcs⟩ := row_at Tryz.eltU (HI.out.2.2.sep.at_ (t := thR 34 encU 1 (.slice U1 n c1) xs) 1 rfl) hx
   subst hgs
   have hx32 := HX.out.2.2.2 x (List.mem_of_getElem? hx)
   have C1 : wi.cell? ⟨gs, i, none⟩ = some (.int .u32 (x : Nat)) := by
    have h1 := hcs 0 _ rfl
    rw [Nat.mul_one, Nat.add_zero] at h1
    exact h1
   have hit2 : (i : Int) < (n : Int) := by omega
   obtain ⟨e1, e2, e3, s, hae, han⟩ := ans_cells HI.out.2.2 4 x hx32
   have hA4 : Calls Tryz.prog 19 #[ptB r, .int .u8 4, .int .u32 (x : Nat)] wi _ := han wi (Below.refl _ _)
   have HA := Lib.hid hA4
   have HN := Lib.hid (And.intro hx hae)
   clear hx hcs han hA4 hae
   go_upto_region 6 with (first
    | (go_at_call 19; refine HA.out.mono ?_; rintro e w6 ⟨rfl, b6⟩; obtain ⟨X6, x1, x2, x3, hs6⟩ := HI.out.2.2.go b6)
    | (at_builtin; go_must (refine sep_app1 Tryz.eltFrE rfl (.tmp 16) (.tmp 20) rfl 3 (.slice U i c) T (by simp [Act.eval, Act.put]) (hs6.box #[.int .u8 ((4 : Nat) : Int), .int .u32 ((ep : Nat) : Int), .int .u32 ((x : Nat) : Int), .int .u32 ((e1 : Nat) : Int), .int .u32 ((e2 : Nat) : Int), .int .u32 ((e3 : Nat) : Int), .int .u32 0, .bool false, .int .u64 ((s : Nat) : Int), .slice none 0 0, .int .i64 0] 39) rfl w6.heap.size 1 ⟨⟨4, ep, x, e1, e2, e3, 0, false, s, [], 0⟩, none, 0⟩ 39 #[.int .u8 ((4 : Nat) : Int), .int .u32 ((ep : Nat) : Int), .int .u32 ((x : Nat) : Int), .int .u32 ((e1 : Nat) : Int), .int .u32 ((e2 : Nat) : Int), .int .u32 ((e3 : Nat) : Int), .int .u32 0, .bool false, .int .u64 ((s : Nat) : Int), .slice none 0 0, .int .i64 0] rfl (Blk.new w6 _ _) rfl (by unfold maxLen; rw [HI.out.1]; omega) (by rw [HI.out.1]; omega) ?_); intro g11 c11 w11 hS11; rw [HI.out.1] at hS11 ⊢))
   simp only [List.set_cons_succ, List.set_cons_zero] at hS11
   have h11 : Rv B w0 w11 r q ep D _ := ⟨X6, x1, x2, x3, hS11.tail⟩
   have H11 := Lib.hid h11
   clear hS11 hs6 x1 x2 x3 b6 h11 C1 HA
   go_wp2_with fail
   go_roundw
   case measure => simp [intOf]; omega
   case rel =>
    refine ⟨i + 1, c11, some ⟨g11, 0, none⟩, T ++ [⟨⟨4, ep, x, e1, e2, e3, 0, false, s, [], 0⟩, none, 0⟩], by go_num, by omega, rfl, Lib.hid ⟨by rw [List.length_append, HI.out.1]; rfl, ?_, H11.out⟩⟩
    rw [List.take_add_one, HN.out.1, List.map_append, ← HI.out.2.1, ← HN.out.2]
    rfl
  ·have hit2 : ¬ (i : Int) < (n : Int) := by omega
   have hin : i = n := by omega
   subst hin
   have hT : T = ((ksD D).map (ansF D ep 4)).map fe := by
    rw [HI.out.2.1, HX.out.2.1, List.take_length, HX.out.1, List.map_map]
    rfl
   have hl : ((ksD D).map (ansF D ep 4)).length = i := by rw [List.length_map, ← HX.out.1, ← HX.out.2.1]
   have hF : Rv B w0 wi r q ep D (thR 39 encFrE 11 (.slice U i c) (((ksD D).map (ansF D ep 4)).map fe) :: ts) := by
    rw [← hT]
    exact HI.out.2.2.sub ((List.sublist_cons_self _ _).cons_cons _)
   have HF := Lib.hid (And.intro hl hF)
   clear hT hl hF
   go_wp2_with fail
   go_ret
   exact ⟨U, c, by rw [HF.out.1]; rfl, by rw [HF.out.1]; exact HF.out.2⟩
end
end Go.Proofs.YtmcdollkmlcpbaaGreatDoor
set_option linter.unusedSimpArgs false
set_option linter.unusedVariables false
namespace Go.Proofs.YtmcdollkmlcpbaaGreatDoor
open Go.RowKit
set_option maxRecDepth 100000
theorem rowOneR {w : World} {g : Nat} {e : TypeId} {cs : Array Value} (h : Blk w g e cs) (y : FrE) (hc : cs = (encFrE y).toArray) : OwnR w g e encFrE 11 (.slice (some ⟨g, 0, none⟩) 1 1) [y] := by
 refine ⟨rfl, .inr ⟨g, 1, cs, rfl, Nat.le_refl _, h, Nat.le_refl _, by decide, by rw [hc]; rfl, ?_⟩⟩
 rw [hc]
 rfl
theorem bs_set {w : World} {A : Option Addr} {l : List UInt8} (hA : Bs w A l) {g : Nat} {t : TypeId} {cs : Array Value} (hr : Blk w g t cs) (hn : ∀ (j : Nat) (b : UInt8), cs[j]? ≠ some (bv b)) (i : Nat) (v : Value) : Bs (w.setCell ⟨g, i, none⟩ v) A l := fun k x hk => by
 obtain ⟨p, o, e1, e2⟩ := hA k x hk
 refine ⟨p, o, e1, ?_⟩
 have hp : p ≠ g := by
  rintro rfl
  rw [hr.cell] at e2
  exact hn _ _ e2
 have h3 : (w.setCell ⟨g, i, none⟩ v).heap[p]? = w.heap[p]? := Below.heap_setCell w ⟨g, i, none⟩ v p (fun e => hp (by first | exact e | exact e.symm))
 unfold World.cell? at e2 ⊢
 rw [h3]
 exact e2
section
variable {B : Nat} {w0 w w' : World} {r q ep : Nat} {D : BD} {ts us : List Kt}
def LkO (B : Nat) (w0 : World) (r q : Nat) (D : BD) (ts : List Kt) (L : LkD) (e : Ending) (w' : World) : Prop := ∃ A1 c1 U c, e = .returned (.tuple #[.agg (noC L.nd A1 c1), .bool L.so, .slice U L.fs.length c, .int .u16 (L.er : Nat)]) ∧ Rv B w0 w' r q L.ep D (thR 39 encFrE 11 (.slice U L.fs.length c) (L.fs.map fe) :: thO (.slice A1 L.nd.l.length c1) L.nd.l :: ts)
theorem Rv.nilO (h : Rv B w0 w r q ep D ts) : Rv B w0 w r q ep D (thO (.slice none 0 0) [] :: ts) := h.cons (t := thO (.slice none 0 0) []) (Below.refl _ _) (OwnB.nil _ _) (fun k hk => by cases hk)
theorem Rv.nils (h : Rv B w0 w r q ep D (us ++ ts)) : Rv B w0 w r q ep D (thR 39 encFrE 11 (.slice none 0 0) [] :: thO (.slice none 0 0) [] :: ts) :=
 ((h.sub (List.sublist_append_right us ts)).nilO).side fun rs hs => hs.addNilR 39 encFrE 11
theorem Rv.put_ (h : Rv B w0 w r q ep D ts) (i g : Nat) (l : List (Nat × Value)) (cs' : Array Value) {t : TypeId} {cs : Array Value} (hW : sets w g l = w') (e : ts[i]? = some (thB g t cs) := by rfl) (hc : setsL cs.toList l = cs'.toList := by rfl) : Rv B w0 w' r q ep D (ts.set i (thB g t cs')) := Bk.put_ (ts := thV r q ep :: ts) h (i + 1) g l cs' hW e hc
theorem Rv.epoch (h : Rv B w0 w r q ep D ts) (k : Nat) : Rv B w0 (w.setCell ⟨r, 1, none⟩ (.int .u32 (k : Nat))) r q k D ts := Bk.put_ (ts := thV r q ep :: ts) h 0 r [(1, .int .u32 (k : Nat))] (rvC q k) rfl
theorem rv_nb (q ep : Nat) : ∀ (j : Nat) (b : UInt8), (rvC q ep)[j]? ≠ some (bv b)
 | 0, b, e => by cases e
 | 1, b, e => by cases e
 | j + 2, b, e => by cases e
set_option maxHeartbeats 32000000 in
theorem look_any (h : Rv B w0 w r q ep D ts) (hT : Tab w0) (hB : w0.heap.size ≤ B) (f : FrD) (hf : f.ok) (A : Option Addr) (c : Nat) (hA : Bs w A f.l) (hl : f.l.length ≤ 1000) :
  Calls Tryz.prog 11 #[ptB r, .agg (frC f A c)] w (LkO B w0 r q D ts (lookF D ep f)) := by
 have hmx : Tryz.prog.follows .mixedOrders = true := by kernel_rfl
 obtain ⟨kd, ef, se, fc, fb, fn, cn, cl, sm, l, n⟩ := f
 simp only at hA hl
 obtain ⟨W, hW⟩ : ∃ W, W = (w.alloc (.cells (frC ⟨kd, ef, se, fc, fb, fn, cn, cl, sm, l, n⟩ A c) 39)).alloc (.cells #[.int .u8 0, .int .u32 0, .int .u32 0, .int .i64 0, .int .u64 0, .int .u32 0, .int .u32 0, .int .u32 0, .int .u32 0, .bool false, .slice none 0 0, .int .i64 0] 44) := ⟨_, rfl⟩
 obtain ⟨g3, hg3⟩ : ∃ g, g = w.heap.size := ⟨_, rfl⟩
 obtain ⟨g4, hg4⟩ : ∃ g, g = w.heap.size + 1 := ⟨_, rfl⟩
 have bW : Below w.heap.size w W := by rw [hW]; exact below_alloc2 w _ _
 have hR : Rv B w0 W r q ep D (thB g4 44 #[.int .u8 0, .int .u32 0, .int .u32 0, .int .i64 0, .int .u64 0, .int .u32 0, .int .u32 0, .int .u32 0, .int .u32 0, .bool false, .slice none 0 0, .int .i64 0] :: thB g3 39 (frC ⟨kd, ef, se, fc, fb, fn, cn, cl, sm, l, n⟩ A c) :: ts) := by
  have h1 := (h.box (frC ⟨kd, ef, se, fc, fb, fn, cn, cl, sm, l, n⟩ A c) 39).box #[.int .u8 0, .int .u32 0, .int .u32 0, .int .i64 0, .int .u64 0, .int .u32 0, .int .u32 0, .int .u32 0, .int .u32 0, .bool false, .slice none 0 0, .int .i64 0] 44
  simp only [World.size_alloc] at h1
  rw [hW, hg3, hg4]
  exact h1
 have HRe := Lib.hid (fun (V : World) (k : Nat) (us : List Kt) (h1 : Rv B w0 V r q k D us) (hb : Bs V A l) => react_any h1 (tabGo hT (h1.b.mono hB)) ⟨kd, ef, se, fc, fb, fn, cn, cl, sm, l, n⟩ hf A c hb hl)
 have HNo := Lib.hid (fun (V : World) (hb : Bs V A l) => noteOf_any ⟨kd, ef, se, fc, fb, fn, cn, cl, sm, l, n⟩ A c V hb hl)
 obtain ⟨L, hL⟩ : ∃ L, L = lookF D ep ⟨kd, ef, se, fc, fb, fn, cn, cl, sm, l, n⟩ := ⟨_, rfl⟩
 rw [← hL]
 unfold lookF at hL
 dsimp only at hL
 obtain ⟨re, hre⟩ : ∃ k, k = reactF D ⟨kd, ef, se, fc, fb, fn, cn, cl, sm, l, n⟩ := ⟨_, rfl⟩
 rw [← hre] at HRe hL
 rw [show noF ⟨kd, ef, se, fc, fb, fn, cn, cl, sm, l, n⟩ = ⟨4, 0, se, 0, 0, fc, fb, fn, cn, cl, l, n⟩ from rfl] at hL
 have hse : se < 4294967296 := hf.2.2.1
 simp only [frC, noC, noF] at HRe HNo hW hR ⊢
 have HR := Lib.hid (And.intro hR (hA.below bW))
 have HL := Lib.hid hL
 have D3 := cells_say (hR.sep.blk 1) _ 0 rfl
 have D4 := cells_say (hR.sep.blk 0) _ 0 rfl
 have DR := cells_say hR.blk _ 0 rfl
 simp only [cellsSay, rvC, List.drop_zero, Nat.reduceAdd, and_true] at D3 D4 DR
 clear h hT hf hA hl bW hR hL hre
 go_enter Tryz.func11, Tryz.ntmps11
 go_upto_region 1 with fail
 rw [← hW, ← hg4, ← hg3]
 clear hW hg3 hg4
 by_cases hk : kd ≠ 1 ∧ kd ≠ 2 ∧ kd ≠ 3
 ·have Hr := Lib.hid (show L = ⟨ep, zeroN, false, [], 1⟩ by rw [HL.out, if_pos hk])
  have m1_1 : (((kd : Nat) : Int) == 1) = false := beq_eq_false_iff_ne.2 (by omega)
  have m1_2 : (((kd : Nat) : Int) != 1) = true := by rw [bne, m1_1]; rfl
  have m2_1 : (((kd : Nat) : Int) == 2) = false := beq_eq_false_iff_ne.2 (by omega)
  have m2_2 : (((kd : Nat) : Int) != 2) = true := by rw [bne, m2_1]; rfl
  have m3_1 : (((kd : Nat) : Int) == 3) = false := beq_eq_false_iff_ne.2 (by omega)
  have m3_2 : (((kd : Nat) : Int) != 3) = true := by rw [bne, m3_1]; rfl
  clear hk
  go_wp2_with fail
  generalize hWx : World.setCell _ _ _ = Wx
  have h9 := (HR.out.1).put_ 0 g4 [(0, .int .u8 0), (1, .int .u32 0), (2, .int .u32 0), (3, .int .i64 0), (4, .int .u64 0), (5, .int .u32 0), (6, .int .u32 0), (7, .int .u32 0), (8, .int .u32 0), (9, .bool false), (10, .slice none 0 0), (11, .int .i64 0)] #[.int .u8 0, .int .u32 0, .int .u32 0, .int .i64 0, .int .u64 0, .int .u32 0, .int .u32 0, .int .u32 0, .int .u32 0, .bool false, .slice none 0 0, .int .i64 0] hWx
  simp only [List.set_cons_succ, List.set_cons_zero] at h9
  clear D4
  have D4 := cells_say (h9.sep.blk 0) _ 0 rfl
  simp only [cellsSay, List.drop_zero, Nat.reduceAdd, and_true] at D4
  exact bodyPost_ret (v := .tuple #[.agg #[.int .u8 0, .int .u32 0, .int .u32 0, .int .i64 0, .int .u64 0, .int .u32 0, .int .u32 0, .int .u32 0, .int .u32 0, .bool false, .slice none 0 0, .int .i64 0], .bool false, .slice none 0 0, .int .u16 1]) (by simp [results, Tryz.results11, go_sem, D4]) rfl (by rw [Hr.out]; exact ⟨none, 0, none, 0, rfl, Rv.nils (us := [_, _]) h9⟩)
 have hk3 : kd = 1 ∨ kd = 2 ∨ kd = 3 := by omega
 by_cases h1 : kd = 1
 ·by_cases he : ef < ep
  ·have Hr := Lib.hid (show L = ⟨ep, zeroN, false, [], 170⟩ by rw [HL.out, if_neg hk, if_pos he])
   have he1 : decide (ef < ep) = true := decide_eq_true he
   have he2 : decide (((ef : Nat) : Int) < ((ep : Nat) : Int)) = true := decide_eq_true (by omega)
   have m1_1 : (((kd : Nat) : Int) == 1) = true := beq_iff_eq.2 (by omega)
   have m1_2 : (((kd : Nat) : Int) != 1) = false := by rw [bne, m1_1]; rfl
   have m2_1 : (((kd : Nat) : Int) == 2) = false := beq_eq_false_iff_ne.2 (by omega)
   have m2_2 : (((kd : Nat) : Int) != 2) = true := by rw [bne, m2_1]; rfl
   have m3_1 : (((kd : Nat) : Int) == 3) = false := beq_eq_false_iff_ne.2 (by omega)
   have m3_2 : (((kd : Nat) : Int) != 3) = true := by rw [bne, m3_1]; rfl
   clear hk he hk3 h1
   go_upto_region 3 with fail
   go_quiet (fail)
   generalize hWd : World.drewN _ _ = Wd
   have b7 : Below W.heap.size W Wd := by rw [← hWd]; exact below_drewN (Below.refl _ _) _
   have h7 := HR.out.1.go b7
   have k7 := HR.out.2.below b7
   clear D3 D4 DR hWd
   have D4 := cells_say (h7.sep.blk 0) _ 0 rfl
   simp only [cellsSay, List.drop_zero, Nat.reduceAdd, and_true] at D4
   go_wp2_with fail
   generalize hWx : World.setCell _ _ _ = Wx
   have h9 := (h7).put_ 0 g4 [(0, .int .u8 0), (1, .int .u32 0), (2, .int .u32 0), (3, .int .i64 0), (4, .int .u64 0), (5, .int .u32 0), (6, .int .u32 0), (7, .int .u32 0), (8, .int .u32 0), (9, .bool false), (10, .slice none 0 0), (11, .int .i64 0)] #[.int .u8 0, .int .u32 0, .int .u32 0, .int .i64 0, .int .u64 0, .int .u32 0, .int .u32 0, .int .u32 0, .int .u32 0, .bool false, .slice none 0 0, .int .i64 0] hWx
   simp only [List.set_cons_succ, List.set_cons_zero] at h9
   clear D4
   have D4 := cells_say (h9.sep.blk 0) _ 0 rfl
   simp only [cellsSay, List.drop_zero, Nat.reduceAdd, and_true] at D4
   exact bodyPost_ret (v := .tuple #[.agg #[.int .u8 0, .int .u32 0, .int .u32 0, .int .i64 0, .int .u64 0, .int .u32 0, .int .u32 0, .int .u32 0, .int .u32 0, .bool false, .slice none 0 0, .int .i64 0], .bool false, .slice none 0 0, .int .u16 170]) (by simp [results, Tryz.results11, go_sem, D4]) rfl (by rw [Hr.out]; exact ⟨none, 0, none, 0, rfl, Rv.nils (us := [_, _]) h9⟩)
  have Hr := Lib.hid (show L = ⟨ef, zeroN, false, (ksD D).map (ansF D ef 4), 0⟩ by rw [HL.out, if_neg hk, if_neg he, if_pos h1])
  have he1 : decide (ef < ep) = false := decide_eq_false he
  have he2 : decide (((ef : Nat) : Int) < ((ep : Nat) : Int)) = false := decide_eq_false (by omega)
  have m1_1 : (((kd : Nat) : Int) == 1) = true := beq_iff_eq.2 (by omega)
  have m1_2 : (((kd : Nat) : Int) != 1) = false := by rw [bne, m1_1]; rfl
  have m2_1 : (((kd : Nat) : Int) == 2) = false := beq_eq_false_iff_ne.2 (by omega)
  have m2_2 : (((kd : Nat) : Int) != 2) = true := by rw [bne, m2_1]; rfl
  have m3_1 : (((kd : Nat) : Int) == 3) = false := beq_eq_false_iff_ne.2 (by omega)
  have m3_2 : (((kd : Nat) : Int) != 3) = true := by rw [bne, m3_1]; rfl
  clear hk he h1 hk3
  go_upto_region 3 with fail
  go_quiet (fail)
  generalize hWd : World.drewN _ _ = Wd
  have b7 : Below W.heap.size W Wd := by rw [← hWd]; exact below_drewN (Below.refl _ _) _
  have h7 := HR.out.1.go b7
  have k7 := HR.out.2.below b7
  clear D3 D4 DR hWd
  have D3 := cells_say (h7.sep.blk 1) _ 0 rfl
  have DR := cells_say h7.blk _ 0 rfl
  simp only [cellsSay, rvC, List.drop_zero, Nat.reduceAdd, and_true] at D3 DR
  go_upto_region 6 with fail
  generalize hWe : World.setCell _ _ _ = We
  have h8 := h7.epoch ef
  have k8 := bs_set k7 h7.blk (rv_nb q ep) 1 (.int .u32 (ef : Nat))
  rw [hWe] at h8 k8
  clear D3 DR hWe h7 k7 b7
  have D3 := cells_say (h8.sep.blk 1) _ 0 rfl
  simp only [cellsSay, List.drop_zero, Nat.reduceAdd, and_true] at D3
  have H8 := Lib.hid (And.intro h8 k8)
  clear h8 k8
  have hwl := welcome_any H8.out.1
  have HW := Lib.hid hwl
  clear hwl
  go_wp2_with (go_at_call 25; refine HW.out.mono ?_; rintro e w9 ⟨U9, c9, rfl, h9⟩; have D4 := cells_say (h9.sep.blk 1) _ 0 rfl; simp only [cellsSay, List.drop_zero, Nat.reduceAdd, and_true] at D4)
  generalize hWx : World.setCell _ _ _ = Wx
  have h10 := h9.put_ 1 g4 [(0, .int .u8 0), (1, .int .u32 0), (2, .int .u32 0), (3, .int .i64 0), (4, .int .u64 0), (5, .int .u32 0), (6, .int .u32 0), (7, .int .u32 0), (8, .int .u32 0), (9, .bool false), (10, .slice none 0 0), (11, .int .i64 0)] #[.int .u8 0, .int .u32 0, .int .u32 0, .int .i64 0, .int .u64 0, .int .u32 0, .int .u32 0, .int .u32 0, .int .u32 0, .bool false, .slice none 0 0, .int .i64 0] hWx
  simp only [List.set_cons_succ, List.set_cons_zero] at h10
  clear D4
  have D4 := cells_say (h10.sep.blk 1) _ 0 rfl
  simp only [cellsSay, List.drop_zero, Nat.reduceAdd, and_true] at D4
  exact bodyPost_ret (v := .tuple #[.agg #[.int .u8 0, .int .u32 0, .int .u32 0, .int .i64 0, .int .u64 0, .int .u32 0, .int .u32 0, .int .u32 0, .int .u32 0, .bool false, .slice none 0 0, .int .i64 0], .bool false, .slice U9 ((ksD D).map (ansF D ef 4)).length c9, .int .u16 0]) (by simp [results, Tryz.results11, go_sem, D4]) rfl (by rw [Hr.out]; exact ⟨none, 0, U9, c9, rfl, ((h10.sub (us := _ :: ts) (((List.sublist_cons_self _ _).trans (List.sublist_cons_self _ _)).cons_cons _)).nilO).perm (List.Perm.swap _ _ _)⟩)
 by_cases h2 : kd = 2
 ·by_cases he : ef < ep
  ·have Hr := Lib.hid (show L = ⟨ep, zeroN, false, [], 170⟩ by rw [HL.out, if_neg hk, if_pos he])
   have he1 : decide (ef < ep) = true := decide_eq_true he
   have he2 : decide (((ef : Nat) : Int) < ((ep : Nat) : Int)) = true := decide_eq_true (by omega)
   have m1_1 : (((kd : Nat) : Int) == 1) = false := beq_eq_false_iff_ne.2 (by omega)
   have m1_2 : (((kd : Nat) : Int) != 1) = true := by rw [bne, m1_1]; rfl
   have m2_1 : (((kd : Nat) : Int) == 2) = true := beq_iff_eq.2 (by omega)
   have m2_2 : (((kd : Nat) : Int) != 2) = false := by rw [bne, m2_1]; rfl
   have m3_1 : (((kd : Nat) : Int) == 3) = false := beq_eq_false_iff_ne.2 (by omega)
   have m3_2 : (((kd : Nat) : Int) != 3) = true := by rw [bne, m3_1]; rfl
   clear hk he hk3 h1 h2
   go_upto_region 3 with fail
   go_quiet (fail)
   generalize hWd : World.drewN _ _ = Wd
   have b7 : Below W.heap.size W Wd := by rw [← hWd]; exact below_drewN (Below.refl _ _) _
   have h7 := HR.out.1.go b7
   have k7 := HR.out.2.below b7
   clear D3 D4 DR hWd
   have D4 := cells_say (h7.sep.blk 0) _ 0 rfl
   simp only [cellsSay, List.drop_zero, Nat.reduceAdd, and_true] at D4
   go_wp2_with fail
   generalize hWx : World.setCell _ _ _ = Wx
   have h9 := (h7).put_ 0 g4 [(0, .int .u8 0), (1, .int .u32 0), (2, .int .u32 0), (3, .int .i64 0), (4, .int .u64 0), (5, .int .u32 0), (6, .int .u32 0), (7, .int .u32 0), (8, .int .u32 0), (9, .bool false), (10, .slice none 0 0), (11, .int .i64 0)] #[.int .u8 0, .int .u32 0, .int .u32 0, .int .i64 0, .int .u64 0, .int .u32 0, .int .u32 0, .int .u32 0, .int .u32 0, .bool false, .slice none 0 0, .int .i64 0] hWx
   simp only [List.set_cons_succ, List.set_cons_zero] at h9
   clear D4
   have D4 := cells_say (h9.sep.blk 0) _ 0 rfl
   simp only [cellsSay, List.drop_zero, Nat.reduceAdd, and_true] at D4
   exact bodyPost_ret (v := .tuple #[.agg #[.int .u8 0, .int .u32 0, .int .u32 0, .int .i64 0, .int .u64 0, .int .u32 0, .int .u32 0, .int .u32 0, .int .u32 0, .bool false, .slice none 0 0, .int .i64 0], .bool false, .slice none 0 0, .int .u16 170]) (by simp [results, Tryz.results11, go_sem, D4]) rfl (by rw [Hr.out]; exact ⟨none, 0, none, 0, rfl, Rv.nils (us := [_, _]) h9⟩)
  by_cases hr1 : re = 1
  ·have hr0 := hr1
   subst hr1
   have Hr := Lib.hid (show L = ⟨ef, ⟨4, 0, se, 0, 0, fc, fb, fn, cn, cl, l, n⟩, true, [], 0⟩ by rw [HL.out, if_neg hk, if_neg he, if_neg h1, if_pos rfl])
   have he1 : decide (ef < ep) = false := decide_eq_false he
   have he2 : decide (((ef : Nat) : Int) < ((ep : Nat) : Int)) = false := decide_eq_false (by omega)
   have m1_1 : (((kd : Nat) : Int) == 1) = false := beq_eq_false_iff_ne.2 (by omega)
   have m1_2 : (((kd : Nat) : Int) != 1) = true := by rw [bne, m1_1]; rfl
   have m2_1 : (((kd : Nat) : Int) == 2) = true := beq_iff_eq.2 (by omega)
   have m2_2 : (((kd : Nat) : Int) != 2) = false := by rw [bne, m2_1]; rfl
   have m3_1 : (((kd : Nat) : Int) == 3) = false := beq_eq_false_iff_ne.2 (by omega)
   have m3_2 : (((kd : Nat) : Int) != 3) = true := by rw [bne, m3_1]; rfl
   clear hk he h1 h2 hk3 hr0
   go_upto_region 3 with fail
   go_quiet (fail)
   generalize hWd : World.drewN _ _ = Wd
   have b7 : Below W.heap.size W Wd := by rw [← hWd]; exact below_drewN (Below.refl _ _) _
   have h7 := HR.out.1.go b7
   have k7 := HR.out.2.below b7
   clear D3 D4 DR hWd
   have D3 := cells_say (h7.sep.blk 1) _ 0 rfl
   have DR := cells_say h7.blk _ 0 rfl
   simp only [cellsSay, rvC, List.drop_zero, Nat.reduceAdd, and_true] at D3 DR
   go_upto_region 6 with fail
   generalize hWe : World.setCell _ _ _ = We
   have h8 := h7.epoch ef
   have k8 := bs_set k7 h7.blk (rv_nb q ep) 1 (.int .u32 (ef : Nat))
   rw [hWe] at h8 k8
   clear D3 DR hWe h7 k7 b7
   have D3 := cells_say (h8.sep.blk 1) _ 0 rfl
   simp only [cellsSay, List.drop_zero, Nat.reduceAdd, and_true] at D3
   have H8 := Lib.hid (And.intro h8 k8)
   clear h8 k8
   have HRc := Lib.hid (HRe.out We ef _ H8.out.1 H8.out.2)
   go_upto_region 9 with (go_at_call 26; refine HRc.out.mono ?_; rintro e w9 ⟨rfl, b9⟩)
   have h9 := H8.out.1.go b9
   have k9 := H8.out.2.below b9
   clear D3 HRc
   have D3 := cells_say (h9.sep.blk 1) _ 0 rfl
   have D4 := cells_say (h9.sep.blk 0) _ 0 rfl
   simp only [cellsSay, List.drop_zero, Nat.reduceAdd, and_true] at D3 D4
   have HN := Lib.hid (HNo.out w9 k9)
   have H9 := Lib.hid h9
   clear b9 k9 h9
   go_wp2_with (go_at_call 27; refine HN.out.mono ?_; rintro e w10 ⟨A5, c5, rfl, o10, b10⟩; clear D4; have D4 := cells_say ((H9.out.go b10).sep.blk 0) _ 0 rfl; simp only [cellsSay, List.drop_zero, Nat.reduceAdd, and_true] at D4)
   generalize hWx : World.setCell _ _ _ = Wx
   have h10 := ((H9.out.cons (t := thO (.slice A5 l.length c5) l) b10 (o10.mono (Nat.zero_le _)) (fun k hk => (World.ownsRow.lt o10 k hk).1)).perm (List.Perm.swap _ _ _)).put_ 0 g4 [(0, .int .u8 4), (1, .int .u32 0), (2, .int .u32 ((se : Nat) : Int)), (3, .int .i64 0), (4, .int .u64 0), (5, .int .u32 ((fc : Nat) : Int)), (6, .int .u32 ((fb : Nat) : Int)), (7, .int .u32 ((fn : Nat) : Int)), (8, .int .u32 ((cn : Nat) : Int)), (9, .bool cl), (10, .slice A5 l.length c5), (11, .int .i64 n)] #[.int .u8 4, .int .u32 0, .int .u32 ((se : Nat) : Int), .int .i64 0, .int .u64 0, .int .u32 ((fc : Nat) : Int), .int .u32 ((fb : Nat) : Int), .int .u32 ((fn : Nat) : Int), .int .u32 ((cn : Nat) : Int), .bool cl, .slice A5 l.length c5, .int .i64 n] hWx
   simp only [List.set_cons_succ, List.set_cons_zero] at h10
   clear D4
   have D4 := cells_say (h10.sep.blk 0) _ 0 rfl
   simp only [cellsSay, List.drop_zero, Nat.reduceAdd, and_true] at D4
   exact bodyPost_ret (v := .tuple #[.agg #[.int .u8 4, .int .u32 0, .int .u32 ((se : Nat) : Int), .int .i64 0, .int .u64 0, .int .u32 ((fc : Nat) : Int), .int .u32 ((fb : Nat) : Int), .int .u32 ((fn : Nat) : Int), .int .u32 ((cn : Nat) : Int), .bool cl, .slice A5 l.length c5, .int .i64 n], .bool true, .slice none 0 0, .int .u16 0]) (by simp [results, Tryz.results11, go_sem, D4]) rfl (by rw [Hr.out]; exact ⟨A5, c5, none, 0, rfl, (h10.sub (us := thO (.slice A5 l.length c5) l :: ts) ((((List.sublist_cons_self _ _)).cons_cons _).trans (List.sublist_cons_self _ _))).side fun rs hs => hs.addNilR 39 encFrE 11⟩)
  by_cases hr2 : re = 2
  ·have hr0 := hr2
   subst hr2
   have Hr := Lib.hid (show L = ⟨ef, zeroN, false, [ansF D ef 4 se], 0⟩ by rw [HL.out, if_neg hk, if_neg he, if_neg h1, if_neg hr1, if_pos rfl])
   have he1 : decide (ef < ep) = false := decide_eq_false he
   have he2 : decide (((ef : Nat) : Int) < ((ep : Nat) : Int)) = false := decide_eq_false (by omega)
   have m1_1 : (((kd : Nat) : Int) == 1) = false := beq_eq_false_iff_ne.2 (by omega)
   have m1_2 : (((kd : Nat) : Int) != 1) = true := by rw [bne, m1_1]; rfl
   have m2_1 : (((kd : Nat) : Int) == 2) = true := beq_iff_eq.2 (by omega)
   have m2_2 : (((kd : Nat) : Int) != 2) = false := by rw [bne, m2_1]; rfl
   have m3_1 : (((kd : Nat) : Int) == 3) = false := beq_eq_false_iff_ne.2 (by omega)
   have m3_2 : (((kd : Nat) : Int) != 3) = true := by rw [bne, m3_1]; rfl
   clear hk he h1 h2 hk3 hr0
   go_upto_region 3 with fail
   go_quiet (fail)
   generalize hWd : World.drewN _ _ = Wd
   have b7 : Below W.heap.size W Wd := by rw [← hWd]; exact below_drewN (Below.refl _ _) _
   have h7 := HR.out.1.go b7
   have k7 := HR.out.2.below b7
   clear D3 D4 DR hWd
   have D3 := cells_say (h7.sep.blk 1) _ 0 rfl
   have DR := cells_say h7.blk _ 0 rfl
   simp only [cellsSay, rvC, List.drop_zero, Nat.reduceAdd, and_true] at D3 DR
   go_upto_region 6 with fail
   generalize hWe : World.setCell _ _ _ = We
   have h8 := h7.epoch ef
   have k8 := bs_set k7 h7.blk (rv_nb q ep) 1 (.int .u32 (ef : Nat))
   rw [hWe] at h8 k8
   clear D3 DR hWe h7 k7 b7
   have D3 := cells_say (h8.sep.blk 1) _ 0 rfl
   simp only [cellsSay, List.drop_zero, Nat.reduceAdd, and_true] at D3
   have H8 := Lib.hid (And.intro h8 k8)
   clear h8 k8
   have HRc := Lib.hid (HRe.out We ef _ H8.out.1 H8.out.2)
   go_upto_region 9 with (go_at_call 26; refine HRc.out.mono ?_; rintro e w9 ⟨rfl, b9⟩)
   have h9 := H8.out.1.go b9
   have k9 := H8.out.2.below b9
   clear D3 HRc
   have D3 := cells_say (h9.sep.blk 1) _ 0 rfl
   have D4 := cells_say (h9.sep.blk 0) _ 0 rfl
   simp only [cellsSay, List.drop_zero, Nat.reduceAdd, and_true] at D3 D4
   obtain ⟨e1, e2, e3, s, hae, han⟩ := ans_cells h9 4 se hse
   have hA4 : Calls Tryz.prog 19 #[ptB r, .int .u8 4, .int .u32 (se : Nat)] w9 _ := han w9 (Below.refl _ _)
   have HA := Lib.hid hA4
   have HE := Lib.hid hae
   have H9 := Lib.hid h9
   clear b9 k9 h9 hae han hA4
   go_wp2_with (go_at_call 19; refine HA.out.mono ?_; rintro e w10 ⟨rfl, b10⟩; clear D4; have h10 := (H9.out.go b10).box #[.int .u8 4, .int .u32 ((ef : Nat) : Int), .int .u32 ((se : Nat) : Int), .int .u32 ((e1 : Nat) : Int), .int .u32 ((e2 : Nat) : Int), .int .u32 ((e3 : Nat) : Int), .int .u32 0, .bool false, .int .u64 ((s : Nat) : Int), .slice none 0 0, .int .i64 0] 39; have D4 := cells_say (h10.sep.blk 1) _ 0 rfl; simp only [cellsSay, List.drop_zero, Nat.reduceAdd, and_true] at D4)
   have h11 : Rv B w0 (w10.alloc (.cells #[.int .u8 4, .int .u32 ((ef : Nat) : Int), .int .u32 ((se : Nat) : Int), .int .u32 ((e1 : Nat) : Int), .int .u32 ((e2 : Nat) : Int), .int .u32 ((e3 : Nat) : Int), .int .u32 0, .bool false, .int .u64 ((s : Nat) : Int), .slice none 0 0, .int .i64 0] 39)) r q ef D (thR 39 encFrE 11 (.slice (some ⟨w10.heap.size, 0, none⟩) 1 1) [⟨⟨4, ef, se, e1, e2, e3, 0, false, s, [], 0⟩, none, 0⟩] :: _) := (H9.out.go b10).cons (t := thR 39 encFrE 11 (.slice (some ⟨w10.heap.size, 0, none⟩) 1 1) [⟨⟨4, ef, se, e1, e2, e3, 0, false, s, [], 0⟩, none, 0⟩]) (below_alloc w10 _) ((rowOneR (Blk.new w10 _ _) _ rfl).mono (Nat.zero_le _)) (fun k hk => by injection (show some w10.heap.size = some k from hk) with hk; omega)
   generalize hV : World.alloc _ _ = V at h11 h10 D4 ⊢
   generalize hWx : World.setCell _ _ _ = Wx
   have h12 := h11.put_ 1 g4 [(0, .int .u8 0), (1, .int .u32 0), (2, .int .u32 0), (3, .int .i64 0), (4, .int .u64 0), (5, .int .u32 0), (6, .int .u32 0), (7, .int .u32 0), (8, .int .u32 0), (9, .bool false), (10, .slice none 0 0), (11, .int .i64 0)] #[.int .u8 0, .int .u32 0, .int .u32 0, .int .i64 0, .int .u64 0, .int .u32 0, .int .u32 0, .int .u32 0, .int .u32 0, .bool false, .slice none 0 0, .int .i64 0] hWx
   simp only [List.set_cons_succ, List.set_cons_zero] at h12
   clear D4
   have D4 := cells_say (h12.sep.blk 1) _ 0 rfl
   simp only [cellsSay, List.drop_zero, Nat.reduceAdd, and_true] at D4
   exact bodyPost_ret (v := .tuple #[.agg #[.int .u8 0, .int .u32 0, .int .u32 0, .int .i64 0, .int .u64 0, .int .u32 0, .int .u32 0, .int .u32 0, .int .u32 0, .bool false, .slice none 0 0, .int .i64 0], .bool false, .slice (some ⟨w10.heap.size, 0, none⟩) 1 1, .int .u16 0]) (by simp [results, Tryz.results11, go_sem, D4]) rfl (by rw [Hr.out, HE.out]; exact ⟨none, 0, some ⟨w10.heap.size, 0, none⟩, 1, rfl, ((h12.sub (us := _ :: ts) (((List.sublist_cons_self _ _).trans (List.sublist_cons_self _ _)).cons_cons _)).nilO).perm (List.Perm.swap _ _ _)⟩)
  by_cases hr3 : re = 3
  ·have hr0 := hr3
   subst hr3
   have Hr := Lib.hid (show L = ⟨ef, zeroN, false, [ansF D ef 5 se], 0⟩ by rw [HL.out, if_neg hk, if_neg he, if_neg h1, if_neg hr1, if_neg hr2, if_pos rfl])
   have he1 : decide (ef < ep) = false := decide_eq_false he
   have he2 : decide (((ef : Nat) : Int) < ((ep : Nat) : Int)) = false := decide_eq_false (by omega)
   have m1_1 : (((kd : Nat) : Int) == 1) = false := beq_eq_false_iff_ne.2 (by omega)
   have m1_2 : (((kd : Nat) : Int) != 1) = true := by rw [bne, m1_1]; rfl
   have m2_1 : (((kd : Nat) : Int) == 2) = true := beq_iff_eq.2 (by omega)
   have m2_2 : (((kd : Nat) : Int) != 2) = false := by rw [bne, m2_1]; rfl
   have m3_1 : (((kd : Nat) : Int) == 3) = false := beq_eq_false_iff_ne.2 (by omega)
   have m3_2 : (((kd : Nat) : Int) != 3) = true := by rw [bne, m3_1]; rfl
   clear hk he h1 h2 hk3 hr0
   go_upto_region 3 with fail
   go_quiet (fail)
   generalize hWd : World.drewN _ _ = Wd
   have b7 : Below W.heap.size W Wd := by rw [← hWd]; exact below_drewN (Below.refl _ _) _
   have h7 := HR.out.1.go b7
   have k7 := HR.out.2.below b7
   clear D3 D4 DR hWd
   have D3 := cells_say (h7.sep.blk 1) _ 0 rfl
   have DR := cells_say h7.blk _ 0 rfl
   simp only [cellsSay, rvC, List.drop_zero, Nat.reduceAdd, and_true] at D3 DR
   go_upto_region 6 with fail
   generalize hWe : World.setCell _ _ _ = We
   have h8 := h7.epoch ef
   have k8 := bs_set k7 h7.blk (rv_nb q ep) 1 (.int .u32 (ef : Nat))
   rw [hWe] at h8 k8
   clear D3 DR hWe h7 k7 b7
   have D3 := cells_say (h8.sep.blk 1) _ 0 rfl
   simp only [cellsSay, List.drop_zero, Nat.reduceAdd, and_true] at D3
   have H8 := Lib.hid (And.intro h8 k8)
   clear h8 k8
   have HRc := Lib.hid (HRe.out We ef _ H8.out.1 H8.out.2)
   go_upto_region 9 with (go_at_call 26; refine HRc.out.mono ?_; rintro e w9 ⟨rfl, b9⟩)
   have h9 := H8.out.1.go b9
   have k9 := H8.out.2.below b9
   clear D3 HRc
   have D3 := cells_say (h9.sep.blk 1) _ 0 rfl
   have D4 := cells_say (h9.sep.blk 0) _ 0 rfl
   simp only [cellsSay, List.drop_zero, Nat.reduceAdd, and_true] at D3 D4
   obtain ⟨e1, e2, e3, s, hae, han⟩ := ans_cells h9 5 se hse
   have hA4 : Calls Tryz.prog 19 #[ptB r, .int .u8 5, .int .u32 (se : Nat)] w9 _ := han w9 (Below.refl _ _)
   have HA := Lib.hid hA4
   have HE := Lib.hid hae
   have H9 := Lib.hid h9
   clear b9 k9 h9 hae han hA4
   go_wp2_with (go_at_call 19; refine HA.out.mono ?_; rintro e w10 ⟨rfl, b10⟩; clear D4; have h10 := (H9.out.go b10).box #[.int .u8 5, .int .u32 ((ef : Nat) : Int), .int .u32 ((se : Nat) : Int), .int .u32 ((e1 : Nat) : Int), .int .u32 ((e2 : Nat) : Int), .int .u32 ((e3 : Nat) : Int), .int .u32 0, .bool false, .int .u64 ((s : Nat) : Int), .slice none 0 0, .int .i64 0] 39; have D4 := cells_say (h10.sep.blk 1) _ 0 rfl; simp only [cellsSay, List.drop_zero, Nat.reduceAdd, and_true] at D4)
   have h11 : Rv B w0 (w10.alloc (.cells #[.int .u8 5, .int .u32 ((ef : Nat) : Int), .int .u32 ((se : Nat) : Int), .int .u32 ((e1 : Nat) : Int), .int .u32 ((e2 : Nat) : Int), .int .u32 ((e3 : Nat) : Int), .int .u32 0, .bool false, .int .u64 ((s : Nat) : Int), .slice none 0 0, .int .i64 0] 39)) r q ef D (thR 39 encFrE 11 (.slice (some ⟨w10.heap.size, 0, none⟩) 1 1) [⟨⟨5, ef, se, e1, e2, e3, 0, false, s, [], 0⟩, none, 0⟩] :: _) := (H9.out.go b10).cons (t := thR 39 encFrE 11 (.slice (some ⟨w10.heap.size, 0, none⟩) 1 1) [⟨⟨5, ef, se, e1, e2, e3, 0, false, s, [], 0⟩, none, 0⟩]) (below_alloc w10 _) ((rowOneR (Blk.new w10 _ _) _ rfl).mono (Nat.zero_le _)) (fun k hk => by injection (show some w10.heap.size = some k from hk) with hk; omega)
   generalize hV : World.alloc _ _ = V at h11 h10 D4 ⊢
   generalize hWx : World.setCell _ _ _ = Wx
   have h12 := h11.put_ 1 g4 [(0, .int .u8 0), (1, .int .u32 0), (2, .int .u32 0), (3, .int .i64 0), (4, .int .u64 0), (5, .int .u32 0), (6, .int .u32 0), (7, .int .u32 0), (8, .int .u32 0), (9, .bool false), (10, .slice none 0 0), (11, .int .i64 0)] #[.int .u8 0, .int .u32 0, .int .u32 0, .int .i64 0, .int .u64 0, .int .u32 0, .int .u32 0, .int .u32 0, .int .u32 0, .bool false, .slice none 0 0, .int .i64 0] hWx
   simp only [List.set_cons_succ, List.set_cons_zero] at h12
   clear D4
   have D4 := cells_say (h12.sep.blk 1) _ 0 rfl
   simp only [cellsSay, List.drop_zero, Nat.reduceAdd, and_true] at D4
   exact bodyPost_ret (v := .tuple #[.agg #[.int .u8 0, .int .u32 0, .int .u32 0, .int .i64 0, .int .u64 0, .int .u32 0, .int .u32 0, .int .u32 0, .int .u32 0, .bool false, .slice none 0 0, .int .i64 0], .bool false, .slice (some ⟨w10.heap.size, 0, none⟩) 1 1, .int .u16 0]) (by simp [results, Tryz.results11, go_sem, D4]) rfl (by rw [Hr.out, HE.out]; exact ⟨none, 0, some ⟨w10.heap.size, 0, none⟩, 1, rfl, ((h12.sub (us := _ :: ts) (((List.sublist_cons_self _ _).trans (List.sublist_cons_self _ _)).cons_cons _)).nilO).perm (List.Perm.swap _ _ _)⟩)
  have hr0 := hr3
  have Hr := Lib.hid (show L = ⟨ef, zeroN, false, [], 171⟩ by rw [HL.out, if_neg hk, if_neg he, if_neg h1, if_neg hr1, if_neg hr2, if_neg hr3])
  have he1 : decide (ef < ep) = false := decide_eq_false he
  have he2 : decide (((ef : Nat) : Int) < ((ep : Nat) : Int)) = false := decide_eq_false (by omega)
  have m1_1 : (((kd : Nat) : Int) == 1) = false := beq_eq_false_iff_ne.2 (by omega)
  have m1_2 : (((kd : Nat) : Int) != 1) = true := by rw [bne, m1_1]; rfl
  have m2_1 : (((kd : Nat) : Int) == 2) = true := beq_iff_eq.2 (by omega)
  have m2_2 : (((kd : Nat) : Int) != 2) = false := by rw [bne, m2_1]; rfl
  have m3_1 : (((kd : Nat) : Int) == 3) = false := beq_eq_false_iff_ne.2 (by omega)
  have m3_2 : (((kd : Nat) : Int) != 3) = true := by rw [bne, m3_1]; rfl
  have n1_1 : (((re : Nat) : Int) == 1) = false := beq_eq_false_iff_ne.2 (by omega)
  have n2_1 : (((re : Nat) : Int) == 2) = false := beq_eq_false_iff_ne.2 (by omega)
  have n3_1 : (((re : Nat) : Int) == 3) = false := beq_eq_false_iff_ne.2 (by omega)
  clear hk he h1 h2 hk3 hr0 hr1 hr2 hr3
  go_upto_region 3 with fail
  go_quiet (fail)
  generalize hWd : World.drewN _ _ = Wd
  have b7 : Below W.heap.size W Wd := by rw [← hWd]; exact below_drewN (Below.refl _ _) _
  have h7 := HR.out.1.go b7
  have k7 := HR.out.2.below b7
  clear D3 D4 DR hWd
  have D3 := cells_say (h7.sep.blk 1) _ 0 rfl
  have DR := cells_say h7.blk _ 0 rfl
  simp only [cellsSay, rvC, List.drop_zero, Nat.reduceAdd, and_true] at D3 DR
  go_upto_region 6 with fail
  generalize hWe : World.setCell _ _ _ = We
  have h8 := h7.epoch ef
  have k8 := bs_set k7 h7.blk (rv_nb q ep) 1 (.int .u32 (ef : Nat))
  rw [hWe] at h8 k8
  clear D3 DR hWe h7 k7 b7
  have D3 := cells_say (h8.sep.blk 1) _ 0 rfl
  simp only [cellsSay, List.drop_zero, Nat.reduceAdd, and_true] at D3
  have H8 := Lib.hid (And.intro h8 k8)
  clear h8 k8
  have HRc := Lib.hid (HRe.out We ef _ H8.out.1 H8.out.2)
  go_upto_region 9 with (go_at_call 26; refine HRc.out.mono ?_; rintro e w9 ⟨rfl, b9⟩)
  have h9 := H8.out.1.go b9
  have k9 := H8.out.2.below b9
  clear D3 HRc
  have D3 := cells_say (h9.sep.blk 1) _ 0 rfl
  have D4 := cells_say (h9.sep.blk 0) _ 0 rfl
  simp only [cellsSay, List.drop_zero, Nat.reduceAdd, and_true] at D3 D4
  clear b9 k9
  go_wp2_with fail
  generalize hWx : World.setCell _ _ _ = Wx
  have h10 := h9.put_ 0 g4 [(0, .int .u8 0), (1, .int .u32 0), (2, .int .u32 0), (3, .int .i64 0), (4, .int .u64 0), (5, .int .u32 0), (6, .int .u32 0), (7, .int .u32 0), (8, .int .u32 0), (9, .bool false), (10, .slice none 0 0), (11, .int .i64 0)] #[.int .u8 0, .int .u32 0, .int .u32 0, .int .i64 0, .int .u64 0, .int .u32 0, .int .u32 0, .int .u32 0, .int .u32 0, .bool false, .slice none 0 0, .int .i64 0] hWx
  simp only [List.set_cons_succ, List.set_cons_zero] at h10
  clear D4
  have D4 := cells_say (h10.sep.blk 0) _ 0 rfl
  simp only [cellsSay, List.drop_zero, Nat.reduceAdd, and_true] at D4
  exact bodyPost_ret (v := .tuple #[.agg #[.int .u8 0, .int .u32 0, .int .u32 0, .int .i64 0, .int .u64 0, .int .u32 0, .int .u32 0, .int .u32 0, .int .u32 0, .bool false, .slice none 0 0, .int .i64 0], .bool false, .slice none 0 0, .int .u16 171]) (by simp [results, Tryz.results11, go_sem, D4]) rfl (by rw [Hr.out]; exact ⟨none, 0, none, 0, rfl, Rv.nils (us := [_, _]) h10⟩)
 by_cases he : ef < ep
 ·have Hr := Lib.hid (show L = ⟨ep, zeroN, false, [], 170⟩ by rw [HL.out, if_neg hk, if_pos he])
  have he1 : decide (ef < ep) = true := decide_eq_true he
  have he2 : decide (((ef : Nat) : Int) < ((ep : Nat) : Int)) = true := decide_eq_true (by omega)
  have m1_1 : (((kd : Nat) : Int) == 1) = false := beq_eq_false_iff_ne.2 (by omega)
  have m1_2 : (((kd : Nat) : Int) != 1) = true := by rw [bne, m1_1]; rfl
  have m2_1 : (((kd : Nat) : Int) == 2) = false := beq_eq_false_iff_ne.2 (by omega)
  have m2_2 : (((kd : Nat) : Int) != 2) = true := by rw [bne, m2_1]; rfl
  have m3_1 : (((kd : Nat) : Int) == 3) = true := beq_iff_eq.2 (by omega)
  have m3_2 : (((kd : Nat) : Int) != 3) = false := by rw [bne, m3_1]; rfl
  clear hk he hk3 h1 h2
  go_upto_region 3 with fail
  go_quiet (fail)
  generalize hWd : World.drewN _ _ = Wd
  have b7 : Below W.heap.size W Wd := by rw [← hWd]; exact below_drewN (Below.refl _ _) _
  have h7 := HR.out.1.go b7
  have k7 := HR.out.2.below b7
  clear D3 D4 DR hWd
  have D4 := cells_say (h7.sep.blk 0) _ 0 rfl
  simp only [cellsSay, List.drop_zero, Nat.reduceAdd, and_true] at D4
  go_wp2_with fail
  generalize hWx : World.setCell _ _ _ = Wx
  have h9 := (h7).put_ 0 g4 [(0, .int .u8 0), (1, .int .u32 0), (2, .int .u32 0), (3, .int .i64 0), (4, .int .u64 0), (5, .int .u32 0), (6, .int .u32 0), (7, .int .u32 0), (8, .int .u32 0), (9, .bool false), (10, .slice none 0 0), (11, .int .i64 0)] #[.int .u8 0, .int .u32 0, .int .u32 0, .int .i64 0, .int .u64 0, .int .u32 0, .int .u32 0, .int .u32 0, .int .u32 0, .bool false, .slice none 0 0, .int .i64 0] hWx
  simp only [List.set_cons_succ, List.set_cons_zero] at h9
  clear D4
  have D4 := cells_say (h9.sep.blk 0) _ 0 rfl
  simp only [cellsSay, List.drop_zero, Nat.reduceAdd, and_true] at D4
  exact bodyPost_ret (v := .tuple #[.agg #[.int .u8 0, .int .u32 0, .int .u32 0, .int .i64 0, .int .u64 0, .int .u32 0, .int .u32 0, .int .u32 0, .int .u32 0, .bool false, .slice none 0 0, .int .i64 0], .bool false, .slice none 0 0, .int .u16 170]) (by simp [results, Tryz.results11, go_sem, D4]) rfl (by rw [Hr.out]; exact ⟨none, 0, none, 0, rfl, Rv.nils (us := [_, _]) h9⟩)
 by_cases hr1 : re = 1
 ·have hr0 := hr1
  subst hr1
  have Hr := Lib.hid (show L = ⟨ef, ⟨4, 0, se, 0, 0, fc, fb, fn, cn, cl, l, n⟩, true, [], 0⟩ by rw [HL.out, if_neg hk, if_neg he, if_neg h1, if_pos rfl])
  have he1 : decide (ef < ep) = false := decide_eq_false he
  have he2 : decide (((ef : Nat) : Int) < ((ep : Nat) : Int)) = false := decide_eq_false (by omega)
  have m1_1 : (((kd : Nat) : Int) == 1) = false := beq_eq_false_iff_ne.2 (by omega)
  have m1_2 : (((kd : Nat) : Int) != 1) = true := by rw [bne, m1_1]; rfl
  have m2_1 : (((kd : Nat) : Int) == 2) = false := beq_eq_false_iff_ne.2 (by omega)
  have m2_2 : (((kd : Nat) : Int) != 2) = true := by rw [bne, m2_1]; rfl
  have m3_1 : (((kd : Nat) : Int) == 3) = true := beq_iff_eq.2 (by omega)
  have m3_2 : (((kd : Nat) : Int) != 3) = false := by rw [bne, m3_1]; rfl
  clear hk he h1 h2 hk3 hr0
  go_upto_region 3 with fail
  go_quiet (fail)
  generalize hWd : World.drewN _ _ = Wd
  have b7 : Below W.heap.size W Wd := by rw [← hWd]; exact below_drewN (Below.refl _ _) _
  have h7 := HR.out.1.go b7
  have k7 := HR.out.2.below b7
  clear D3 D4 DR hWd
  have D3 := cells_say (h7.sep.blk 1) _ 0 rfl
  have DR := cells_say h7.blk _ 0 rfl
  simp only [cellsSay, rvC, List.drop_zero, Nat.reduceAdd, and_true] at D3 DR
  go_upto_region 6 with fail
  generalize hWe : World.setCell _ _ _ = We
  have h8 := h7.epoch ef
  have k8 := bs_set k7 h7.blk (rv_nb q ep) 1 (.int .u32 (ef : Nat))
  rw [hWe] at h8 k8
  clear D3 DR hWe h7 k7 b7
  have D3 := cells_say (h8.sep.blk 1) _ 0 rfl
  simp only [cellsSay, List.drop_zero, Nat.reduceAdd, and_true] at D3
  have H8 := Lib.hid (And.intro h8 k8)
  clear h8 k8
  have HRc := Lib.hid (HRe.out We ef _ H8.out.1 H8.out.2)
  go_upto_region 9 with (go_at_call 26; refine HRc.out.mono ?_; rintro e w9 ⟨rfl, b9⟩)
  have h9 := H8.out.1.go b9
  have k9 := H8.out.2.below b9
  clear D3 HRc
  have D3 := cells_say (h9.sep.blk 1) _ 0 rfl
  have D4 := cells_say (h9.sep.blk 0) _ 0 rfl
  simp only [cellsSay, List.drop_zero, Nat.reduceAdd, and_true] at D3 D4
  have HN := Lib.hid (HNo.out w9 k9)
  have H9 := Lib.hid h9
  clear b9 k9 h9
  go_wp2_with (go_at_call 27; refine HN.out.mono ?_; rintro e w10 ⟨A5, c5, rfl, o10, b10⟩; clear D4; have D4 := cells_say ((H9.out.go b10).sep.blk 0) _ 0 rfl; simp only [cellsSay, List.drop_zero, Nat.reduceAdd, and_true] at D4)
  generalize hWx : World.setCell _ _ _ = Wx
  have h10 := ((H9.out.cons (t := thO (.slice A5 l.length c5) l) b10 (o10.mono (Nat.zero_le _)) (fun k hk => (World.ownsRow.lt o10 k hk).1)).perm (List.Perm.swap _ _ _)).put_ 0 g4 [(0, .int .u8 4), (1, .int .u32 0), (2, .int .u32 ((se : Nat) : Int)), (3, .int .i64 0), (4, .int .u64 0), (5, .int .u32 ((fc : Nat) : Int)), (6, .int .u32 ((fb : Nat) : Int)), (7, .int .u32 ((fn : Nat) : Int)), (8, .int .u32 ((cn : Nat) : Int)), (9, .bool cl), (10, .slice A5 l.length c5), (11, .int .i64 n)] #[.int .u8 4, .int .u32 0, .int .u32 ((se : Nat) : Int), .int .i64 0, .int .u64 0, .int .u32 ((fc : Nat) : Int), .int .u32 ((fb : Nat) : Int), .int .u32 ((fn : Nat) : Int), .int .u32 ((cn : Nat) : Int), .bool cl, .slice A5 l.length c5, .int .i64 n] hWx
  simp only [List.set_cons_succ, List.set_cons_zero] at h10
  clear D4
  have D4 := cells_say (h10.sep.blk 0) _ 0 rfl
  simp only [cellsSay, List.drop_zero, Nat.reduceAdd, and_true] at D4
  exact bodyPost_ret (v := .tuple #[.agg #[.int .u8 4, .int .u32 0, .int .u32 ((se : Nat) : Int), .int .i64 0, .int .u64 0, .int .u32 ((fc : Nat) : Int), .int .u32 ((fb : Nat) : Int), .int .u32 ((fn : Nat) : Int), .int .u32 ((cn : Nat) : Int), .bool cl, .slice A5 l.length c5, .int .i64 n], .bool true, .slice none 0 0, .int .u16 0]) (by simp [results, Tryz.results11, go_sem, D4]) rfl (by rw [Hr.out]; exact ⟨A5, c5, none, 0, rfl, (h10.sub (us := thO (.slice A5 l.length c5) l :: ts) ((((List.sublist_cons_self _ _)).cons_cons _).trans (List.sublist_cons_self _ _))).side fun rs hs => hs.addNilR 39 encFrE 11⟩)
 by_cases hr2 : re = 2
 ·have hr0 := hr2
  subst hr2
  have Hr := Lib.hid (show L = ⟨ef, zeroN, false, [ansF D ef 4 se], 0⟩ by rw [HL.out, if_neg hk, if_neg he, if_neg h1, if_neg hr1, if_pos rfl])
  have he1 : decide (ef < ep) = false := decide_eq_false he
  have he2 : decide (((ef : Nat) : Int) < ((ep : Nat) : Int)) = false := decide_eq_false (by omega)
  have m1_1 : (((kd : Nat) : Int) == 1) = false := beq_eq_false_iff_ne.2 (by omega)
  have m1_2 : (((kd : Nat) : Int) != 1) = true := by rw [bne, m1_1]; rfl
  have m2_1 : (((kd : Nat) : Int) == 2) = false := beq_eq_false_iff_ne.2 (by omega)
  have m2_2 : (((kd : Nat) : Int) != 2) = true := by rw [bne, m2_1]; rfl
  have m3_1 : (((kd : Nat) : Int) == 3) = true := beq_iff_eq.2 (by omega)
  have m3_2 : (((kd : Nat) : Int) != 3) = false := by rw [bne, m3_1]; rfl
  clear hk he h1 h2 hk3 hr0
  go_upto_region 3 with fail
  go_quiet (fail)
  generalize hWd : World.drewN _ _ = Wd
  have b7 : Below W.heap.size W Wd := by rw [← hWd]; exact below_drewN (Below.refl _ _) _
  have h7 := HR.out.1.go b7
  have k7 := HR.out.2.below b7
  clear D3 D4 DR hWd
  have D3 := cells_say (h7.sep.blk 1) _ 0 rfl
  have DR := cells_say h7.blk _ 0 rfl
  simp only [cellsSay, rvC, List.drop_zero, Nat.reduceAdd, and_true] at D3 DR
  go_upto_region 6 with fail
  generalize hWe : World.setCell _ _ _ = We
  have h8 := h7.epoch ef
  have k8 := bs_set k7 h7.blk (rv_nb q ep) 1 (.int .u32 (ef : Nat))
  rw [hWe] at h8 k8
  clear D3 DR hWe h7 k7 b7
  have D3 := cells_say (h8.sep.blk 1) _ 0 rfl
  simp only [cellsSay, List.drop_zero, Nat.reduceAdd, and_true] at D3
  have H8 := Lib.hid (And.intro h8 k8)
  clear h8 k8
  have HRc := Lib.hid (HRe.out We ef _ H8.out.1 H8.out.2)
  go_upto_region 9 with (go_at_call 26; refine HRc.out.mono ?_; rintro e w9 ⟨rfl, b9⟩)
  have h9 := H8.out.1.go b9
  have k9 := H8.out.2.below b9
  clear D3 HRc
  have D3 := cells_say (h9.sep.blk 1) _ 0 rfl
  have D4 := cells_say (h9.sep.blk 0) _ 0 rfl
  simp only [cellsSay, List.drop_zero, Nat.reduceAdd, and_true] at D3 D4
  obtain ⟨e1, e2, e3, s, hae, han⟩ := ans_cells h9 4 se hse
  have hA4 : Calls Tryz.prog 19 #[ptB r, .int .u8 4, .int .u32 (se : Nat)] w9 _ := han w9 (Below.refl _ _)
  have HA := Lib.hid hA4
  have HE := Lib.hid hae
  have H9 := Lib.hid h9
  clear b9 k9 h9 hae han hA4
  go_wp2_with (go_at_call 19; refine HA.out.mono ?_; rintro e w10 ⟨rfl, b10⟩; clear D4; have h10 := (H9.out.go b10).box #[.int .u8 4, .int .u32 ((ef : Nat) : Int), .int .u32 ((se : Nat) : Int), .int .u32 ((e1 : Nat) : Int), .int .u32 ((e2 : Nat) : Int), .int .u32 ((e3 : Nat) : Int), .int .u32 0, .bool false, .int .u64 ((s : Nat) : Int), .slice none 0 0, .int .i64 0] 39; have D4 := cells_say (h10.sep.blk 1) _ 0 rfl; simp only [cellsSay, List.drop_zero, Nat.reduceAdd, and_true] at D4)
  have h11 : Rv B w0 (w10.alloc (.cells #[.int .u8 4, .int .u32 ((ef : Nat) : Int), .int .u32 ((se : Nat) : Int), .int .u32 ((e1 : Nat) : Int), .int .u32 ((e2 : Nat) : Int), .int .u32 ((e3 : Nat) : Int), .int .u32 0, .bool false, .int .u64 ((s : Nat) : Int), .slice none 0 0, .int .i64 0] 39)) r q ef D (thR 39 encFrE 11 (.slice (some ⟨w10.heap.size, 0, none⟩) 1 1) [⟨⟨4, ef, se, e1, e2, e3, 0, false, s, [], 0⟩, none, 0⟩] :: _) := (H9.out.go b10).cons (t := thR 39 encFrE 11 (.slice (some ⟨w10.heap.size, 0, none⟩) 1 1) [⟨⟨4, ef, se, e1, e2, e3, 0, false, s, [], 0⟩, none, 0⟩]) (below_alloc w10 _) ((rowOneR (Blk.new w10 _ _) _ rfl).mono (Nat.zero_le _)) (fun k hk => by injection (show some w10.heap.size = some k from hk) with hk; omega)
  generalize hV : World.alloc _ _ = V at h11 h10 D4 ⊢
  generalize hWx : World.setCell _ _ _ = Wx
  have h12 := h11.put_ 1 g4 [(0, .int .u8 0), (1, .int .u32 0), (2, .int .u32 0), (3, .int .i64 0), (4, .int .u64 0), (5, .int .u32 0), (6, .int .u32 0), (7, .int .u32 0), (8, .int .u32 0), (9, .bool false), (10, .slice none 0 0), (11, .int .i64 0)] #[.int .u8 0, .int .u32 0, .int .u32 0, .int .i64 0, .int .u64 0, .int .u32 0, .int .u32 0, .int .u32 0, .int .u32 0, .bool false, .slice none 0 0, .int .i64 0] hWx
  simp only [List.set_cons_succ, List.set_cons_zero] at h12
  clear D4
  have D4 := cells_say (h12.sep.blk 1) _ 0 rfl
  simp only [cellsSay, List.drop_zero, Nat.reduceAdd, and_true] at D4
  exact bodyPost_ret (v := .tuple #[.agg #[.int .u8 0, .int .u32 0, .int .u32 0, .int .i64 0, .int .u64 0, .int .u32 0, .int .u32 0, .int .u32 0, .int .u32 0, .bool false, .slice none 0 0, .int .i64 0], .bool false, .slice (some ⟨w10.heap.size, 0, none⟩) 1 1, .int .u16 0]) (by simp [results, Tryz.results11, go_sem, D4]) rfl (by rw [Hr.out, HE.out]; exact ⟨none, 0, some ⟨w10.heap.size, 0, none⟩, 1, rfl, ((h12.sub (us := _ :: ts) (((List.sublist_cons_self _ _).trans (List.sublist_cons_self _ _)).cons_cons _)).nilO).perm (List.Perm.swap _ _ _)⟩)
 by_cases hr3 : re = 3
 ·have hr0 := hr3
  subst hr3
  have Hr := Lib.hid (show L = ⟨ef, zeroN, false, [ansF D ef 5 se], 0⟩ by rw [HL.out, if_neg hk, if_neg he, if_neg h1, if_neg hr1, if_neg hr2, if_pos rfl])
  have he1 : decide (ef < ep) = false := decide_eq_false he
  have he2 : decide (((ef : Nat) : Int) < ((ep : Nat) : Int)) = false := decide_eq_false (by omega)
  have m1_1 : (((kd : Nat) : Int) == 1) = false := beq_eq_false_iff_ne.2 (by omega)
  have m1_2 : (((kd : Nat) : Int) != 1) = true := by rw [bne, m1_1]; rfl
  have m2_1 : (((kd : Nat) : Int) == 2) = false := beq_eq_false_iff_ne.2 (by omega)
  have m2_2 : (((kd : Nat) : Int) != 2) = true := by rw [bne, m2_1]; rfl
  have m3_1 : (((kd : Nat) : Int) == 3) = true := beq_iff_eq.2 (by omega)
  have m3_2 : (((kd : Nat) : Int) != 3) = false := by rw [bne, m3_1]; rfl
  clear hk he h1 h2 hk3 hr0
  go_upto_region 3 with fail
  go_quiet (fail)
  generalize hWd : World.drewN _ _ = Wd
  have b7 : Below W.heap.size W Wd := by rw [← hWd]; exact below_drewN (Below.refl _ _) _
  have h7 := HR.out.1.go b7
  have k7 := HR.out.2.below b7
  clear D3 D4 DR hWd
  have D3 := cells_say (h7.sep.blk 1) _ 0 rfl
  have DR := cells_say h7.blk _ 0 rfl
  simp only [cellsSay, rvC, List.drop_zero, Nat.reduceAdd, and_true] at D3 DR
  go_upto_region 6 with fail
  generalize hWe : World.setCell _ _ _ = We
  have h8 := h7.epoch ef
  have k8 := bs_set k7 h7.blk (rv_nb q ep) 1 (.int .u32 (ef : Nat))
  rw [hWe] at h8 k8
  clear D3 DR hWe h7 k7 b7
  have D3 := cells_say (h8.sep.blk 1) _ 0 rfl
  simp only [cellsSay, List.drop_zero, Nat.reduceAdd, and_true] at D3
  have H8 := Lib.hid (And.intro h8 k8)
  clear h8 k8
  have HRc := Lib.hid (HRe.out We ef _ H8.out.1 H8.out.2)
  go_upto_region 9 with (go_at_call 26; refine HRc.out.mono ?_; rintro e w9 ⟨rfl, b9⟩)
  have h9 := H8.out.1.go b9
  have k9 := H8.out.2.below b9
  clear D3 HRc
  have D3 := cells_say (h9.sep.blk 1) _ 0 rfl
  have D4 := cells_say (h9.sep.blk 0) _ 0 rfl
  simp only [cellsSay, List.drop_zero, Nat.reduceAdd, and_true] at D3 D4
  obtain ⟨e1, e2, e3, s, hae, han⟩ := ans_cells h9 5 se hse
  have hA4 : Calls Tryz.prog 19 #[ptB r, .int .u8 5, .int .u32 (se : Nat)] w9 _ := han w9 (Below.refl _ _)
  have HA := Lib.hid hA4
  have HE := Lib.hid hae
  have H9 := Lib.hid h9
  clear b9 k9 h9 hae han hA4
  go_wp2_with (go_at_call 19; refine HA.out.mono ?_; rintro e w10 ⟨rfl, b10⟩; clear D4; have h10 := (H9.out.go b10).box #[.int .u8 5, .int .u32 ((ef : Nat) : Int), .int .u32 ((se : Nat) : Int), .int .u32 ((e1 : Nat) : Int), .int .u32 ((e2 : Nat) : Int), .int .u32 ((e3 : Nat) : Int), .int .u32 0, .bool false, .int .u64 ((s : Nat) : Int), .slice none 0 0, .int .i64 0] 39; have D4 := cells_say (h10.sep.blk 1) _ 0 rfl; simp only [cellsSay, List.drop_zero, Nat.reduceAdd, and_true] at D4)
  have h11 : Rv B w0 (w10.alloc (.cells #[.int .u8 5, .int .u32 ((ef : Nat) : Int), .int .u32 ((se : Nat) : Int), .int .u32 ((e1 : Nat) : Int), .int .u32 ((e2 : Nat) : Int), .int .u32 ((e3 : Nat) : Int), .int .u32 0, .bool false, .int .u64 ((s : Nat) : Int), .slice none 0 0, .int .i64 0] 39)) r q ef D (thR 39 encFrE 11 (.slice (some ⟨w10.heap.size, 0, none⟩) 1 1) [⟨⟨5, ef, se, e1, e2, e3, 0, false, s, [], 0⟩, none, 0⟩] :: _) := (H9.out.go b10).cons (t := thR 39 encFrE 11 (.slice (some ⟨w10.heap.size, 0, none⟩) 1 1) [⟨⟨5, ef, se, e1, e2, e3, 0, false, s, [], 0⟩, none, 0⟩]) (below_alloc w10 _) ((rowOneR (Blk.new w10 _ _) _ rfl).mono (Nat.zero_le _)) (fun k hk => by injection (show some w10.heap.size = some k from hk) with hk; omega)
  generalize hV : World.alloc _ _ = V at h11 h10 D4 ⊢
  generalize hWx : World.setCell _ _ _ = Wx
  have h12 := h11.put_ 1 g4 [(0, .int .u8 0), (1, .int .u32 0), (2, .int .u32 0), (3, .int .i64 0), (4, .int .u64 0), (5, .int .u32 0), (6, .int .u32 0), (7, .int .u32 0), (8, .int .u32 0), (9, .bool false), (10, .slice none 0 0), (11, .int .i64 0)] #[.int .u8 0, .int .u32 0, .int .u32 0, .int .i64 0, .int .u64 0, .int .u32 0, .int .u32 0, .int .u32 0, .int .u32 0, .bool false, .slice none 0 0, .int .i64 0] hWx
  simp only [List.set_cons_succ, List.set_cons_zero] at h12
  clear D4
  have D4 := cells_say (h12.sep.blk 1) _ 0 rfl
  simp only [cellsSay, List.drop_zero, Nat.reduceAdd, and_true] at D4
  exact bodyPost_ret (v := .tuple #[.agg #[.int .u8 0, .int .u32 0, .int .u32 0, .int .i64 0, .int .u64 0, .int .u32 0, .int .u32 0, .int .u32 0, .int .u32 0, .bool false, .slice none 0 0, .int .i64 0], .bool false, .slice (some ⟨w10.heap.size, 0, none⟩) 1 1, .int .u16 0]) (by simp [results, Tryz.results11, go_sem, D4]) rfl (by rw [Hr.out, HE.out]; exact ⟨none, 0, some ⟨w10.heap.size, 0, none⟩, 1, rfl, ((h12.sub (us := _ :: ts) (((List.sublist_cons_self _ _).trans (List.sublist_cons_self _ _)).cons_cons _)).nilO).perm (List.Perm.swap _ _ _)⟩)
 have hr0 := hr3
 have Hr := Lib.hid (show L = ⟨ef, zeroN, false, [], 171⟩ by rw [HL.out, if_neg hk, if_neg he, if_neg h1, if_neg hr1, if_neg hr2, if_neg hr3])
 have he1 : decide (ef < ep) = false := decide_eq_false he
 have he2 : decide (((ef : Nat) : Int) < ((ep : Nat) : Int)) = false := decide_eq_false (by omega)
 have m1_1 : (((kd : Nat) : Int) == 1) = false := beq_eq_false_iff_ne.2 (by omega)
 have m1_2 : (((kd : Nat) : Int) != 1) = true := by rw [bne, m1_1]; rfl
 have m2_1 : (((kd : Nat) : Int) == 2) = false := beq_eq_false_iff_ne.2 (by omega)
 have m2_2 : (((kd : Nat) : Int) != 2) = true := by rw [bne, m2_1]; rfl
 have m3_1 : (((kd : Nat) : Int) == 3) = true := beq_iff_eq.2 (by omega)
 have m3_2 : (((kd : Nat) : Int) != 3) = false := by rw [bne, m3_1]; rfl
 have n1_1 : (((re : Nat) : Int) == 1) = false := beq_eq_false_iff_ne.2 (by omega)
 have n2_1 : (((re : Nat) : Int) == 2) = false := beq_eq_false_iff_ne.2 (by omega)
 have n3_1 : (((re : Nat) : Int) == 3) = false := beq_eq_false_iff_ne.2 (by omega)
 clear hk he h1 h2 hk3 hr0 hr1 hr2 hr3
 go_upto_region 3 with fail
 go_quiet (fail)
 generalize hWd : World.drewN _ _ = Wd
 have b7 : Below W.heap.size W Wd := by rw [← hWd]; exact below_drewN (Below.refl _ _) _
 have h7 := HR.out.1.go b7
 have k7 := HR.out.2.below b7
 clear D3 D4 DR hWd
 have D3 := cells_say (h7.sep.blk 1) _ 0 rfl
 have DR := cells_say h7.blk _ 0 rfl
 simp only [cellsSay, rvC, List.drop_zero, Nat.reduceAdd, and_true] at D3 DR
 go_upto_region 6 with fail
 generalize hWe : World.setCell _ _ _ = We
 have h8 := h7.epoch ef
 have k8 := bs_set k7 h7.blk (rv_nb q ep) 1 (.int .u32 (ef : Nat))
 rw [hWe] at h8 k8
 clear D3 DR hWe h7 k7 b7
 have D3 := cells_say (h8.sep.blk 1) _ 0 rfl
 simp only [cellsSay, List.drop_zero, Nat.reduceAdd, and_true] at D3
 have H8 := Lib.hid (And.intro h8 k8)
 clear h8 k8
 have HRc := Lib.hid (HRe.out We ef _ H8.out.1 H8.out.2)
 go_upto_region 9 with (go_at_call 26; refine HRc.out.mono ?_; rintro e w9 ⟨rfl, b9⟩)
 have h9 := H8.out.1.go b9
 have k9 := H8.out.2.below b9
 clear D3 HRc
 have D3 := cells_say (h9.sep.blk 1) _ 0 rfl
 have D4 := cells_say (h9.sep.blk 0) _ 0 rfl
 simp only [cellsSay, List.drop_zero, Nat.reduceAdd, and_true] at D3 D4
 clear b9 k9
 go_wp2_with fail
 generalize hWx : World.setCell _ _ _ = Wx
 have h10 := h9.put_ 0 g4 [(0, .int .u8 0), (1, .int .u32 0), (2, .int .u32 0), (3, .int .i64 0), (4, .int .u64 0), (5, .int .u32 0), (6, .int .u32 0), (7, .int .u32 0), (8, .int .u32 0), (9, .bool false), (10, .slice none 0 0), (11, .int .i64 0)] #[.int .u8 0, .int .u32 0, .int .u32 0, .int .i64 0, .int .u64 0, .int .u32 0, .int .u32 0, .int .u32 0, .int .u32 0, .bool false, .slice none 0 0, .int .i64 0] hWx
 simp only [List.set_cons_succ, List.set_cons_zero] at h10
 clear D4
 have D4 := cells_say (h10.sep.blk 0) _ 0 rfl
 simp only [cellsSay, List.drop_zero, Nat.reduceAdd, and_true] at D4
 exact bodyPost_ret (v := .tuple #[.agg #[.int .u8 0, .int .u32 0, .int .u32 0, .int .i64 0, .int .u64 0, .int .u32 0, .int .u32 0, .int .u32 0, .int .u32 0, .bool false, .slice none 0 0, .int .i64 0], .bool false, .slice none 0 0, .int .u16 171]) (by simp [results, Tryz.results11, go_sem, D4]) rfl (by rw [Hr.out]; exact ⟨none, 0, none, 0, rfl, Rv.nils (us := [_, _]) h10⟩)
end
end Go.Proofs.YtmcdollkmlcpbaaGreatDoor
set_option linter.unusedSimpArgs false
set_option linter.unusedVariables false
namespace Go.Proofs.YtmcdollkmlcpbaaGreatDoor
open Go.RowKit
set_option maxRecDepth 100000
section
variable {B : Nat} {w0 w w' : World} {r q ep : Nat} {D : BD} {ts us : List Kt}
def doF (D : BD) (ep : Nat) (d : NoD) : BD × List FrD × Nat := if d.kd ≠ 4 then (D, [], 1) else if (fitD D (frN d)).1 = 0 then (takeD D (frN d), [ansF (takeD D (frN d)) ep 4 d.se], 0) else (D, [], (fitD D (frN d)).1)
def DoO (B : Nat) (w0 : World) (r q ep : Nat) (ts : List Kt) (R : BD × List FrD × Nat) (e : Ending) (w' : World) : Prop := ∃ U c, e = .returned (.tuple #[.slice U R.2.1.length c, .int .u16 (R.2.2 : Nat)]) ∧ Rv B w0 w' r q ep R.1 (thR 39 encFrE 11 (.slice U R.2.1.length c) (R.2.1.map fe) :: ts)
theorem Rv.nilF (h : Rv B w0 w r q ep D ts) : Rv B w0 w r q ep D (thR 39 encFrE 11 (.slice none 0 0) [] :: ts) := h.side fun rs hs => hs.addNilR 39 encFrE 11
set_option maxHeartbeats 16000000 in
theorem do_any (h : Rv B w0 w r q ep D ts) (hT : Tab w0) (hB : w0.heap.size ≤ B) (d : NoD) (hd : d.ok) (A : Option Addr) (c : Nat) (hA : Bs w A d.l) (hl : d.l.length ≤ 1000) (hn : (D.at_ d.se).flatten.length + 24 ≤ 1000) :
  Calls Tryz.prog 18 #[ptB r, .agg (noC d A c)] w (DoO B w0 r q ep ts (doF D ep d)) := by
 have hmx : Tryz.prog.follows .mixedOrders = true := by kernel_rfl
 obtain ⟨kd, ed, se, st, sv, pc, pb, pn, cn, cl, l, n⟩ := d
 simp only at hA hl hn
 obtain ⟨W, hW⟩ : ∃ W, W = w.alloc (.cells (noC ⟨kd, ed, se, st, sv, pc, pb, pn, cn, cl, l, n⟩ A c) 44) := ⟨_, rfl⟩
 obtain ⟨g3, hg3⟩ : ∃ g, g = w.heap.size := ⟨_, rfl⟩
 have bW : Below w.heap.size w W := by rw [hW]; exact below_alloc w _
 have hR : Rv B w0 W r q ep D (thB g3 44 (noC ⟨kd, ed, se, st, sv, pc, pb, pn, cn, cl, l, n⟩ A c) :: ts) := by
  rw [hW, hg3]
  exact h.box _ _
 have hse : se < 4294967296 := hd.2.2.1
 have hfo : (⟨0, 0, se, pc, pb, pn, cn, cl, 0, l, n⟩ : FrD).ok := ⟨(by decide : (0 : Nat) < 256), (by decide : (0 : Nat) < 4294967296), hd.2.2.1, hd.2.2.2.2.2.1, hd.2.2.2.2.2.2.1, hd.2.2.2.2.2.2.2.1, hd.2.2.2.2.2.2.2.2.1, (by decide : (0 : Nat) < 18446744073709551616), hd.2.2.2.2.2.2.2.2.2.1, hd.2.2.2.2.2.2.2.2.2.2⟩
 obtain ⟨R, hR0⟩ : ∃ R, R = doF D ep ⟨kd, ed, se, st, sv, pc, pb, pn, cn, cl, l, n⟩ := ⟨_, rfl⟩
 rw [← hR0]
 unfold doF at hR0
 rw [show frN ⟨kd, ed, se, st, sv, pc, pb, pn, cn, cl, l, n⟩ = ⟨0, 0, se, pc, pb, pn, cn, cl, 0, l, n⟩ from rfl] at hR0
 dsimp only at hR0
 obtain ⟨D2, hD2⟩ : ∃ D2, D2 = takeD D ⟨0, 0, se, pc, pb, pn, cn, cl, 0, l, n⟩ := ⟨_, rfl⟩
 obtain ⟨er, her⟩ : ∃ k, k = (fitD D ⟨0, 0, se, pc, pb, pn, cn, cl, 0, l, n⟩).1 := ⟨_, rfl⟩
 have hTk : ∀ (V : World) (us : List Kt), Rv B w0 V r q ep D us → Bs V A l → Calls Tryz.prog 33 #[ptB q, .agg #[.int .u8 0, .int .u32 0, .int .u32 ((se : Nat) : Int), .int .u32 ((pc : Nat) : Int), .int .u32 ((pb : Nat) : Int), .int .u32 ((pn : Nat) : Int), .int .u32 ((cn : Nat) : Int), .bool cl, .int .u64 0, .slice A l.length c, .int .i64 n]] V fun e w' => e = .returned (.int .u16 (er : Nat)) ∧ Rv B w0 w' r q ep D2 us := fun V us h1 hb => by
  rw [her, hD2]
  exact bk_take (ts := thV r q ep :: us) h1 (tabGo hT (h1.b.mono hB)) ⟨0, 0, se, pc, pb, pn, cn, cl, 0, l, n⟩ hfo A c hb hl hn
 rw [← hD2, ← her] at hR0
 have hnof : er ≠ 0 → D2 = D := fun e => by rw [hD2]; unfold takeD; rw [if_neg (by rw [← her]; exact e)]
 have HTk := Lib.hid hTk
 have HR := Lib.hid (And.intro hR (hA.below bW))
 have H0 := Lib.hid (And.intro hR0 hnof)
 simp only [noC] at hW hR HR ⊢
 have D3 := cells_say (hR.sep.blk 0) _ 0 rfl
 simp only [cellsSay, List.drop_zero, Nat.reduceAdd, and_true] at D3
 clear h hT hB hd hA hl hn bW hR hfo hR0 hD2 her hTk hnof
 go_enter Tryz.func18, Tryz.ntmps18
 go_upto_region 1 with fail
 rw [← hW, ← hg3]
 clear hW hg3
 by_cases hk : kd = 4
 case neg =>
  have m1 : (((kd : Nat) : Int) == 4) = false := beq_eq_false_iff_ne.2 (by omega)
  have m2 : (((kd : Nat) : Int) != 4) = true := by rw [bne, m1]; rfl
  have Hr := Lib.hid (show R = (D, [], 1) by rw [H0.out.1, if_pos hk])
  clear hk
  go_wp2_with fail
  go_ret2
  rw [Hr.out]
  exact ⟨none, 0, rfl, (HR.out.1.tail).nilF⟩
 have m1 : (((kd : Nat) : Int) == 4) = true := beq_iff_eq.2 (by omega)
 have m2 : (((kd : Nat) : Int) != 4) = false := by rw [bne, m1]; rfl
 have Hk := Lib.hid (show ¬ kd ≠ 4 from fun e => e hk)
 clear hk
 go_upto_region 3 with fail
 clear D3 m1 m2
 obtain ⟨us, hus⟩ : ∃ us, us = thB g3 44 #[.int .u8 ((kd : Nat) : Int), .int .u32 ((ed : Nat) : Int), .int .u32 ((se : Nat) : Int), .int .i64 st, .int .u64 ((sv : Nat) : Int), .int .u32 ((pc : Nat) : Int), .int .u32 ((pb : Nat) : Int), .int .u32 ((pn : Nat) : Int), .int .u32 ((cn : Nat) : Int), .bool cl, .slice A l.length c, .int .i64 n] :: ts := ⟨_, rfl⟩
 obtain ⟨I, hI⟩ : ∃ I : Rec → World → Prop, ∀ E V, I E V ↔ ((E 15 = none ∧ Rv B w0 V r q ep D us ∧ Bs V A l) ∨ (E 15 ≠ none ∧ Rv B w0 V r q ep D2 us)) := ⟨_, fun _ _ => Iff.rfl⟩
 have hI0 : I (fun _ => none) W.drew := (hI _ _).2 (.inl ⟨rfl, by rw [hus]; exact HR.out.1.go (Below.refl _ _).drew, HR.out.2.below (Below.refl _ _).drew⟩)
 haveI : Nonempty (InvW I) := ⟨⟨_, _, hI0⟩⟩
 have hIs : ∀ y : InvW I, ∃ D3, Rv B w0 y.W r q ep D3 us := fun y => by
  rcases (hI _ _).1 y.h with ⟨-, h, -⟩ | ⟨-, h⟩
  ·exact ⟨_, h⟩
  ·exact ⟨_, h⟩
 have e1 : ∀ y : InvW I, y.W.cell? ⟨r, 0, none⟩ = some (.pointer (some ⟨q, 0, none⟩)) := fun y => by
  obtain ⟨D3, h⟩ := hIs y
  exact h.blk.cell 0
 have e2 := fun y : InvW I => cells_say (show Blk y.W g3 44 #[.int .u8 ((kd : Nat) : Int), .int .u32 ((ed : Nat) : Int), .int .u32 ((se : Nat) : Int), .int .i64 st, .int .u64 ((sv : Nat) : Int), .int .u32 ((pc : Nat) : Int), .int .u32 ((pb : Nat) : Int), .int .u32 ((pn : Nat) : Int), .int .u32 ((cn : Nat) : Int), .bool cl, .slice A l.length c, .int .i64 n] by obtain ⟨D3, h⟩ := hIs y; rw [hus] at h; exact h.sep.blk 0) _ 0 rfl
 simp only [cellsSay, List.drop_zero, Nat.reduceAdd, and_true] at e2
 have HI := Lib.hid hI
 have HU := Lib.hid hus
 clear hI hIs hus
 refine wp_region_inv I [[], [], [], [], [], [], [], [], [], [], [], [], [], [], [], [], []] [1, 15] (fun k v => if k = 1 then v = ptB r else v = .int .u16 (er : Nat)) hmx (by kernel_rfl) hI0 ?_
 iterate 1 (refine walkJ_one rfl (by kernel_rfl) ?_; go_big_quiet_step (fail); refine wpQuiet_nil ?_)
 refine walkJ_turn rfl rfl ⟨_, rfl⟩ (fun s W1 hs h7 _ => ?_) ?_
 ·exact inv_val (W' := W1) (v := ptB r) (by simp [execOp, go_sem]) ⟨rfl, (HI.out _ _).2 (by rw [recSet_ne (by decide)]; exact (HI.out _ _).1 hs)⟩
 rintro v rfl
 conv => arg 11; simp [Act.put]
 iterate 13 (refine walkJ_one rfl (by kernel_rfl) ?_; go_big_quiet_step (fail); refine wpQuiet_nil ?_)
 refine walkJ_turn rfl rfl ⟨_, rfl⟩ (fun s W1 hs h7 _ => ?_) ?_
 ·rcases (HI.out _ _).1 hs with ⟨-, h, hb⟩ | ⟨h, -⟩
  ·refine inv_call (by simp [execOp, go_sem]) ((HTk.out _ _ h hb).mono ?_)
   rintro e w7 ⟨rfl, h7'⟩
   exact ⟨_, rfl, rfl, (HI.out _ _).2 (.inr ⟨(by rw [recSet_same]; intro e; cases e), h7'⟩)⟩
  ·exact absurd h7 h
 rintro v rfl
 conv => arg 11; simp [Act.put]
 iterate 1 (refine walkJ_one rfl (by kernel_rfl) ?_; go_big_quiet_step (fail); refine wpQuiet_nil ?_)
 refine walkJ_end ?_
 intro W9 hW9
 have h9 : Rv B w0 W9 r q ep D2 (thB g3 44 #[.int .u8 ((kd : Nat) : Int), .int .u32 ((ed : Nat) : Int), .int .u32 ((se : Nat) : Int), .int .i64 st, .int .u64 ((sv : Nat) : Int), .int .u32 ((pc : Nat) : Int), .int .u32 ((pb : Nat) : Int), .int .u32 ((pn : Nat) : Int), .int .u32 ((cn : Nat) : Int), .bool cl, .slice A l.length c, .int .i64 n] :: ts) := by
  rw [← HU.out]
  rcases (HI.out _ _).1 hW9 with ⟨h, -⟩ | ⟨-, h⟩
  ·rw [recSet_same] at h; cases h
  ·exact h
 have D3 := cells_say (h9.sep.blk 0) _ 0 rfl
 simp only [cellsSay, List.drop_zero, Nat.reduceAdd, and_true] at D3
 have H9 := Lib.hid h9
 clear e1 e2 hI0 HI hW9 h9 HTk HR HU
 by_cases h0 : er = 0
 case neg =>
  have m1 : (((er : Nat) : Int) == 0) = false := beq_eq_false_iff_ne.2 (by omega)
  have m2 : (((er : Nat) : Int) != 0) = true := by rw [bne, m1]; rfl
  have Hr := Lib.hid (show R = (D, [], er) by rw [H0.out.1, if_neg Hk.out, if_neg h0])
  have hDD := H0.out.2 h0
  have H10 := Lib.hid (hDD ▸ H9.out)
  clear h0 hDD
  go_wp2_with fail
  go_ret2
  rw [Hr.out]
  exact ⟨none, 0, rfl, (H10.out.tail).nilF⟩
 obtain ⟨e1, e2, e3, s, hae, han⟩ := ans_cells H9.out 4 se hse
 have hA4 : Calls Tryz.prog 19 #[ptB r, .int .u8 4, .int .u32 (se : Nat)] W9 _ := han W9 (Below.refl _ _)
 have Hr := Lib.hid (show R = (D2, [ansF D2 ep 4 se], 0) by rw [H0.out.1, if_neg Hk.out, if_pos h0])
 have HA := Lib.hid hA4
 have HE := Lib.hid hae
 subst h0
 clear hae han hA4
 go_wp2_with (go_at_call 19; refine HA.out.mono ?_; rintro e w10 ⟨rfl, b10⟩)
 have h11 : Rv B w0 (w10.alloc (.cells #[.int .u8 4, .int .u32 ((ep : Nat) : Int), .int .u32 ((se : Nat) : Int), .int .u32 ((e1 : Nat) : Int), .int .u32 ((e2 : Nat) : Int), .int .u32 ((e3 : Nat) : Int), .int .u32 0, .bool false, .int .u64 ((s : Nat) : Int), .slice none 0 0, .int .i64 0] 39)) r q ep D2 (thR 39 encFrE 11 (.slice (some ⟨w10.heap.size, 0, none⟩) 1 1) [⟨⟨4, ep, se, e1, e2, e3, 0, false, s, [], 0⟩, none, 0⟩] :: _) := (H9.out.go b10).cons (t := thR 39 encFrE 11 (.slice (some ⟨w10.heap.size, 0, none⟩) 1 1) [⟨⟨4, ep, se, e1, e2, e3, 0, false, s, [], 0⟩, none, 0⟩]) (below_alloc w10 _) ((rowOneR (Blk.new w10 _ _) _ rfl).mono (Nat.zero_le _)) (fun k hk => by injection (show some w10.heap.size = some k from hk) with hk; omega)
 go_ret2
 rw [Hr.out, HE.out]
 exact ⟨some ⟨w10.heap.size, 0, none⟩, 1, rfl, h11.sub ((List.sublist_cons_self _ _).cons_cons _)⟩
end
end Go.Proofs.YtmcdollkmlcpbaaGreatDoor
