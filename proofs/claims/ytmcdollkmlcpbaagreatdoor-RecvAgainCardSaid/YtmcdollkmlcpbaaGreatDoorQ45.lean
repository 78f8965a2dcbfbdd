/- Joined: Bk34. -/
import Derived.Test.YtmcdollkmlcpbaaGreatDoorQ17
import Derived.Test.YtmcdollkmlcpbaaGreatDoorQ34
import Derived.Test.YtmcdollkmlcpbaaGreatDoorQ39
import Derived.RangeFuncKeeps
import Derived.RangeFuncGives
import Derived.RangeFuncLeaves
import Derived.Sort.MapsRangeIn
import Derived.Maps.Range
import Derived.WalkKit
import Derived.OwnWalkIn
import Derived.TacticsInMore
import Derived.RegionIn
import Derived.LoopNIn
import Derived.LoopIn
set_option linter.unusedSimpArgs false
set_option linter.unusedVariables false
set_option linter.unusedSimpArgs false
set_option linter.unusedVariables false
namespace Go.Proofs.YtmcdollkmlcpbaaGreatDoor
open Go.RowKit Go.Maps Go.MapKept
set_option maxRecDepth 100000
section
variable {α : Type} {vE : α → Value} {w w' : World} {b r : Nat} {M : List (Nat × α)} {lf : Nat → Bool}
theorem Ru.left (h : Ru vE w b r M lf) : w.rangeLeft b r = (M.filter fun p => lf p.1).length := by
 obtain ⟨es, clock, since, seen, c0, hb, hS, hM, hk, hr, hold, hsc, hsk, hlf⟩ := h
 simp only [World.rangeLeft, hb, hr]
 have hq : ∀ e ∈ es.toList, ∃ p ∈ M, e.key = kuV p.1 := fun e he => by
  obtain ⟨j, hj⟩ := List.getElem?_of_mem he
  obtain ⟨p, hp, h1, -⟩ := kv_at hM hj
  exact ⟨p, List.mem_of_getElem? hp, h1⟩
 obtain ⟨kn, hkn⟩ : ∃ kn : Value × Value → Nat, ∀ x : Nat, ∀ v, kn (kuV x, v) = x := ⟨fun p => match p.1 with
  | .int _ i => i.toNat
  | _ => 0, fun x v => rfl⟩
 have h1 : (leftOf es seen).size = es.toList.countP fun e => !seen.contains e.born := by
  unfold leftOf
  rw [List.countP_eq_length_filter, ← Array.length_toList, Array.toList_filter]
 have h2 : (es.toList.countP fun e => !seen.contains e.born) = (es.toList.map kv).countP fun q => lf (kn q) := by
  rw [List.countP_map]
  refine List.countP_congr fun e he => ?_
  obtain ⟨p, hp, e1⟩ := hq e he
  have e2 := hlf e he p.1 e1
  show _ ↔ lf (kn (e.key, e.val)) = true
  rw [e1, hkn, e2]
 rw [h1, h2, hM, List.countP_map, List.countP_eq_length_filter]
 refine congrArg List.length (List.filter_congr fun p _ => ?_)
 show lf (kn (kuV p.1, _)) = _
 rw [hkn]
theorem left_less {k : Nat} {c : α} (h : (k, c) ∈ M) (hl : lf k = true) : (M.filter fun p => lf p.1 && !(p.1 == k)).length < (M.filter fun p => lf p.1).length := by
 have e : (M.filter fun p => lf p.1 && !(p.1 == k)) = (M.filter fun p => lf p.1).filter fun p => !(p.1 == k) := by
  rw [List.filter_filter]
  exact List.filter_congr fun p _ => Bool.and_comm _ _
 rw [e]
 refine List.length_filter_lt_length_iff_exists.2 ⟨(k, c), List.mem_filter.2 ⟨h, hl⟩, by simp⟩
theorem Ru.walks (h : Ru vE w b r M lf) (k : KeepsWalks w w') : Ru vE w' b r M lf := by
 obtain ⟨es, clock, since, seen, c0, hb, hS, hM, hk, hr, rest⟩ := h
 exact ⟨es, clock, since, seen, c0, k.same b _ hb rfl, hS, hM, hk, k.same r _ hr rfl, rest⟩
def Came (M : List (Nat × α)) (lf : Nat → Bool) (xs : List Nat) : Prop := xs.Nodup ∧ ∀ k, k ∈ xs ↔ ((∃ c, (k, c) ∈ M) ∧ lf k = false)
theorem Came.start : Came M (fun _ => true) [] := ⟨.nil, fun k => by simp⟩
theorem Came.step {xs : List Nat} (h : Came M lf xs) {k : Nat} {c : α} (hm : (k, c) ∈ M) (hl : lf k = true) : Came M (fun j => lf j && !(j == k)) (xs ++ [k]) := by
 have hn : k ∉ xs := fun e => by rw [((h.2 k).1 e).2] at hl; cases hl
 refine ⟨List.nodup_append.2 ⟨h.1, by simp, fun a ha c hc e => by rw [List.mem_singleton.1 hc] at e; rw [e] at ha; exact hn ha⟩, fun j => ?_⟩
 rw [List.mem_append, List.mem_singleton, h.2]
 by_cases e : j = k
 ·subst e
  simp only [or_true, true_iff, beq_self_eq_true, Bool.not_true, Bool.and_false, and_true]
  exact ⟨c, hm⟩
 ·have : (j == k) = false := beq_eq_false_iff_ne.2 e
  simp [e, this]
theorem Came.all {xs : List Nat} (h : Came M lf xs) (hl : ∀ p ∈ M, lf p.1 = false) (hn : (M.map Prod.fst).Nodup) : xs.Perm (M.map Prod.fst) := by
 refine (List.perm_ext_iff_of_nodup h.1 hn).2 fun k => ?_
 rw [h.2, List.mem_map]
 constructor
 ·rintro ⟨⟨c, hc⟩, -⟩
  exact ⟨(k, c), hc, rfl⟩
 ·rintro ⟨p, hp, rfl⟩
  exact ⟨⟨p.2, hp⟩, hl p hp⟩
variable {F : Fence} {n : Nat} {ops : Array Oper} {rest : List Oper} {o : Oper} {a : Act} {Q : Exit → Act → World → Prop} {mt et : TypeId}
theorem step_rangeUIn (hg : o.guard = none) (m : Operand) (hop : o.op = Op.range mt m) (ht : Tryz.prog.underlying mt = some (.map KU et)) (hm : a.eval m = .map (some b)) (h : Mu vE w b M)
  (hK : ∀ w', Ru vE w' b w.heap.size M (fun _ => true) → w.grownBy w' none → w'.heap.size = w.heap.size + 1 → wpListIn F n Tryz.prog ops Q rest (a.put o.dst (.pointer (some ⟨w.heap.size, 0, none⟩))) w') : wpListIn F n Tryz.prog ops Q (o :: rest) a w := by
 refine wpListIn_plain hg fun K' hK' => ?_
 obtain ⟨w', hrun, r1, r2, r3⟩ := h.range ht
 unfold Oper.wpIn
 refine ⟨by simp [Oper.about, hop], ?_⟩
 rw [Oper.semAt_plain F _ _ (by rw [hop]; intro c hc'; cases hc')]
 simp [execOp, hop, hm, hrun, Result.andThen]
 exact hK' _ _ (hK w' r1 r2 r3)
theorem step_nextUIn (hg : o.guard = none) (it : Operand) (hop : o.op = Op.next it false) (hit : a.eval it = .pointer (some ⟨r, 0, none⟩)) (h : Ru vE w b r M lf)
  (hDone : (∀ p ∈ M, lf p.1 = false) → wpListIn F n Tryz.prog ops Q rest (a.put o.dst (.tuple #[.bool false])) w)
  (hMore : ∀ (k : Nat) (c : α) (w' : World), (k, c) ∈ M → lf k = true → Ru vE w' b r M (fun j => lf j && !(j == k)) → w.grownBy w' (some r) → w'.heap.size = w.heap.size → (Instr.entry (.pointer (some ⟨r, 0, none⟩))).run Tryz.prog w' = .ok (.tuple #[kuV k, vE c]) w' → wpListIn F n Tryz.prog ops Q rest (a.put o.dst (.tuple #[.bool true, kuV k, vE c])) w') : wpListIn F n Tryz.prog ops Q (o :: rest) a w := by
 refine wpListIn_plain hg fun K' hK' => ?_
 unfold Oper.wpIn
 refine ⟨by simp [Oper.about, hop], ?_⟩
 rw [Oper.semAt_plain F _ _ (by rw [hop]; intro c hc'; cases hc')]
 rcases h.next o.type with ⟨hl, hrun⟩ | ⟨p, w', hp, hlp, hrun, hrg, hgr, hsz, hen⟩
 ·simp [execOp, hop, hit, hrun, Result.andThen]
  exact hK' _ _ (hDone hl)
 ·simp [execOp, hop, hit, hrun, Result.andThen]
  exact hK' _ _ (hMore p.1 p.2 w' hp hlp hrg hgr hsz hen)
end
set_option maxHeartbeats 4000000 in
theorem keysU_in {α : Type} {vE : α → Value} (n : Nat) (hn : 1 ≤ n) (l0 Bm b N : Nat) (M : List (Nat × α)) (hN : M.length ≤ N) (J Jx : List Nat → World → Prop) (W : World) (hJ : AbidesFrom W.heap.size J)
  (hY : ∀ pre x W1, J pre W1 → pre.length < N → YieldAt Fence.wide (n - 1) Tryz.prog l0 #[kuV x] W1 fun e W' => (e = .returned (.bool true) ∧ J (pre ++ [x]) W' ∧ KeepsWalks W1 W') ∨ (e = .returned (.bool false) ∧ Jx (pre ++ [x]) W'))
  (hm : W.cell? ⟨Bm, 0, none⟩ = some (.map (some b))) (hMu : Mu vE W b M) (h0 : J [] W) :
  CallsIn Fence.wide n Tryz.prog 51 #[.func (.yield l0) #[] #[], .pointer (some ⟨Bm, 0, none⟩)] W fun e W' => (∃ v, e = .returned v) ∧ ((∃ xs : List Nat, xs.Perm (M.map Prod.fst) ∧ J xs W') ∨ (∃ pre, True ∧ Jx pre W')) := by
 have HJ := Lib.hid hJ
 have HY := Lib.hid hY
 have HND := Lib.hid hMu.nodup
 clear hJ hY
 refine callsIn_of_wp Tryz.func51 rfl trivial ?_ rfl
 simp only [Tryz.ntmps51, List.size_toArray, List.length_cons, List.length_nil, Nat.reduceAdd, Nat.reduceSub, Array.replicate_succ, Array.replicate_zero, List.push_toArray, List.append_toArray, List.nil_append, List.cons_append]
 gi_wp2_with (gi_at_range; refine step_rangeUIn rfl _ rfl bmU rfl hMu ?_; intro w1 hru hg1 hs1)
 go_frame
 have HS := Lib.hid (And.intro hru (HJ.out _ _ _ none h0 hg1 (fun r e => by cases e)))
 clear hru hg1 hs1
 gi_loopw [3] (fun _ wr => ∃ (lf : Nat → Bool) (xs : List Nat), Hid (Ru vE wr b W.heap.size M lf ∧ Came M lf xs ∧ J xs wr ∧ xs.length + (M.filter fun p => lf p.1).length ≤ M.length))
  (fun _ wr => wr.rangeLeft b W.heap.size)
 case atStart => exact ⟨_, [], Lib.hid ⟨HS.out.1, Came.start, HS.out.2, by rw [List.length_nil, Nat.zero_add]; exact List.length_filter_le _ _⟩⟩
 case round =>
  obtain ⟨lf, xs, HR⟩ := hrel
  have hru := HR.out.1
  gi_wp2_with (gi_at_next; refine step_nextUIn rfl _ rfl rfl hru ?_ ?_)
  ·intro hl0
   have HD := Lib.hid (HR.out.2.1.all (fun p hp => hl0 p.1 p.2 hp) HND.out)
   clear hl0
   gi_wp2
   go_end0
   exact ⟨⟨_, rfl⟩, .inl ⟨xs, HD.out, HR.out.2.2.1⟩⟩
  ·intro k c w2 hkm hlk hr2 hg2 hs2 hen
   have hwk : ∃ o : Obj, wr.heap[W.heap.size]? = some o ∧ o.isWalk = true := by
    obtain ⟨es, clock, since, seen, c0, q1, q2, q3, q4, q5, q6⟩ := hru
    exact ⟨_, q5, rfl⟩
   have hJ2 : J xs w2 := HJ.out xs wr w2 (some W.heap.size) HR.out.2.2.1 hg2 (fun r e => by injection e with e; subst e; exact ⟨Nat.le_refl _, hwk⟩)
   have hless := left_less hkm hlk
   have hm1 : wr.rangeLeft b W.heap.size = (M.filter fun p => lf p.1).length := hru.left
   have HC := Lib.hid (And.intro (HR.out.2.1.step hkm hlk) (And.intro hr2 (And.intro hless (And.intro hm1 HR.out.2.2.2))))
   obtain ⟨fn, tmps, assign, body, hy, hRr⟩ := HY.out xs k w2 hJ2 (by have := HR.out.2.2.2; omega)
   have HRr := Lib.hid hRr
   clear hs2 hru HR hkm hlk hr2 hg2 hwk hJ2 hless hm1 hRr
   gi_wp2
   refine HRr.out.mono ?_
   rintro e W3 (⟨rfl, hJ3, hk3⟩ | ⟨rfl, hJx⟩)
   ·have HC3 := Lib.hid (And.intro (HC.out.2.1.walks hk3) hJ3)
    clear hJ3 hk3 HRr
    gi_wp2
    go_roundw
    case rel => exact ⟨_, xs ++ [k], Lib.hid ⟨HC3.out.1, HC.out.1, HC3.out.2, by
     have h1 := HC.out.2.2.1
     have h2 := HC.out.2.2.2.2
     rw [List.length_append, List.length_singleton]
     omega⟩⟩
    case measure =>
     show World.rangeLeft W3 b W.heap.size < World.rangeLeft wr b W.heap.size
     rw [HC3.out.1.left, HC.out.2.2.2.1]
     exact HC.out.2.2.1
   ·gi_wp2
    refine bodyPost_ret (results_none rfl _ _ _) rfl ?_
    exact ⟨⟨_, rfl⟩, .inr ⟨_, trivial, hJx⟩⟩
theorem keysU_seq {α : Type} {vE : α → Value} (n : Nat) (hn : 1 ≤ n) (Bm b N : Nat) (M : List (Nat × α)) (hN : M.length ≤ N) (w : World) (hB : Bm < w.heap.size)
  (hm : w.cell? ⟨Bm, 0, none⟩ = some (.map (some b))) (hMu : Mu vE w b M) :
  SeqStopsK Fence.wide n Tryz.prog 51 #[.pointer (some ⟨Bm, 0, none⟩)] (fun x : Nat => #[kuV x]) KeepsWalks (fun xs => xs.Perm (M.map Prod.fst)) (fun _ => True) N w := by
 intro l J Jx W hW hJ _ hY h0
 exact keysU_in n hn l Bm b N M hN J Jx W hJ hY ((hW.cell hB).trans hm) ((thMu vE b M).below hMu hW) h0
end Go.Proofs.YtmcdollkmlcpbaaGreatDoor
