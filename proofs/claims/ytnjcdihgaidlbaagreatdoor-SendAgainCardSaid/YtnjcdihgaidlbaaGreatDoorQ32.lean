/- Joined: Win6, Win7, Win8, Win9, Win10. -/
import Derived.Test.YtnjcdihgaidlbaaGreatDoorQ30
import Derived.Test.YtnjcdihgaidlbaaGreatDoorQ8
import Derived.Lib.SliceRun
import Derived.Deep.DeepCutAuto
set_option linter.unusedSimpArgs false
set_option linter.unusedVariables false
set_option linter.unusedSimpArgs false
set_option linter.unusedVariables false
namespace Go.Proofs.YtnjcdihgaidlbaaGreatDoor
open Go.RowKit
set_option maxRecDepth 100000
def kL (ks : List Kq) : Kq := ⟨fun w => Qs w ks, fun g => apAll g ks, fun _ => True, fun _ _ _ h hg ha => h.grow hg ha, fun _ _ => trivial⟩
theorem run_clearR {P : Program} {α : Type} {t e : TypeId} {enc : α → List Value} {sz bytes : Nat} (E : Elt P t e enc sz bytes) (z : Value) (hv : ∀ w, (zeroValue e).run P w = .ok z w) (hz : z.cells.size = sz) (h1 : ∀ u ∈ z.cells.toList, u.oneCell' = true)
  (w : World) (base g n cap c2 : Nat) (ty : TypeId) (l : List α) (h : OwnR w base e enc sz (.slice (some ⟨g, 0, none⟩) n cap) l) (hn : n = l.length) (i : Nat) (hi : i < n) :
  ∃ w', (Builtin.clear_ #[t] ty #[.slice (some ⟨g, i * sz, none⟩) (n - i) c2]).run P w = .ok (.tuple #[]) w' ∧ OwnR w' base e enc sz (.slice (some ⟨g, 0, none⟩) i cap) (l.take i) ∧ w.grownBy w' (some g) := by
 subst hn
 obtain ⟨hl, hr⟩ := h
 rcases hr with ⟨e0, _⟩ | ⟨g', cap', cur, e0, hb, hg, hn, hm, hs, ht⟩
 ·cases e0
 ·injection e0 with e1 e2 e3
  injection e1 with e1
  injection e1 with e1 _ _
  subst e1; subst e3
  have hzl : (Builtin.zeroCells z.cells (l.length - i)).toList.length = (l.length - i) * sz := by rw [Array.length_toList, size_zeroCells, hz]
  have hsz : (l.length - i) * sz + i * sz = l.length * sz := by rw [← Nat.add_mul]; congr 1; omega
  have hcs : l.length * sz ≤ cur.size := by rw [hs]; exact Nat.mul_le_mul_right _ hn
  have hst := run_storeCells_at (P := P) g (i * sz) e (Builtin.zeroCells z.cells (l.length - i)).toList 0 cur w hg (by rw [hzl]; omega) (fun v hv => by
   rw [Array.mem_toList_iff] at hv
   unfold Builtin.zeroCells at hv
   obtain ⟨j, hj, rfl⟩ := Array.mem_map.1 hv
   have hpos : 0 < z.cells.size := by rw [hz]; exact E.pos
   rw [getElem!_pos z.cells _ (Nat.mod_lt _ hpos)]
   exact h1 _ (by simp))
  refine ⟨w.setRow g (cur.toList.take (i * sz + 0) ++ (Builtin.zeroCells z.cells (l.length - i)).toList ++ cur.toList.drop (i * sz + 0 + (Builtin.zeroCells z.cells (l.length - i)).toList.length)).toArray, ?_, ?_, ?_⟩
  rotate_left
  ·have hli : (l.take i).length = i := by rw [List.length_take]; omega
   unfold OwnR
   rw [hli]
   refine ⟨?_, .inr ⟨g, cap, _, rfl, hb, setRow_heap w g cur _ e (0, 0) hg, by omega, hm, ?_, ?_⟩⟩
   ·rw [flat_length enc sz E.len, hli]
   ·show (cur.toList.take (i * sz + 0) ++ (Builtin.zeroCells z.cells (l.length - i)).toList ++ cur.toList.drop (i * sz + 0 + (Builtin.zeroCells z.cells (l.length - i)).toList.length)).toArray.size = cap * sz
    simp only [List.size_toArray, List.length_append, List.length_take, List.length_drop, hzl, Array.length_toList, Nat.add_zero]
    omega
   ·show (cur.toList.take (i * sz + 0) ++ (Builtin.zeroCells z.cells (l.length - i)).toList ++ cur.toList.drop (i * sz + 0 + (Builtin.zeroCells z.cells (l.length - i)).toList.length)).toArray.toList.take (i * sz) = _
    simp only [List.toList_toArray, Nat.add_zero]
    rw [List.append_assoc, List.take_append_of_le_length (by rw [List.length_take, Array.length_toList]; omega), List.take_take, Nat.min_self]
    have h5 : cur.toList.take (i * sz) = (cur.toList.take (l.length * sz)).take (i * sz) := by rw [List.take_take, Nat.min_eq_left (by omega)]
    rw [h5, ht]
    conv => lhs; rw [← List.take_append_drop i l, List.flatMap_append]
    rw [List.take_append_of_le_length (by rw [flat_length enc sz E.len, hli]; exact Nat.le_refl _), List.take_of_length_le (by rw [flat_length enc sz E.len, hli]; exact Nat.le_refl _)]
  ·exact ⟨rfl, rfl, rfl, by simp, fun k _ hk => setRow_other w g k _ (fun e => hk (by rw [e]))⟩
  ·obtain ⟨m, hm2⟩ : ∃ m, l.length - i = m + 1 := ⟨l.length - i - 1, by omega⟩
   rw [hm2] at hst ⊢
   simp [Builtin.clear_, run_underlying E.under, hv, hst]
def sumP : List PC → Int
 | [] => 0
 | p :: l => p.n + sumP l
theorem sumP_append (a b : List PC) : sumP (a ++ b) = sumP a + sumP b := by
 induction a with
 | nil => simp [sumP]
 | cons p a ih => simp only [List.cons_append, sumP, ih]; omega
def okP (l : List PC) : Prop := ∀ p ∈ l, 1 ≤ p.n ∧ p.n ≤ 65536
theorem sumP_nonneg : ∀ (l : List PC), okP l → 0 ≤ sumP l ∧ (l.length : Int) ≤ sumP l
 | [], _ => by simp [sumP]
 | p :: l, h => by
  have h1 := h p List.mem_cons_self
  have h2 := sumP_nonneg l (fun q hq => h q (List.mem_cons_of_mem _ hq))
  simp only [sumP, List.length_cons]
  omega
theorem okP.filter {l : List PC} (h : okP l) (f : PC → Bool) : okP (l.filter f) := fun p hp => h p (List.mem_filter.1 hp).1
theorem okP.take {l : List PC} (h : okP l) (k : Nat) : okP (l.take k) := fun p hp => h p (List.mem_of_mem_take hp)
theorem okP.drop {l : List PC} (h : okP l) (k : Nat) : okP (l.drop k) := fun p hp => h p (List.mem_of_mem_drop hp)
theorem sumP_parts (f : PC → Bool) : ∀ (l : List PC), sumP (l.filter f) + sumP (l.filter fun p => !f p) = sumP l
 | [] => rfl
 | p :: l => by
  have ih := sumP_parts f l
  by_cases h : f p = true
  ·simp only [List.filter_cons, h, Bool.not_true, if_true, sumP]
   simp only [Bool.false_eq_true, if_false]
   omega
  ·simp only [List.filter_cons, h, Bool.not_false, sumP]
   simp only [Bool.not_eq_true] at h
   simp only [h, Bool.not_false, if_true, Bool.false_eq_true, if_false, sumP]
   omega
def DelE (E : Kq) (g q1 q2 : Nat) (b : Int) (gone : PC → Bool) : Prop :=
 (∀ (W : World) (n : Int) (V : Value) (p : PC), gone p = false → E.P W → Blk W g 132 #[.int .i64 b, .int .i64 n, V] → 0 ≤ p.n → p.n ≤ n → n ≤ 1000000000000 →
  Calls Tryz.prog 101 #[.agg (encP p).toArray, .pointer (some ⟨q1, 0, none⟩), .pointer (some ⟨q2, 0, none⟩)] W fun e w' => e = .returned (.bool false) ∧ Below W.heap.size W w') ∧
 (∀ (W : World) (n : Int) (V : Value) (p : PC), gone p = true → E.P W → Blk W g 132 #[.int .i64 b, .int .i64 n, V] → 0 ≤ p.n → p.n ≤ n → n ≤ 1000000000000 →
  Calls Tryz.prog 101 #[.agg (encP p).toArray, .pointer (some ⟨q1, 0, none⟩), .pointer (some ⟨q2, 0, none⟩)] W fun e w' => e = .returned (.bool true) ∧ ∃ w2, Below W.heap.size W w2 ∧ w' = w2.setCell ⟨g, 1, none⟩ (.int .i64 (n - p.n)))
def lAck (s u q1 q2 g se a0 a1 a2 : Nat) : List Kq := [qB q2 78 #[.pointer (some ⟨g, 0, none⟩)], qB q1 136 #[.func (.func 81) #[] #[.pointer (some ⟨s, 0, none⟩), .pointer (some ⟨u, 0, none⟩)]], qB u 40 #[.int .u32 a0, .int .u32 a1, .int .u32 a2], qB s 30 #[.int .u32 se]]
def qAck (s u q1 q2 g se a0 a1 a2 : Nat) : Kq := kL (lAck s u q1 q2 g se a0 a1 a2)
def lDrop (s q1 q2 g se : Nat) : List Kq := [qB q2 78 #[.pointer (some ⟨g, 0, none⟩)], qB q1 136 #[.func (.func 83) #[] #[.pointer (some ⟨s, 0, none⟩)]], qB s 30 #[.int .u32 se]]
def qDrop (s q1 q2 g se : Nat) : Kq := kL (lDrop s q1 q2 g se)
theorem del_ack (s u q1 q2 g se a0 a1 a2 : Nat) (b : Int) : DelE (qAck s u q1 q2 g se a0 a1 a2) g q1 q2 b (goneA se a0 a2) := by
 constructor
 ·intro W n V p hg hE h h0 h1 h2
  have K : Qs W _ := hE
  refine (rem1_ack s u q1 q2 g se a0 a1 a2 b n V p W (Qs.blk (ks := lAck s u q1 q2 g se a0 a1 a2) K 3) (Qs.blk (ks := lAck s u q1 q2 g se a0 a1 a2) K 2) (Qs.blk (ks := lAck s u q1 q2 g se a0 a1 a2) K 1) (Qs.blk (ks := lAck s u q1 q2 g se a0 a1 a2) K 0) h ⟨h0, h1⟩ h2).mono fun e w' he => ?_
  obtain ⟨he, ho⟩ := he
  rw [hg] at he ho
  rcases ho with ⟨e0, hb⟩ | ⟨e0, hb⟩
  ·exact ⟨he, hb⟩
  ·cases e0
 ·intro W n V p hg hE h h0 h1 h2
  have K : Qs W _ := hE
  refine (rem1_ack s u q1 q2 g se a0 a1 a2 b n V p W (Qs.blk (ks := lAck s u q1 q2 g se a0 a1 a2) K 3) (Qs.blk (ks := lAck s u q1 q2 g se a0 a1 a2) K 2) (Qs.blk (ks := lAck s u q1 q2 g se a0 a1 a2) K 1) (Qs.blk (ks := lAck s u q1 q2 g se a0 a1 a2) K 0) h ⟨h0, h1⟩ h2).mono fun e w' he => ?_
  obtain ⟨he, ho⟩ := he
  rw [hg] at he ho
  rcases ho with ⟨e0, hb⟩ | ⟨e0, hb⟩
  ·cases e0
  ·exact ⟨he, hb⟩
theorem del_drop (s q1 q2 g se : Nat) (b : Int) : DelE (qDrop s q1 q2 g se) g q1 q2 b (goneD se) := by
 constructor
 ·intro W n V p hg hE h h0 h1 h2
  have K : Qs W _ := hE
  refine (rem1_drop s q1 q2 g se b n V p W (Qs.blk (ks := lDrop s q1 q2 g se) K 2) (Qs.blk (ks := lDrop s q1 q2 g se) K 1) (Qs.blk (ks := lDrop s q1 q2 g se) K 0) h ⟨h0, h1⟩ h2).mono fun e w' he => ?_
  obtain ⟨he, ho⟩ := he
  rw [hg] at he ho
  rcases ho with ⟨e0, hb⟩ | ⟨e0, hb⟩
  ·exact ⟨he, hb⟩
  ·cases e0
 ·intro W n V p hg hE h h0 h1 h2
  have K : Qs W _ := hE
  refine (rem1_drop s q1 q2 g se b n V p W (Qs.blk (ks := lDrop s q1 q2 g se) K 2) (Qs.blk (ks := lDrop s q1 q2 g se) K 1) (Qs.blk (ks := lDrop s q1 q2 g se) K 0) h ⟨h0, h1⟩ h2).mono fun e w' he => ?_
  obtain ⟨he, ho⟩ := he
  rw [hg] at he ho
  rcases ho with ⟨e0, hb⟩ | ⟨e0, hb⟩
  ·cases e0
  ·exact ⟨he, hb⟩
end Go.Proofs.YtnjcdihgaidlbaaGreatDoor
set_option linter.unusedSimpArgs false
set_option linter.unusedVariables false
namespace Go.Proofs.YtnjcdihgaidlbaaGreatDoor
open Go.RowKit
set_option maxRecDepth 100000
theorem OwnR.at_ {P : Program} {α : Type} {t e : TypeId} {enc : α → List Value} {sz bytes : Nat} (E : Elt P t e enc sz bytes) {w : World} {base n c : Nat} {A : Option Addr} {l : List α} (h : OwnR w base e enc sz (.slice A n c) l) (k : Nat) (hk : k < l.length) :
  ∃ p, A = some ⟨p, 0, none⟩ ∧ (∀ j v, (enc l[k])[j]? = some v → w.cell? ⟨p, k * sz + j, none⟩ = some v) ∧ (∀ j, w.frozen? ⟨p, k * sz + j, none⟩ = false) ∧ n = l.length ∧ n ≤ c ∧ (Value.slice A n c).ownBlock = some p := by
 obtain ⟨A', c', hv, hlc, hr⟩ := OwnR.row E h
 injection hv with e1 e2 e3
 subst e1; subst e2; subst e3
 rcases h.2 with ⟨e0, h0⟩ | ⟨g, cap, cur, e0, hb, hg, hn, hm, hs, ht⟩
 ·injection e0 with e1 e2 _
  omega
 ·injection e0 with e1 e2 e3
  subst e1
  refine ⟨g, rfl, fun j v hj => ?_, fun j => World.ownsRow.frozenAt h _, rfl, hlc, rfl⟩
  obtain ⟨p, o, hA, hc⟩ := hr k l[k] (List.getElem?_eq_getElem hk)
  injection hA with e1
  injection e1 with e1 e2 _
  subst e1; subst e2
  have := hc j v hj
  rwa [Nat.zero_add] at this
theorem idx_none (E : Kq) (g q1 q2 : Nat) (b n : Int) (gone : PC → Bool) (hd : DelE E g q1 q2 b gone) (A : Option Addr) (c : Nat) (V : Value) (l : List PC) (w : World) (hE : E.P w) (hg : Blk w g 132 #[.int .i64 b, .int .i64 n, V])
  (hr : OwnR w 0 138 encP 8 (.slice A l.length c) l) (hok : ∀ p ∈ l, 0 ≤ p.n ∧ p.n ≤ n) (hn : n ≤ 1000000000000) (hl : l.length ≤ 1000000) (hno : ∀ p ∈ l, gone p = false) :
  Calls Tryz.prog 116 #[.slice A l.length c, .func (.func 101) #[] #[.pointer (some ⟨q1, 0, none⟩), .pointer (some ⟨q2, 0, none⟩)]] w fun e w' => e = .returned (.int .i64 (-1)) ∧ Below w.heap.size w w' := by
 have HK := Lib.hid ((((Qs.zero w).cons (k := E) hE).cons (k := qB _ _ _) hg).cons (k := qVw _ _ _ _ _ _) hr)
 have HD := Lib.hid hd
 have HN := Lib.hid hno
 have HO := Lib.hid hok
 clear hd hE hg hr hno hok
 go_enter Tryz.func116, Tryz.ntmps116
 go_wp2_with fail
 go_loopw [8] (fun i wr => ∃ k : Nat, k ≤ l.length ∧ i = .int .i64 k ∧ Hid (Qs wr [qVw 0 138 encP 8 (.slice A l.length c) l, qB g 132 #[.int .i64 b, .int .i64 n, V], E, qW w w.heap.size (Nat.le_refl _)]))
  (fun i _ => l.length - (intOf i).toNat)
 case atStart => exact ⟨0, Nat.zero_le _, rfl, HK⟩
 case round =>
  obtain ⟨k, hk, rfl, HR⟩ := hrel
  by_cases hlt : k < l.length
  ·obtain ⟨p, rfl, hc, hf, -, -, -⟩ := OwnR.at_ Tryz.eltP (HR.out.rowVw 0) k hlt
   have hgo := HN.out l[k] (List.getElem_mem hlt)
   have hpb := HO.out l[k] (List.getElem_mem hlt)
   obtain ⟨pc, hpc⟩ : ∃ pc, pc = l[k] := ⟨_, rfl⟩
   rw [← hpc] at hc hgo hpb
   clear hpc hf
   obtain ⟨se, f0, f1, f2, t0, t1, t2, pn⟩ := pc
   have hD := fun W V hE hg => HD.out.1 W n V ⟨se, f0, f1, f2, t0, t1, t2, pn⟩ hgo hE hg hpb.1 hpb.2 hn
   simp only [encP] at hD
   have C := And.intro (hc 0 _ rfl) (And.intro (hc 1 _ rfl) (And.intro (hc 2 _ rfl) (And.intro (hc 3 _ rfl) (And.intro (hc 4 _ rfl) (And.intro (hc 5 _ rfl) (And.intro (hc 6 _ rfl) (hc 7 _ rfl)))))))
   simp only [Nat.add_zero] at C
   have HDk := Lib.hid hD
   clear hD hc hgo hpb
   go_wp2_with fail
   refine (HDk.out _ V (HR.out.get 2 rfl) (HR.out.blk 1)).mono ?_
   rintro e w1 ⟨rfl, b1⟩
   have HR1 := Lib.hid (HR.out.go b1)
   clear C b1
   go_wp2_with fail
   go_roundw
   case measure => simp [intOf]; omega
   case rel => exact ⟨k + 1, by omega, by go_num, HR1⟩
  ·obtain rfl : k = l.length := by omega
   go_wp2_with fail
   go_ret
   exact ⟨rfl, HR.out.top 3⟩
theorem idx_some (E : Kq) (g q1 q2 : Nat) (b n : Int) (gone : PC → Bool) (hd : DelE E g q1 q2 b gone) (A : Option Addr) (c : Nat) (V : Value) (l : List PC) (w : World) (hE : E.P w) (hg : Blk w g 132 #[.int .i64 b, .int .i64 n, V])
  (hr : OwnR w 0 138 encP 8 (.slice A l.length c) l) (hok : ∀ p ∈ l, 0 ≤ p.n ∧ p.n ≤ n) (hn : n ≤ 1000000000000) (hl : l.length ≤ 1000000) (i : Nat) (pc : PC) (hi : l[i]? = some pc) (hyes : gone pc = true) (hno : ∀ j q, j < i → l[j]? = some q → gone q = false) :
  Calls Tryz.prog 116 #[.slice A l.length c, .func (.func 101) #[] #[.pointer (some ⟨q1, 0, none⟩), .pointer (some ⟨q2, 0, none⟩)]] w fun e w' => e = .returned (.int .i64 i) ∧ ∃ w2, Below w.heap.size w w2 ∧ w' = w2.setCell ⟨g, 1, none⟩ (.int .i64 (n - pc.n)) := by
 have hil : i < l.length := (List.getElem?_eq_some_iff.1 hi).1
 have hie : l[i] = pc := (List.getElem?_eq_some_iff.1 hi).2
 have HK := Lib.hid ((((Qs.zero w).cons (k := E) hE).cons (k := qB _ _ _) hg).cons (k := qVw _ _ _ _ _ _) hr)
 have HD := Lib.hid hd
 have HN := Lib.hid hno
 have HO := Lib.hid hok
 have HI := Lib.hid hie
 have HY := Lib.hid hyes
 clear hd hE hg hr hno hok hi hie hyes
 go_enter Tryz.func116, Tryz.ntmps116
 go_wp2_with fail
 go_loopw [8] (fun s wr => ∃ k : Nat, k ≤ i ∧ s = .int .i64 k ∧ Hid (Qs wr [qVw 0 138 encP 8 (.slice A l.length c) l, qB g 132 #[.int .i64 b, .int .i64 n, V], E, qW w w.heap.size (Nat.le_refl _)]))
  (fun s _ => l.length - (intOf s).toNat)
 case atStart => exact ⟨0, Nat.zero_le _, rfl, HK⟩
 case round =>
  obtain ⟨k, hk, rfl, HR⟩ := hrel
  have hlt : k < l.length := by omega
  obtain ⟨p, rfl, hc, hf, -, -, -⟩ := OwnR.at_ Tryz.eltP (HR.out.rowVw 0) k hlt
  have hpb := HO.out l[k] (List.getElem_mem hlt)
  by_cases hki : k < i
  ·have hgo := HN.out k l[k] hki (List.getElem?_eq_getElem hlt)
   obtain ⟨pk, hpc⟩ : ∃ pc, pc = l[k] := ⟨_, rfl⟩
   rw [← hpc] at hc hgo hpb
   clear hpc hf
   obtain ⟨se, f0, f1, f2, t0, t1, t2, pn⟩ := pk
   have hD := fun W V hE hg => HD.out.1 W n V ⟨se, f0, f1, f2, t0, t1, t2, pn⟩ hgo hE hg hpb.1 hpb.2 hn
   simp only [encP] at hD
   have C := And.intro (hc 0 _ rfl) (And.intro (hc 1 _ rfl) (And.intro (hc 2 _ rfl) (And.intro (hc 3 _ rfl) (And.intro (hc 4 _ rfl) (And.intro (hc 5 _ rfl) (And.intro (hc 6 _ rfl) (hc 7 _ rfl)))))))
   simp only [Nat.add_zero] at C
   have HDk := Lib.hid hD
   clear hD hc hgo hpb
   go_wp2_with fail
   refine (HDk.out _ V (HR.out.get 2 rfl) (HR.out.blk 1)).mono ?_
   rintro e w1 ⟨rfl, b1⟩
   have HR1 := Lib.hid (HR.out.go b1)
   clear C b1
   go_wp2_with fail
   go_roundw
   case measure => simp [intOf]; omega
   case rel => exact ⟨k + 1, by omega, by go_num, HR1⟩
  ·obtain rfl : k = i := by omega
   rw [HI.out] at hc hpb
   clear hf
   obtain ⟨se, f0, f1, f2, t0, t1, t2, pn⟩ := pc
   have hD := fun W V hE hg => HD.out.2 W n V ⟨se, f0, f1, f2, t0, t1, t2, pn⟩ HY.out hE hg hpb.1 hpb.2 hn
   simp only [encP] at hD
   have C := And.intro (hc 0 _ rfl) (And.intro (hc 1 _ rfl) (And.intro (hc 2 _ rfl) (And.intro (hc 3 _ rfl) (And.intro (hc 4 _ rfl) (And.intro (hc 5 _ rfl) (And.intro (hc 6 _ rfl) (hc 7 _ rfl)))))))
   simp only [Nat.add_zero] at C
   have HDk := Lib.hid hD
   clear hD hc hpb
   go_wp2_with fail
   refine (HDk.out _ V (HR.out.get 2 rfl) (HR.out.blk 1)).mono ?_
   rintro e w1 ⟨rfl, w2, b1, hw⟩
   have HR1 := Lib.hid (HR.out.go b1)
   have HW := Lib.hid hw
   clear C b1 hw
   go_wp2_with fail
   go_ret
   exact ⟨rfl, w2, HR1.out.top 3, HW.out⟩
end Go.Proofs.YtnjcdihgaidlbaaGreatDoor
set_option linter.unusedSimpArgs false
set_option linter.unusedVariables false
namespace Go.Proofs.YtnjcdihgaidlbaaGreatDoor
open Go.RowKit
set_option maxRecDepth 100000
theorem take_set_snoc {α : Type} (L : List α) (i : Nat) (x : α) (hi : i < L.length) : (L.set i x).take (i + 1) = L.take i ++ [x] := by
 rw [List.take_succ_eq_append_getElem (by rw [List.length_set]; exact hi), List.take_set_of_le (Nat.le_refl _)]
 simp
theorem del_keep {l L : List PC} {i j : Nat} {f : PC → Bool} {x : PC} (h1 : L.length = l.length) (hij : i < j) (hx : l[j]? = some x) (ht : L.take i = (l.take j).filter fun p => !f p) (hd : L.drop j = l.drop j) (hk : f x = false) :
  (L.set i x).take (i + 1) = ((l.take (j + 1)).filter fun p => !f p) ∧ (L.set i x).drop (j + 1) = l.drop (j + 1) := by
 obtain ⟨hj, hx⟩ := List.getElem?_eq_some_iff.1 hx
 constructor
 ·rw [take_set_snoc _ _ _ (by omega), ht, List.take_succ_eq_append_getElem hj, List.filter_append, hx]
  simp [hk]
 ·rw [List.drop_set_of_lt (by omega), ← List.drop_drop, hd, List.drop_drop]
theorem del_gone {l L : List PC} {i j : Nat} {f : PC → Bool} {x : PC} (hx : l[j]? = some x) (ht : L.take i = (l.take j).filter fun p => !f p) (hd : L.drop j = l.drop j) (hk : f x = true) :
  L.take i = ((l.take (j + 1)).filter fun p => !f p) ∧ L.drop (j + 1) = l.drop (j + 1) := by
 obtain ⟨hj, hx⟩ := List.getElem?_eq_some_iff.1 hx
 constructor
 ·rw [ht, List.take_succ_eq_append_getElem hj, List.filter_append, hx]
  simp [hk]
 ·rw [← List.drop_drop, hd, List.drop_drop]
theorem sum_left {l : List PC} {j : Nat} {x : PC} {f : PC → Bool} (hok : okP l) (hx : l[j]? = some x) : sumP ((l.take j).filter f) + x.n ≤ sumP l := by
 obtain ⟨hj, hx⟩ := List.getElem?_eq_some_iff.1 hx
 have h1 := sumP_parts f (l.take j)
 have h2 := sumP_nonneg _ ((hok.take j).filter fun p => !f p)
 have h3 : l = l.take j ++ (x :: l.drop (j + 1)) := by rw [← hx, ← List.drop_eq_getElem_cons hj, List.take_append_drop]
 have h4 : sumP l = sumP (l.take j) + (x.n + sumP (l.drop (j + 1))) := by
  conv => lhs; rw [h3, sumP_append]
  rfl
 have h5 := sumP_nonneg _ (hok.drop (j + 1))
 omega
theorem sum_step {l : List PC} {j : Nat} {x : PC} {f : PC → Bool} (hx : l[j]? = some x) : sumP ((l.take (j + 1)).filter f) = sumP ((l.take j).filter f) + if f x = true then x.n else 0 := by
 obtain ⟨hj, hx⟩ := List.getElem?_eq_some_iff.1 hx
 rw [List.take_succ_eq_append_getElem hj, List.filter_append, sumP_append, hx]
 by_cases h : f x = true <;> simp [h, sumP]
theorem Qs.putRowVw {w W : World} {ks : List Kq} {α : Type} {P : Program} {t e : TypeId} {enc : α → List Value} {sz bytes : Nat} (E : Elt P t e enc sz bytes) (h : Qs w ks) (i g j : Nat) (x : α) {base cap n : Nat} {l : List α} (hn : n = l.length) (hj : j < l.length)
  (hW : setsAt w g (j * sz) (enc x).zipIdx = W) (ha : apBut g i ks) (ee : ks[i]? = some (qVw base e enc sz (.slice (some ⟨g, 0, none⟩) n cap) l) := by rfl) : Qs W (ks.set i (qVw base e enc sz (.slice (some ⟨g, 0, none⟩) n cap) (l.set j x))) := by
 subst hW
 intro k hk
 obtain ⟨m, hm⟩ := List.getElem?_of_mem hk
 by_cases hmi : m = i
 ·subst hmi
  rw [List.getElem?_set_self (List.getElem?_eq_some_iff.1 ee).1] at hm
  injection hm with hm
  subst hm
  exact OwnR.stored E (h.rowVw m ee) hn j x hj
 ·rw [List.getElem?_set_ne (fun e => hmi e.symm)] at hm
  exact k.go w _ _ (h.get m hm) (grown_setsAt g _ _ w) (fun y ey => by injection ey with ey; subst ey; exact but_mem ha m k hmi hm)
theorem delf_none (E : Kq) (g q1 q2 : Nat) (b : Int) (gone : PC → Bool) (hd : DelE E g q1 q2 b gone) (A : Option Addr) (c : Nat) (l : List PC) (w : World) (hE : E.P w) (hg : Blk w g 132 #[.int .i64 b, .int .i64 (sumP l), .slice A l.length c])
  (hr : OwnR w 0 138 encP 8 (.slice A l.length c) l) (hok : okP l) (hn : sumP l ≤ 1000000000) (hl : l.length ≤ 1000000) (hno : ∀ p ∈ l, gone p = false) :
  Calls Tryz.prog 100 #[.slice A l.length c, .func (.func 101) #[] #[.pointer (some ⟨q1, 0, none⟩), .pointer (some ⟨q2, 0, none⟩)]] w fun e w' => e = .returned (.slice A l.length c) ∧ Below w.heap.size w w' := by
 have hb : ∀ p ∈ l, 0 ≤ p.n ∧ p.n ≤ sumP l := fun p hp => by
  obtain ⟨j, hj, rfl⟩ := List.getElem_of_mem hp
  have h1 := sum_left (f := fun _ => false) hok (List.getElem?_eq_getElem hj)
  have h2 := sumP_nonneg _ ((hok.take j).filter fun _ => false)
  have h3 := hok _ hp
  omega
 have HC := Lib.hid (idx_none E g q1 q2 b (sumP l) gone hd A c _ l w hE hg hr hb (by omega) hl hno)
 clear hd hE hg hr hno hok hb
 go_enter Tryz.func100, Tryz.ntmps100
 go_wp2_with fail
 refine HC.out.mono ?_
 rintro e w1 ⟨rfl, b1⟩
 have HB := Lib.hid b1
 clear b1
 go_wp2_with fail
 go_ret
 exact ⟨rfl, HB.out⟩
theorem delf_some (E : Kq) (g q1 q2 : Nat) (b : Int) (gone : PC → Bool) (hd : DelE E g q1 q2 b gone) (P c : Nat) (l : List PC) (w : World) (hE : E.P w) (hEg : E.ap g) (hEP : E.ap P) (hgP : g ≠ P) (hg : Blk w g 132 #[.int .i64 b, .int .i64 (sumP l), .slice (some ⟨P, 0, none⟩) l.length c])
  (hr : OwnR w 0 138 encP 8 (.slice (some ⟨P, 0, none⟩) l.length c) l) (hok : okP l) (hn : sumP l ≤ 1000000000) (hl : l.length ≤ 1000000) (i0 : Nat) (pc : PC) (hi : l[i0]? = some pc) (hyes : gone pc = true) (hno : ∀ j q, j < i0 → l[j]? = some q → gone q = false) :
  Calls Tryz.prog 100 #[.slice (some ⟨P, 0, none⟩) l.length c, .func (.func 101) #[] #[.pointer (some ⟨q1, 0, none⟩), .pointer (some ⟨q2, 0, none⟩)]] w fun e w' =>
   e = .returned (.slice (some ⟨P, 0, none⟩) (l.filter fun p => !gone p).length c) ∧ Blk w' g 132 #[.int .i64 b, .int .i64 (sumP (l.filter fun p => !gone p)), .slice (some ⟨P, 0, none⟩) l.length c] ∧ OwnR w' 0 138 encP 8 (.slice (some ⟨P, 0, none⟩) (l.filter fun p => !gone p).length c) (l.filter fun p => !gone p) ∧ Foot (inBR g (.slice (some ⟨P, 0, none⟩) l.length c)) w w' := by
 have hil : i0 < l.length := (List.getElem?_eq_some_iff.1 hi).1
 have hcl : l.length ≤ c := (OwnR.at_ Tryz.eltP hr i0 hil).choose_spec.2.2.2.2.1
 have hb : ∀ p ∈ l, 0 ≤ p.n ∧ p.n ≤ sumP l := fun p hp => by
  obtain ⟨j, hj, rfl⟩ := List.getElem_of_mem hp
  have h1 := sum_left (f := fun _ => false) hok (List.getElem?_eq_getElem hj)
  have h2 := sumP_nonneg _ ((hok.take j).filter fun _ => false)
  have h3 := hok _ hp
  omega
 have HC := Lib.hid (idx_some E g q1 q2 b (sumP l) gone hd (some ⟨P, 0, none⟩) c _ l w hE hg hr hb (by omega) hl i0 pc hi hyes hno)
 have HK := Lib.hid (((((Qs.nil w).cons (k := qF (inBR g (.slice (some ⟨P, 0, none⟩) l.length c)) w) (Foot.refl _ _)).cons (k := E) hE).cons (k := qB _ _ _) hg).cons (k := qVw _ _ _ _ _ _) hr)
 have hfil : (l.take i0).filter (fun p => !gone p) = l.take i0 := List.filter_eq_self.2 fun q hq => by
  obtain ⟨j, hj, rfl⟩ := List.getElem_of_mem hq
  rw [List.length_take] at hj
  rw [List.getElem_take, hno j _ (by omega) (List.getElem?_eq_getElem (by omega))]; rfl
 have hfil2 : (l.take i0).filter gone = [] := List.filter_eq_nil_iff.2 fun q hq => by
  obtain ⟨j, hj, rfl⟩ := List.getElem_of_mem hq
  rw [List.length_take] at hj
  rw [List.getElem_take, hno j _ (by omega) (List.getElem?_eq_getElem (by omega))]; simp
 obtain ⟨h1, h2⟩ := del_gone (L := l) hi hfil.symm rfl hyes
 have h3 := sum_step (f := gone) hi
 rw [hfil2, if_pos hyes] at h3
 have h4 : sumP (([] : List PC)) = 0 := rfl
 rw [h4, Int.zero_add] at h3
 have H1 := Lib.hid h1
 have H2 := Lib.hid h2
 have H3 := Lib.hid h3
 have HD := Lib.hid hd
 have HO := Lib.hid hok
 clear hd hE hg hr hno hok hb hi hfil hfil2 h1 h2 h3 h4
 go_enter Tryz.func100, Tryz.ntmps100
 go_wp2_with fail
 refine HC.out.mono ?_
 rintro e w1 ⟨rfl, w2, b1, hw1⟩
 have HK2 := Lib.hid (HK.out.go b1)
 have HW1 := Lib.hid (show sets w2 g [(1, .int .i64 (sumP l - pc.n))] = w1 from hw1.symm)
 have HK1 := Lib.hid (HK2.out.putTo 1 g [(1, .int .i64 (sumP l - pc.n))] #[.int .i64 b, .int .i64 (sumP l - pc.n), .slice (some ⟨P, 0, none⟩) l.length c] HW1.out (by
  simp only [apBut, apAll, qVw, qF, inBR, Value.ownBlock, true_or, and_true]; exact ⟨fun e => hgP (by injection e with e; exact e.symm), hEg⟩))
 simp only [List.set] at HK1
 clear b1 hw1 HK2 HW1 HK
 have hne : ((i0 : Int) == -1) = false := beq_eq_false_iff_ne.2 (by omega)
 go_wp2_with fail
 go_loopw [5, 6] (fun s5 s6 wr => ∃ (i j : Nat) (L : List PC) (m : Int), i < j ∧ j ≤ l.length ∧ L.length = l.length ∧ s5 = .int .i64 i ∧ s6 = .int .i64 j ∧ Hid (L.take i = (l.take j).filter fun p => !gone p) ∧ Hid (L.drop j = l.drop j) ∧ Hid (m = sumP l - sumP ((l.take j).filter gone)) ∧
   Hid (Qs wr [qVw 0 138 encP 8 (.slice (some ⟨P, 0, none⟩) l.length c) L, qB g 132 #[.int .i64 b, .int .i64 m, .slice (some ⟨P, 0, none⟩) l.length c], E, qF (inBR g (.slice (some ⟨P, 0, none⟩) l.length c)) w]))
  (fun _ j _ => l.length - (intOf j).toNat)
 case atStart => exact ⟨i0, i0 + 1, l, _, by omega, by omega, rfl, rfl, by go_num, H1, Lib.hid rfl, Lib.hid (by rw [H3.out]), HK1⟩
 case round =>
  obtain ⟨i, j, L, m, hij, hj, hL, rfl, rfl, HT, HDr, HM, HR⟩ := hrel
  clear HK1 H1 H2 H3
  by_cases hlt : j < l.length
  ·have hLj : L[j]? = l[j]? := by
    have := congrArg List.head? HDr.out
    simpa [List.head?_drop] using this
   obtain ⟨x, hx⟩ : ∃ x, l[j]? = some x := ⟨_, List.getElem?_eq_getElem hlt⟩
   have hLx : L[j] = x := by rw [hx, List.getElem?_eq_getElem (by omega)] at hLj; injection hLj
   obtain ⟨p, hp, hc, hf, -, -, -⟩ := OwnR.at_ Tryz.eltP (HR.out.rowVw 0) j (by omega)
   injection hp with hp
   injection hp with hp _ _
   subst hp
   rw [hLx] at hc
   have hsl := sum_left (f := gone) HO.out hx
   have hxb := HO.out x (List.mem_of_getElem? hx)
   have HX := Lib.hid hx
   have hmb : 0 ≤ x.n ∧ x.n ≤ m := by have := HM.out; omega
   clear hLj hLx hf hx hsl
   obtain ⟨se, f0, f1, f2, t0, t1, t2, pn⟩ := x
   have C := And.intro (hc 0 _ rfl) (And.intro (hc 1 _ rfl) (And.intro (hc 2 _ rfl) (And.intro (hc 3 _ rfl) (And.intro (hc 4 _ rfl) (And.intro (hc 5 _ rfl) (And.intro (hc 6 _ rfl) (hc 7 _ rfl)))))))
   simp only [Nat.add_zero] at C
   clear hc
   have HL := Lib.hid hL
   have hsz := HR.out.tofoot 3 |>.size
   cases hgo : gone ⟨se, f0, f1, f2, t0, t1, t2, pn⟩
   ·have hD := fun W V hE hg => HD.out.1 W m V ⟨se, f0, f1, f2, t0, t1, t2, pn⟩ hgo hE hg hmb.1 hmb.2 (by have := HM.out; have := HO.out; have h9 := (sumP_nonneg _ ((HO.out.take j).filter gone)).1; omega)
    simp only [encP] at hD
    have HDk := Lib.hid hD
    have HG := Lib.hid hgo
    clear hD hgo hmb
    have HR1 := Lib.hid (HR.out.box #[.int .u32 se, .int .u32 f0, .int .u32 f1, .int .u32 f2, .int .u32 t0, .int .u32 t1, .int .u32 t2, .int .i64 pn] 138)
    go_wp2_with fail
    refine (HDk.out _ _ (HR1.out.get 3 rfl) (HR1.out.blk 2)).mono ?_
    rintro e w3 ⟨rfl, b3⟩
    have HR3 := Lib.hid (HR1.out.go b3)
    obtain ⟨p, hp, hc, hf, -, -, -⟩ := OwnR.at_ Tryz.eltP (HR3.out.rowVw 1) i (by have := HL.out; omega)
    injection hp with hp
    injection hp with hp _ _
    subst hp
    obtain ⟨⟨ye, y0, y1, y2, y3, y4, y5, yn⟩, hy⟩ : ∃ y, y = L[i]'(by have := HL.out; omega) := ⟨_, rfl⟩
    rw [← hy] at hc
    have C1 := And.intro (hc 0 _ rfl) (And.intro (hc 1 _ rfl) (And.intro (hc 2 _ rfl) (And.intro (hc 3 _ rfl) (And.intro (hc 4 _ rfl) (And.intro (hc 5 _ rfl) (And.intro (hc 6 _ rfl) (hc 7 _ rfl)))))))
    have C2 := And.intro (hf 0) (And.intro (hf 1) (And.intro (hf 2) (And.intro (hf 3) (And.intro (hf 4) (And.intro (hf 5) (And.intro (hf 6) (hf 7)))))))
    have C3 := (HR3.out.blk 0)
    simp only [Nat.add_zero] at C1 C2
    have hbx : wr.heap.size ≠ P := by have := (World.ownsRow.lt (HR.out.rowVw 0) P rfl).2; omega
    have C4 := HR3.out.says
    simp only [sayAll, cellsSay, qB, qVw, qF, Nat.reduceAdd, and_true, true_and] at C4
    clear C hc hf hy b3
    have hx2 := del_keep HL.out hij HX.out HT.out HDr.out HG.out
    have hs2 := sum_step (f := gone) HX.out
    rw [HG.out] at hs2
    simp only [Bool.false_eq_true, if_false, Int.add_zero] at hs2
    have HX2 := Lib.hid hx2
    have HS2 := Lib.hid hs2
    clear hx2 hs2
    go_wp2_with fail
    go_roundw
    case measure => simp [intOf]; omega
    case rel =>
     have K4 := HR3.out.putRowVw (W := _) Tryz.eltP 1 P i ⟨se, f0, f1, f2, t0, t1, t2, pn⟩ HL.out.symm (by have := HL.out; omega) rfl (by
      simp only [apBut, apAll, qB, qF, inBR, Value.ownBlock, or_true, true_or, and_true]; exact ⟨hbx, hgP, hEP⟩)
     exact ⟨i + 1, j + 1, L.set i ⟨se, f0, f1, f2, t0, t1, t2, pn⟩, m, by omega, by omega, by rw [List.length_set]; exact HL.out, by go_num, by go_num, Lib.hid HX2.out.1, Lib.hid HX2.out.2, Lib.hid (by rw [HS2.out]; exact HM.out), Lib.hid K4.tail⟩
   ·have hD := fun W V hE hg => HD.out.2 W m V ⟨se, f0, f1, f2, t0, t1, t2, pn⟩ hgo hE hg hmb.1 hmb.2 (by have := HM.out; have := HO.out; have h9 := (sumP_nonneg _ ((HO.out.take j).filter gone)).1; omega)
    simp only [encP] at hD
    have HDk := Lib.hid hD
    have HG := Lib.hid hgo
    clear hD hgo hmb
    have HR1 := Lib.hid (HR.out.box #[.int .u32 se, .int .u32 f0, .int .u32 f1, .int .u32 f2, .int .u32 t0, .int .u32 t1, .int .u32 t2, .int .i64 pn] 138)
    go_wp2_with fail
    refine (HDk.out _ _ (HR1.out.get 3 rfl) (HR1.out.blk 2)).mono ?_
    rintro e w3 ⟨rfl, w4, b3, hw3⟩
    have K3 := (HR1.out.go b3).putTo 2 g [(1, .int .i64 (m - pn))] #[.int .i64 b, .int .i64 (m - pn), .slice (some ⟨P, 0, none⟩) l.length c] (show sets w4 g _ = w3 from hw3.symm) (by
     have hgw := (HR.out.blk 1).lt
     simp only [apBut, apAll, qB, qVw, qF, inBR, Value.ownBlock, true_or, and_true]; exact ⟨by omega, fun e => hgP (by injection e with e; exact e.symm), hEg⟩)
    simp only [List.set] at K3
    have HR3 := Lib.hid K3.tail
    have hx2 := del_gone HX.out HT.out HDr.out HG.out
    have hs2 := sum_step (f := gone) HX.out
    rw [HG.out, if_pos rfl] at hs2
    have HX2 := Lib.hid hx2
    have HS2 := Lib.hid (show m - pn = sumP l - sumP ((l.take (j + 1)).filter gone) by rw [hs2, HM.out]; simp only; omega)
    clear C b3 hw3 K3 hx2 hs2
    go_wp2_with fail
    go_roundw
    case measure => simp [intOf]; omega
    case rel => exact ⟨i, j + 1, L, m - pn, by omega, by omega, HL.out, rfl, by go_num, Lib.hid HX2.out.1, Lib.hid HX2.out.2, HS2, HR3⟩
  ·obtain rfl : j = l.length := by omega
   rw [List.take_length] at HT HM
   have hil : i < l.length := hij
   have hfl : (l.filter fun p => !gone p).length = i := by rw [← HT.out, List.length_take]; omega
   have hzv : ∀ w, (zeroValue 138).run Tryz.prog w = .ok (.agg #[.int .u32 0, .int .u32 0, .int .u32 0, .int .u32 0, .int .u32 0, .int .u32 0, .int .u32 0, .int .i64 0]) w := Tryz.zeroValue138
   obtain ⟨w5, hrun, hown5, hgr5⟩ := run_clearR Tryz.eltP _ hzv rfl (by decide) wr 0 P l.length c (c - i) 0 L (HR.out.rowVw 0) hL.symm i hil
   have K5 := HR.out.tail.grow hgr5 (fun k e => by
    injection e with e
    subst e
    simp only [apAll, qB, qF, inBR, Value.ownBlock, or_true, true_or, and_true]; exact ⟨hgP, hEP⟩)
   rw [HT.out] at hown5
   have hm2 : m = sumP (l.filter fun p => !gone p) := by have h1 := sumP_parts gone l; have h2 := HM.out; omega
   rw [hm2] at K5
   have HF := Lib.hid hfl
   have HK5 := Lib.hid K5
   have HO5 := Lib.hid hown5
   have hic : i < c := by omega
   clear hown5 hgr5 K5 hm2 hfl HR hzv
   go_wp2_with fail
   go_ret
   rw [HF.out]
   exact ⟨rfl, HK5.out.blk 0, HO5.out, HK5.out.tofoot 2⟩
end Go.Proofs.YtnjcdihgaidlbaaGreatDoor
set_option linter.unusedSimpArgs false
set_option linter.unusedVariables false
namespace Go.Proofs.YtnjcdihgaidlbaaGreatDoor
open Go.RowKit
set_option maxRecDepth 100000
theorem first_gone (f : PC → Bool) : ∀ (l : List PC), (∀ p ∈ l, f p = false) ∨ ∃ (i : Nat) (pc : PC), l[i]? = some pc ∧ f pc = true ∧ ∀ (j : Nat) (q : PC), j < i → l[j]? = some q → f q = false
 | [] => .inl (fun p hp => by cases hp)
 | x :: l => by
  by_cases hx : f x = true
  ·exact .inr ⟨0, x, rfl, hx, fun j q hj => by omega⟩
  ·have hx' : f x = false := by simpa using hx
   rcases first_gone f l with h | ⟨i, pc, h1, h2, h3⟩
   ·exact .inl fun p hp => by
     rcases List.mem_cons.1 hp with rfl | hp
     ·exact hx'
     ·exact h p hp
   ·refine .inr ⟨i + 1, pc, by simpa using h1, h2, fun j q hj hq => ?_⟩
    cases j with
    | zero => simp at hq; subst hq; exact hx'
    | succ j => exact h3 j q (by omega) (by simpa using hq)
theorem apart_WP {w : World} {g : Nat} {cs : Array Value} {A : Option Addr} {n c : Nat} {l : List PC} (h : Blk w g 132 cs) (hr : OwnR w 0 138 encP 8 (.slice A n c) l) : (Value.slice A n c).ownBlock ≠ some g := fun e => by
 rcases hr.2 with ⟨e0, _⟩ | ⟨k, cap, cur, e0, _, hgg, _⟩
 ·injection e0 with e1; rw [e1] at e; cases e
 ·injection e0 with e1; rw [e1] at e; injection e with e; subst e
  have := Option.some.inj (h.symm.trans hgg)
  injection this with _ e2 _
  exact absurd e2 (by decide)
theorem delf_any (E : Kq) (g q1 q2 : Nat) (b : Int) (gone : PC → Bool) (hd : DelE E g q1 q2 b gone) (A : Option Addr) (c : Nat) (l : List PC) (w : World) (hE : E.P w) (hEg : E.ap g) (hEA : ∀ k, (Value.slice A l.length c).ownBlock = some k → E.ap k) (hg : Blk w g 132 #[.int .i64 b, .int .i64 (sumP l), .slice A l.length c])
  (hr : OwnR w 0 138 encP 8 (.slice A l.length c) l) (hok : okP l) (hn : sumP l ≤ 1000000000) (hl : l.length ≤ 1000000) :
  Calls Tryz.prog 100 #[.slice A l.length c, .func (.func 101) #[] #[.pointer (some ⟨q1, 0, none⟩), .pointer (some ⟨q2, 0, none⟩)]] w fun e w' =>
   e = .returned (.slice A (l.filter fun p => !gone p).length c) ∧ Blk w' g 132 #[.int .i64 b, .int .i64 (sumP (l.filter fun p => !gone p)), .slice A l.length c] ∧ OwnR w' 0 138 encP 8 (.slice A (l.filter fun p => !gone p).length c) (l.filter fun p => !gone p) ∧ Foot (inBR g (.slice A l.length c)) w w' := by
 rcases first_gone gone l with h | ⟨i, pc, h1, h2, h3⟩
 ·have hf : (l.filter fun p => !gone p) = l := List.filter_eq_self.2 fun p hp => by rw [h p hp]; rfl
  refine (delf_none E g q1 q2 b gone hd A c l w hE hg hr hok hn hl h).mono ?_
  rintro e w' ⟨rfl, hb⟩
  rw [hf]
  exact ⟨rfl, hg.below hb (hg.lt), hr.below hb, Foot.of_below hb⟩
 ·obtain ⟨P, rfl, -, -, -, -, hP⟩ := OwnR.at_ Tryz.eltP hr i (List.getElem?_eq_some_iff.1 h1).1
  exact delf_some E g q1 q2 b gone hd P c l w hE hEg (hEA P hP) (fun e => apart_WP hg hr (by rw [e]; exact hP)) hg hr hok hn hl i pc h1 h2 h3
theorem DelE.imp {E E' : Kq} {g q1 q2 : Nat} {b : Int} {gone : PC → Bool} (h : DelE E g q1 q2 b gone) (hi : ∀ W, E'.P W → E.P W) : DelE E' g q1 q2 b gone :=
 ⟨fun W n V p hg hE => h.1 W n V p hg (hi W hE), fun W n V p hg hE => h.2 W n V p hg (hi W hE)⟩
def qRem (X : Kq) (g q1 q2 fk : Nat) (caps : Array Value) : Kq := kL [qB q2 78 #[.pointer (some ⟨g, 0, none⟩)], qB q1 136 #[.func (.func fk) #[] caps], X]
set_option maxHeartbeats 2000000 in
theorem rem_any (g fk : Nat) (caps : Array Value) (X : Kq) (gone : PC → Bool) (b : Int) (A : Option Addr) (c : Nat) (l : List PC) (w : World) (hX : X.P w) (hXg : X.ap g) (hXA : ∀ k, (Value.slice A l.length c).ownBlock = some k → X.ap k)
  (hg : Blk w g 132 #[.int .i64 b, .int .i64 (sumP l), .slice A l.length c]) (hr : OwnR w 0 138 encP 8 (.slice A l.length c) l) (hok : okP l) (hn : sumP l ≤ 1000000000) (hl : l.length ≤ 1000000)
  (hdel : DelE (qRem X g (w.heap.size + 1) w.heap.size fk caps) g (w.heap.size + 1) w.heap.size b gone) :
  Calls Tryz.prog 80 #[.pointer (some ⟨g, 0, none⟩), .func (.func fk) #[] caps] w fun e w' =>
   e = .returned (.int .i64 ((l.length : Int) - (l.filter fun p => !gone p).length)) ∧ Blk w' g 132 #[.int .i64 b, .int .i64 (sumP (l.filter fun p => !gone p)), .slice A (l.filter fun p => !gone p).length c] ∧ OwnR w' 0 138 encP 8 (.slice A (l.filter fun p => !gone p).length c) (l.filter fun p => !gone p) ∧ Foot (inBR g (.slice A l.length c)) w w' := by
 have hgl := hg.lt
 have hAl : ∀ k, (Value.slice A l.length c).ownBlock = some k → k < w.heap.size := fun k hk => (World.ownsRow.lt hr k hk).2
 have K0 := ((((Qs.nil w).cons (k := qF (inBR g (.slice A l.length c)) w) (Foot.refl _ _)).cons (k := qVw _ _ _ _ _ _) hr).cons (k := qB _ _ _) hg).cons (k := X) hX
 have K1 := (K0.box #[.pointer (some ⟨g, 0, none⟩)] 78).box #[.func (.func fk) #[] caps] 136
 simp only [World.size_alloc] at K1
 have HK := Lib.hid K1
 have hE : ∀ W, Qs W _ → (qRem X g (w.heap.size + 1) w.heap.size fk caps).P W := fun W (K : Qs W [qB (w.heap.size + 1) 136 #[.func (.func fk) #[] caps], qB w.heap.size 78 #[.pointer (some ⟨g, 0, none⟩)], X,
   qB g 132 #[.int .i64 b, .int .i64 (sumP l), .slice A l.length c], qVw 0 138 encP 8 (.slice A l.length c) l, qF (inBR g (.slice A l.length c)) w]) => by
  refine ((Qs.nil W).cons (K.get 2 rfl)).cons (K.get 0 rfl) |>.cons (K.get 1 rfl)
 have hEg : (qRem X g (w.heap.size + 1) w.heap.size fk caps).ap g := by
  refine ⟨?_, ?_, hXg, trivial⟩
  ·show w.heap.size ≠ g; omega
  ·show w.heap.size + 1 ≠ g; omega
 have hEA : ∀ k, (Value.slice A l.length c).ownBlock = some k → (qRem X g (w.heap.size + 1) w.heap.size fk caps).ap k := fun k hk => by
  have hkl := hAl k hk
  refine ⟨?_, ?_, hXA k hk, trivial⟩
  ·show w.heap.size ≠ k; omega
  ·show w.heap.size + 1 ≠ k; omega
 obtain ⟨L', hL'⟩ : ∃ L', L' = l.filter fun p => !gone p := ⟨_, rfl⟩
 have hlen : L'.length ≤ l.length := by rw [hL']; exact List.length_filter_le _ _
 have hD := fun (W : World) K => delf_any _ g (w.heap.size + 1) w.heap.size b _ hdel A c l W (hE W K) hEg hEA (K.get 3 rfl) (K.get 4 rfl) hok hn hl
 rw [← hL'] at hD ⊢
 have hD2 : ∀ (W : World), Qs W [qB (w.heap.size + 1) 136 #[.func (.func fk) #[] caps], qB w.heap.size 78 #[.pointer (some ⟨g, 0, none⟩)], X,
   qB g 132 #[.int .i64 b, .int .i64 (sumP l), .slice A l.length c], qVw 0 138 encP 8 (.slice A l.length c) l, qF (inBR g (.slice A l.length c)) w] →
   Calls Tryz.prog 100 #[.slice A l.length c, .func (.func 101) #[] #[.pointer (some ⟨w.heap.size + 1, 0, none⟩), .pointer (some ⟨w.heap.size, 0, none⟩)]] W fun e w' => e = .returned (.slice A L'.length c) ∧
    Qs w' [qB g 132 #[.int .i64 b, .int .i64 (sumP L'), .slice A l.length c], qVw 0 138 encP 8 (.slice A L'.length c) L', qB w.heap.size 78 #[.pointer (some ⟨g, 0, none⟩)], qF (inBR g (.slice A l.length c)) w] := fun W K => (hD W K).mono fun e w' ⟨he, h1, h2, h3⟩ => by
  have q1 : Qs w' [qB w.heap.size 78 #[.pointer (some ⟨g, 0, none⟩)], qF (inBR g (.slice A l.length c)) w] := Qs.foot (w := W) (((Qs.nil W).cons (K.get 5 rfl)).cons (K.get 1 rfl)) h3 (fun k hk => ⟨by
   show w.heap.size ≠ k
   rcases hk with rfl | hk
   ·omega
   ·have := hAl k hk; omega, .inl hk, trivial⟩)
  exact ⟨he, (q1.cons (k := qVw _ _ _ _ _ _) h2).cons (k := qB _ _ _) h1⟩
 have HD := Lib.hid hD2
 have HA := Lib.hid hAl
 have HX := Lib.hid hX
 clear hD hD2 hE hEg hEA hg hr hok K0 K1 hL' hdel hXg hXA hX hAl
 have C := HK.out.says
 simp only [sayAll, cellsSay, qB, qVw, qF, Nat.reduceAdd, and_true, true_and] at C
 have kA := keepA
 go_enter Tryz.func80, Tryz.ntmps80
 go_wp2_with fail
 go_upto_region 2 with fail
 go_cut [17] (fun s17 wx => s17 = .slice A L'.length c ∧ Hid (Qs wx [qB g 132 #[.int .i64 b, .int .i64 (sumP L'), .slice A L'.length c], qVw 0 138 encP 8 (.slice A L'.length c) L', qB w.heap.size 78 #[.pointer (some ⟨g, 0, none⟩)], qF (inBR g (.slice A l.length c)) w]))
 case first =>
  go_region_with (go_at_call 100; refine (HD.out _ HK.out.drew).mono ?_; rintro e w9 ⟨rfl, h9⟩; have H9 := Lib.hid h9; have C9 := h9.says; simp only [sayAll, cellsSay, qB, qVw, qF, Nat.reduceAdd, and_true, true_and] at C9; clear h9)
  all_goals
   clear C C9
   have K9 := H9.out.put 0 g [(2, .slice A L'.length c)] #[.int .i64 b, .int .i64 (sumP L'), .slice A L'.length c] (by
    simp only [apBut, apAll, qB, qVw, qF, and_true]; exact ⟨apart_WP (H9.out.blk 0) (H9.out.rowVw 1), by omega, .inl (.inl rfl)⟩)
   simp only [List.set] at K9
   go_wp2_with fail
   go_meet
   exact ⟨rfl, Lib.hid K9⟩
 case rest =>
  obtain ⟨rfl, HC⟩ := hcut
  clear C
  have C := HC.out.says
  simp only [sayAll, cellsSay, qB, qVw, qF, Nat.reduceAdd, and_true, true_and] at C
  go_wp2_with fail
  go_ret
  exact ⟨rfl, HC.out.blk 0, HC.out.rowVw 1, HC.out.tofoot 3⟩
theorem inBR_len {g k n m c d : Nat} {A : Option Addr} (h : inBR g (.slice A n c) k) : inBR g (.slice A m d) k := by
 cases A <;> exact h
structure WinO (w : World) (S : Nat → Prop) (g : Nat) (b : Int) (l : List PC) : Prop where
 low : ∀ k, S k → k < w.heap.size
 ex : ∃ A c, (∀ k, inBR g (.slice A l.length c) k → S k) ∧ Blk w g 132 #[.int .i64 b, .int .i64 (sumP l), .slice A l.length c] ∧ OwnR w 0 138 encP 8 (.slice A l.length c) l
theorem WinO.foot {w w' : World} {S S' : Nat → Prop} {g : Nat} {b : Int} {l : List PC} (h : WinO w S g b l) (f : Foot S' w w') (hS : ∀ k, S k → ¬ S' k) : WinO w' S g b l := by
 obtain ⟨A, c, hs, hg, hr⟩ := h.ex
 exact ⟨fun k hk => Nat.lt_of_lt_of_le (h.low k hk) f.size, A, c, hs, (f.block g hg.lt (hS g (hs g (.inl rfl)))).trans hg, own_of hr fun k hk => f.block k (World.ownsRow.lt hr k hk).2 (hS k (hs k (.inr hk)))⟩
theorem wack_any (S : Nat → Prop) (g se a0 a1 a2 : Nat) (b : Int) (l : List PC) (w : World) (h : WinO w S g b l) (hok : okP l) (hn : sumP l ≤ 1000000000) (hl : l.length ≤ 1000000) :
  Calls Tryz.prog 68 #[.pointer (some ⟨g, 0, none⟩), .int .u32 se, .agg #[.int .u32 a0, .int .u32 a1, .int .u32 a2]] w fun e w' =>
   e = .returned (.int .i64 ((l.length : Int) - (l.filter fun p => !goneA se a0 a2 p).length)) ∧ WinO w' S g b (l.filter fun p => !goneA se a0 a2 p) ∧ Aft S S w w' := by
 obtain ⟨A, c, hs, hg, hr⟩ := h.ex
 have hgl := hg.lt
 have hAl : ∀ k, (Value.slice A l.length c).ownBlock = some k → k < w.heap.size := fun k hk => (World.ownsRow.lt hr k hk).2
 have K1 := ((((Qs.nil w).cons (k := qVw _ _ _ _ _ _) hr).cons (k := qB _ _ _) hg).box #[.int .u32 se] 30).box #[.int .u32 a0, .int .u32 a1, .int .u32 a2] 40
 simp only [World.size_alloc] at K1
 have hR := rem_any g 81 #[.pointer (some ⟨w.heap.size, 0, none⟩), .pointer (some ⟨w.heap.size + 1, 0, none⟩)] (kL [qB (w.heap.size + 1) 40 #[.int .u32 a0, .int .u32 a1, .int .u32 a2], qB w.heap.size 30 #[.int .u32 se]]) (goneA se a0 a2) b A c l _ (((Qs.nil _).cons (K1.get 1 rfl)).cons (K1.get 0 rfl))
  ⟨by show w.heap.size + 1 ≠ g; omega, by show w.heap.size ≠ g; omega, trivial⟩ (fun k hk => ⟨by have := hAl k hk; show w.heap.size + 1 ≠ k; omega, by have := hAl k hk; show w.heap.size ≠ k; omega, trivial⟩) (K1.blk 2) (K1.rowVw 3) hok hn hl
  ((del_ack w.heap.size (w.heap.size + 1) _ _ g se a0 a1 a2 b).imp fun W (K : Qs W _) => by
   have hx : Qs W [qB (w.heap.size + 1) 40 #[.int .u32 a0, .int .u32 a1, .int .u32 a2], qB w.heap.size 30 #[.int .u32 se]] := K.get 2 rfl
   exact (hx.cons (K.get 1 rfl)).cons (K.get 0 rfl))
 have HR := Lib.hid hR
 have hl2 := h.low
 have HS := Lib.hid (And.intro hs hl2)
 clear hs hg hr hok hR K1 hAl h hl2
 go_enter Tryz.func68, Tryz.ntmps68
 go_wp2_with fail
 refine HR.out.mono ?_
 rintro e w1 ⟨rfl, h1, h2, h3⟩
 have H := Lib.hid (And.intro h1 (And.intro h2 h3))
 clear h1 h2 h3
 go_wp2_with fail
 go_ret
 obtain ⟨h1, h2, h3⟩ := H.out
 have hf : Foot S w w1 := (Foot.of_below ((below_alloc2 w (.cells #[.int .u32 se] 30) (.cells #[.int .u32 a0, .int .u32 a1, .int .u32 a2] 40)))).trans h3 (fun k hk => .inl (HS.out.1 k hk))
 exact ⟨rfl, ⟨fun k hk => Nat.lt_of_lt_of_le (HS.out.2 k hk) hf.size, A, c, fun k hk => HS.out.1 k (inBR_len hk), h1, h2⟩, hf, fun k hk => .inl hk⟩
theorem wdrop_any (S : Nat → Prop) (g se : Nat) (b : Int) (l : List PC) (w : World) (h : WinO w S g b l) (hok : okP l) (hn : sumP l ≤ 1000000000) (hl : l.length ≤ 1000000) :
  Calls Tryz.prog 71 #[.pointer (some ⟨g, 0, none⟩), .int .u32 se] w fun e w' =>
   e = .returned (.int .i64 ((l.length : Int) - (l.filter fun p => !goneD se p).length)) ∧ WinO w' S g b (l.filter fun p => !goneD se p) ∧ Aft S S w w' := by
 obtain ⟨A, c, hs, hg, hr⟩ := h.ex
 have hgl := hg.lt
 have hAl : ∀ k, (Value.slice A l.length c).ownBlock = some k → k < w.heap.size := fun k hk => (World.ownsRow.lt hr k hk).2
 have K1 := (((Qs.nil w).cons (k := qVw _ _ _ _ _ _) hr).cons (k := qB _ _ _) hg).box #[.int .u32 se] 30
 have hR := rem_any g 83 #[.pointer (some ⟨w.heap.size, 0, none⟩)] (kL [qB w.heap.size 30 #[.int .u32 se]]) (goneD se) b A c l _ ((Qs.nil _).cons (K1.get 0 rfl))
  ⟨by show w.heap.size ≠ g; omega, trivial⟩ (fun k hk => ⟨by have := hAl k hk; show w.heap.size ≠ k; omega, trivial⟩) (K1.blk 1) (K1.rowVw 2) hok hn hl
  ((del_drop w.heap.size _ _ g se b).imp fun W (K : Qs W _) => by
   have hx : Qs W [qB w.heap.size 30 #[.int .u32 se]] := K.get 2 rfl
   exact (hx.cons (K.get 1 rfl)).cons (K.get 0 rfl))
 have HR := Lib.hid hR
 have hl2 := h.low
 have HS := Lib.hid (And.intro hs hl2)
 clear hs hg hr hok hR K1 hAl h hl2
 go_enter Tryz.func71, Tryz.ntmps71
 go_wp2_with fail
 refine HR.out.mono ?_
 rintro e w1 ⟨rfl, h1, h2, h3⟩
 have H := Lib.hid (And.intro h1 (And.intro h2 h3))
 clear h1 h2 h3
 go_wp2_with fail
 go_ret
 obtain ⟨h1, h2, h3⟩ := H.out
 have hf : Foot S w w1 := (Foot.of_below (below_alloc w (.cells #[.int .u32 se] 30))).trans h3 (fun k hk => .inl (HS.out.1 k hk))
 exact ⟨rfl, ⟨fun k hk => Nat.lt_of_lt_of_le (HS.out.2 k hk) hf.size, A, c, fun k hk => HS.out.1 k (inBR_len hk), h1, h2⟩, hf, fun k hk => .inl hk⟩
end Go.Proofs.YtnjcdihgaidlbaaGreatDoor
set_option linter.unusedSimpArgs false
set_option linter.unusedVariables false
namespace Go.Proofs.YtnjcdihgaidlbaaGreatDoor
open Go.RowKit
set_option maxRecDepth 100000
theorem winnew_any (n : Int) (h1 : 1 ≤ n) (h2 : n ≤ 1048576) (w : World) :
  Calls Tryz.prog 30 #[.int .i64 n] w fun e w' => e = .returned (.pointer (some ⟨w.heap.size, 0, none⟩)) ∧ WinO w' (fun k => k = w.heap.size) w.heap.size n [] ∧ Below w.heap.size w w' :=
 (wnew_any n h1 h2 w).mono fun e w' ⟨he, hw⟩ => by
  subst hw
  refine ⟨he, ⟨fun k hk => by subst hk; simp, none, 0, fun k hk => ?_, Blk.new w _ _, OwnR.nil _ _ _ _ _⟩, below_alloc w _⟩
  rcases hk with h | h
  ·exact h
  ·cases h
theorem winin_any {S : Nat → Prop} {g : Nat} {b : Int} {l : List PC} {w : World} (h : WinO w S g b l) : Calls Tryz.prog 50 #[.pointer (some ⟨g, 0, none⟩)] w fun e w' => e = .returned (.int .i64 (sumP l)) ∧ w' = w := by
 obtain ⟨A, c, -, hg, -⟩ := h.ex
 exact win_in g b _ _ w hg
theorem winroom_any {S : Nat → Prop} {g : Nat} {b : Int} {l : List PC} {w : World} (h : WinO w S g b l) : Calls Tryz.prog 32 #[.pointer (some ⟨g, 0, none⟩)] w fun e w' => e = .returned (.bool (decide (sumP l < b))) ∧ Below w.heap.size w w' := by
 obtain ⟨A, c, -, hg, -⟩ := h.ex
 exact win_room g b _ _ w hg
def addB (b : Int) (l : List PC) (p : PC) : Bool := decide (1 ≤ p.n ∧ p.n ≤ 65536 ∧ sumP l < b)
def addL (b : Int) (l : List PC) (p : PC) : List PC := if addB b l p then l ++ [p] else l
theorem winadd_any (S : Nat → Prop) (g : Nat) (b : Int) (l : List PC) (p : PC) (w : World) (h : WinO w S g b l) (hb : b ≤ 1048576) (hok : okP l) (hl : l.length ≤ 1000000) :
  Calls Tryz.prog 58 #[.pointer (some ⟨g, 0, none⟩), .agg (encP p).toArray] w fun e w' => e = .returned (.bool (addB b l p)) ∧ ∃ S', WinO w' S' g b (addL b l p) ∧ Aft S S' w w' := by
 obtain ⟨A, c, hs, hg, hr⟩ := h.ex
 by_cases ha : 1 ≤ p.n ∧ p.n ≤ 65536 ∧ sumP l < b
 ·have h1 : addB b l p = true := decide_eq_true ha
  have h2 : addL b l p = l ++ [p] := by unfold addL; rw [h1, if_pos rfl]
  rw [h1, h2]
  refine (win_add g 0 c b (sumP l) A p l w hg hr ha.1 ha.2.1 ha.2.2 hb (sumP_nonneg l hok).1 hl (Nat.zero_le _)).mono ?_
  rintro e w' ⟨he, A', c', k1, k2, k3, k4⟩
  have hf : Foot S w w' := ⟨k3.os, k3.tape, k3.output, k3.size, fun k hk hn => k3.block k hk (fun e => hn (hs k (.inl e))) (fun e => hn (hs k (.inr e)))⟩
  refine ⟨he, fun k => S k ∨ inBR g (.slice A' (l.length + 1) c') k, ⟨fun k hk => ?_, A', c', fun k hk => .inr (inBR_len hk), ?_, ?_⟩, hf, fun k hk => ?_⟩
  ·rcases hk with hk | rfl | hk
   ·exact Nat.lt_of_lt_of_le (h.low k hk) k3.size
   ·exact k1.lt
   ·exact (World.ownsRow.lt k2 k hk).2
  ·rw [sumP_append, List.length_append]
   have : sumP [p] = p.n := by simp [sumP]
   rw [this]
   exact k1
  ·rw [List.length_append]; exact k2
  ·rcases hk with hk | rfl | hk
   ·exact .inl hk
   ·exact .inl (hs k (.inl rfl))
   ·rcases k4 k hk with h5 | h5
    ·exact .inl (hs k (.inr h5))
    ·exact .inr h5
 ·have h1 : addB b l p = false := decide_eq_false ha
  have h2 : addL b l p = l := by unfold addL; rw [h1]; rfl
  rw [h1, h2]
  refine (win_add_no g b (sumP l) _ p w hg (by omega)).mono ?_
  rintro e w' ⟨he, hb⟩
  exact ⟨he, S, h.foot (Foot.of_below (S := fun _ => False) hb) (fun _ _ e => e), Foot.of_below hb, fun k hk => .inl hk⟩
theorem addB_ok {b : Int} {l : List PC} {p : PC} (hok : okP l) : okP (addL b l p) := by
 unfold addL
 split
 ·rename_i h
  have := of_decide_eq_true h
  intro q hq
  rcases List.mem_append.1 hq with hq | hq
  ·exact hok q hq
  ·rw [List.mem_singleton.1 hq]; exact ⟨this.1, this.2.1⟩
 ·exact hok
end Go.Proofs.YtnjcdihgaidlbaaGreatDoor
