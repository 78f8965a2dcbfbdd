/- Joined: Win3, Win4, Win5. -/
import Derived.Test.YtnjcdihgaidlbaaGreatDoorQ22
import Derived.Deep.RegionHeld3
import Derived.Deep.AppendLies
import Derived.Deep.RegionLaw
set_option linter.unusedSimpArgs false
set_option linter.unusedVariables false
set_option linter.unusedSimpArgs false
set_option linter.unusedVariables false
namespace Go.Proofs.YtnjcdihgaidlbaaGreatDoor
open Go.RowKit
set_option maxRecDepth 100000
structure PC where
 (se f0 f1 f2 t0 t1 t2 : Nat)
 n : Int
def encP (p : PC) : List Value := [.int .u32 p.se, .int .u32 p.f0, .int .u32 p.f1, .int .u32 p.f2, .int .u32 p.t0, .int .u32 p.t1, .int .u32 p.t2, .int .i64 p.n]
theorem Tryz.eltP : Elt Tryz.prog 130 138 encP 8 40 := ⟨Tryz.underlying130, ⟨.agg #[.int .u32 0, .int .u32 0, .int .u32 0, .int .u32 0, .int .u32 0, .int .u32 0, .int .u32 0, .int .i64 0], by kernel_rfl, rfl⟩, by decide, fun _ => rfl, fun x v h => by
 simp [encP] at h; rcases h with rfl | rfl | rfl | rfl | rfl | rfl | rfl | rfl <;> rfl⟩
structure Tw (g : Nat) (V : Value) (w w' : World) : Prop where
 os : w'.os = w.os
 tape : w'.tape = w.tape
 output : w'.output = w.output
 size : w.heap.size ≤ w'.heap.size
 block : ∀ k, k < w.heap.size → k ≠ g → V.ownBlock ≠ some k → w'.heap[k]? = w.heap[k]?
def qT (g : Nat) (V : Value) (w0 : World) : Kq := ⟨fun w => Tw g V w0 w, fun k => k = g ∨ V.ownBlock = some k ∨ w0.heap.size ≤ k, fun w => w0.heap.size ≤ w.heap.size, (fun w w' r h hg ha => ⟨hg.os.trans h.os, hg.tape.trans h.tape, hg.output.trans h.output, Nat.le_trans h.size hg.size, fun k hk h1 h2 => (hg.block k (Nat.lt_of_lt_of_le hk h.size) (fun e => by
 rcases ha k e.symm with h3 | h3 | h3
 ·exact h1 h3
 ·exact h2 h3
 ·omega)).trans (h.block k hk h1 h2)⟩), fun _ h => h.size⟩
theorem Tw.refl (g : Nat) (V : Value) (w : World) : Tw g V w w := ⟨rfl, rfl, rfl, Nat.le_refl _, fun _ _ _ _ => rfl⟩
theorem win_add_no (g : Nat) (b n : Int) (V : Value) (p : PC) (w : World) (h : Blk w g 132 #[.int .i64 b, .int .i64 n, V]) (hno : p.n < 1 ∨ 65536 < p.n ∨ b ≤ n) :
  Calls Tryz.prog 58 #[.pointer (some ⟨g, 0, none⟩), .agg (encP p).toArray] w fun e w' => e = .returned (.bool false) ∧ Below w.heap.size w w' := by
 obtain ⟨se, f0, f1, f2, t0, t1, t2, pn⟩ := p
 simp only [encP] at hno ⊢
 have HK := Lib.hid (((Qs.zero w).cons (k := qB _ _ _) h).box #[.int .u32 se, .int .u32 f0, .int .u32 f1, .int .u32 f2, .int .u32 t0, .int .u32 t1, .int .u32 t2, .int .i64 pn] 138)
 clear h
 by_cases k1 : pn < 1
 ·go_enter Tryz.func58, Tryz.ntmps58
  go_wp2_with fail
  go_ret
  exact ⟨rfl, HK.out.top 2⟩
 ·by_cases k2 : 65536 < pn
  ·go_enter Tryz.func58, Tryz.ntmps58
   go_wp2_with fail
   go_ret
   exact ⟨rfl, HK.out.top 2⟩
  ·have hd : decide (n < b) = false := decide_eq_false (by omega)
   go_enter Tryz.func58, Tryz.ntmps58
   go_wp2_with fail
   refine (win_room g b n V _ (HK.out.blk 1)).mono ?_
   rintro e w1 ⟨rfl, b1⟩
   rw [hd]
   go_wp2_with fail
   go_ret
   exact ⟨rfl, on1 (HK.out.top 2) b1⟩
theorem win_add (g b0 c0 : Nat) (b n : Int) (A : Option Addr) (p : PC) (l : List PC) (w : World) (h : Blk w g 132 #[.int .i64 b, .int .i64 n, .slice A l.length c0]) (hr : OwnR w b0 138 encP 8 (.slice A l.length c0) l)
  (h1 : 1 ≤ p.n) (h2 : p.n ≤ 65536) (h3 : n < b) (h4 : b ≤ 1048576) (h5 : 0 ≤ n) (hl : l.length ≤ 1000000) (hb0 : b0 ≤ w.heap.size) :
  Calls Tryz.prog 58 #[.pointer (some ⟨g, 0, none⟩), .agg (encP p).toArray] w fun e w' => e = .returned (.bool true) ∧ ∃ A' c', Blk w' g 132 #[.int .i64 b, .int .i64 (n + p.n), .slice A' (l.length + 1) c'] ∧
   OwnR w' b0 138 encP 8 (.slice A' (l.length + 1) c') (l ++ [p]) ∧ Tw g (.slice A l.length c0) w w' ∧ (∀ k, (Value.slice A' (l.length + 1) c').ownBlock = some k → (Value.slice A l.length c0).ownBlock = some k ∨ w.heap.size ≤ k) := by
 obtain ⟨se, f0, f1, f2, t0, t1, t2, pn⟩ := p
 obtain ⟨m, hm⟩ : ∃ m, m = l.length := ⟨_, rfl⟩
 rw [← hm] at h hr hl ⊢
 simp only [encP] at h1 h2 ⊢
 have hgV : (Value.slice A m c0).ownBlock ≠ some g := fun e => by
  obtain ⟨cs, hc⟩ : ∃ cs, Blk w g 138 cs := by
   rcases hr.2 with ⟨e0, _⟩ | ⟨k, cap, cur, e0, _, hgg, _⟩
   ·injection e0 with e1; rw [e1] at e; cases e
   ·injection e0 with e1; rw [e1] at e; injection e with e; subst e; exact ⟨cur, hgg⟩
  have := Option.some.inj (h.symm.trans hc)
  injection this with _ e2 _
  exact absurd e2 (by decide)
 have K := (((Qs.nil w).cons (k := qT g (.slice A m c0) w) (Tw.refl _ _ _)).cons (k := qB _ _ _) h).box #[.int .u32 se, .int .u32 f0, .int .u32 f1, .int .u32 f2, .int .u32 t0, .int .u32 t1, .int .u32 t2, .int .i64 pn] 138
 have HK := Lib.hid K
 have hlt := h.lt
 have hok : ∀ k, (Value.slice A m c0).ownBlock = some k → k < w.heap.size := fun k e => (World.ownsRow.lt hr k e).2
 have Hok := Lib.hid hok
 clear h K hok
 have k1 : ¬ pn < 1 := by omega
 have k2 : ¬ (65536 : Int) < pn := by omega
 have hd : decide (n < b) = true := decide_eq_true h3
 have Hr := Lib.hid hr
 have HgV := Lib.hid hgV
 have Hm := Lib.hid hm
 clear hr hgV hm
 go_enter Tryz.func58, Tryz.ntmps58
 go_wp2_with fail
 refine (win_room g b n _ _ (HK.out.blk 1)).mono ?_
 rintro e w1 ⟨rfl, b1⟩
 rw [hd]
 have HK1 := Lib.hid (HK.out.go b1)
 have HR1 := Lib.hid ((Hr.out.alloc _).below b1)
 have C := HK1.out.says
 simp only [sayAll, cellsSay, qB, qT, qW, qR, qZ, Nat.reduceAdd, and_true, true_and] at C
 clear HK Hr b1
 go_wp2_with fail
 obtain ⟨i, hi, hz, hsz, hby⟩ := info_parts (show (Tryz.prog.info? 138).map (fun i => (i.zero, i.size, i.bytes)) = some (some (.agg #[.int .u32 0, .int .u32 0, .int .u32 0, .int .u32 0, .int .u32 0, .int .u32 0, .int .u32 0, .int .i64 0]), 8, 40) by kernel_rfl)
 have z1 : w.heap.size < w1.heap.size := (HK1.out.blk 0).lt
 have hcell : ∀ j u, (encP ⟨se, f0, f1, f2, t0, t1, t2, pn⟩)[j]? = some u → (w1.alloc (.cells (encP ⟨se, f0, f1, f2, t0, t1, t2, pn⟩).toArray 138)).cell? ((⟨w1.heap.size, 0, none⟩ : Addr).add j) = some u := fun j u hj => by
  rw [show (⟨w1.heap.size, 0, none⟩ : Addr).add j = ⟨w1.heap.size, j, none⟩ from by cases j <;> simp [Addr.add], (Blk.new w1 138 (encP ⟨se, f0, f1, f2, t0, t1, t2, pn⟩).toArray).cell]
  simpa using hj
 have Hcell := Lib.hid hcell
 clear hcell
 have kA := keepA w1
 go_region_law (refine step_append_lies _ rfl (.tmp 22) (.tmp 24) 130 rfl b0 138 i (.agg #[.int .u32 0, .int .u32 0, .int .u32 0, .int .u32 0, .int .u32 0, .int .u32 0, .int .u32 0, .int .i64 0]) 8 40 Tryz.underlying130 hi hz hsz hby rfl (by decide) (.slice A m c0) l.length (l.flatMap encP) (by simp [Act.eval, Act.put]) (HR1.out.drew.alloc _) ⟨w1.heap.size, 0, none⟩ 1 1 (encP ⟨se, f0, f1, f2, t0, t1, t2, pn⟩) (by simp [Act.eval, Act.put]) rfl (Hcell.out) (fun u hu => (Tryz.eltP.one _ u hu)) (by decide) (by rw [← Hm.out]; unfold maxLen; omega) (by rw [← Hm.out]; omega) (by simp; omega) (w1.heap.size + 1) (by simp) ?_; intro g2 c2 w2 hown2 hgr2 hor2 hlt2; have HK2 := Lib.hid ((HK1.out.drew.alloc _).grow hgr2 (fun k e => by have := Hok.out k e; have h9 : k ≠ g := fun e2 => HgV.out (e2 ▸ e); simp only [apAll, qB, qT, e, true_or, or_true, and_true]; omega)); have C2 := HK2.out.says; simp only [sayAll, cellsSay, qB, qT, qW, qR, qZ, Nat.reduceAdd, and_true, true_and] at C2)
 all_goals
  generalize hW3 : World.setCell _ _ _ = W3
  have K3 := HK2.out.putTo 1 g [(2, .slice (some ⟨g2, 0, none⟩) (l.length + 1) c2)] #[.int .i64 b, .int .i64 n, .slice (some ⟨g2, 0, none⟩) (l.length + 1) c2] hW3 (by simp only [apBut, apAll, qB, qT, true_or, and_true]; omega)
  simp only [List.set] at K3
  have hg2 : (Value.slice (some ⟨g2, 0, none⟩) (l.length + 1) c2).ownBlock ≠ some g := fun e => by
   have e2 : g2 = g := by simpa [Value.ownBlock] using e
   rcases hor2 with h9 | h9
   ·exact HgV.out (by rw [h9, e2])
   ·omega
  have hrow : OwnR W3 b0 138 encP 8 (.slice (some ⟨g2, 0, none⟩) (l.length + 1) c2) (l ++ [⟨se, f0, f1, f2, t0, t1, t2, pn⟩]) := by
   have h9 : OwnR w2 b0 138 encP 8 (.slice (some ⟨g2, 0, none⟩) (l.length + 1) c2) (l ++ [⟨se, f0, f1, f2, t0, t1, t2, pn⟩]) := by
    unfold OwnR
    rw [List.length_append, List.flatMap_append]
    simpa using hown2
   rw [← hW3]
   exact OwnR.far (p := ⟨g, 2, none⟩) h9 hg2 _
  have hgg : (Value.slice (some ⟨g2, 0, none⟩) (l.length + 1) c2).ownBlock ≠ some (⟨g, 1, none⟩ : Addr).block := hg2
  have HK3 := Lib.hid K3
  have HR3 := Lib.hid hrow
  have Hgg := Lib.hid hgg
  have Hor2 : Hid (∀ k, (Value.slice (some ⟨g2, 0, none⟩) (l.length + 1) c2).ownBlock = some k → (Value.slice A m c0).ownBlock = some k ∨ w.heap.size ≤ k) := Lib.hid (fun k e => by
   have e2 : g2 = k := by simpa [Value.ownBlock] using e
   subst e2
   rcases hor2 with h9 | h9
   ·exact .inl h9
   ·exact .inr (by omega))
  clear hW3 C C2 K3 hrow hgg hg2 hown2 hgr2 hor2 HK2 HR1 HK1 Hcell kA hi hz hsz hby
  have C := HK3.out.says
  simp only [sayAll, cellsSay, qB, qT, qW, qR, qZ, Nat.reduceAdd, and_true, true_and] at C
  go_wp2_with fail
  go_region_with (go_at_call 75; refine (aadd_any ⟨g, 1, none⟩ n pn _ ((HK3.out.drew.blk 1).cell 1) ((HK3.out.drew.blk 1).frozen 1) (by omega)).mono ?_; rintro e w9 ⟨rfl, rfl⟩)
  go_wp2_with fail
  go_ret
  have K4 := HK3.out.drew.put 1 g [(1, .int .i64 (n + pn))] #[.int .i64 b, .int .i64 (n + pn), .slice (some ⟨g2, 0, none⟩) (l.length + 1) c2] (by simp only [apBut, apAll, qB, qT, true_or, and_true]; omega)
  simp only [List.set] at K4
  rw [Hm.out]
  exact ⟨rfl, _, _, K4.blk 1, OwnR.far (p := ⟨g, 1, none⟩) HR3.out.drew Hgg.out _, by have := K4.get 2 rfl; rw [Hm.out] at this; exact this, by have := Hor2.out; rw [Hm.out] at this; exact this⟩
end Go.Proofs.YtnjcdihgaidlbaaGreatDoor
set_option linter.unusedSimpArgs false
set_option linter.unusedVariables false
namespace Go.Proofs.YtnjcdihgaidlbaaGreatDoor
open Go.RowKit
set_option maxRecDepth 100000
def goneA (se t0 t2 : Nat) (p : PC) : Bool := decide (p.se = se) && !(bef t0 t2 p.t0 p.t2)
def goneD (se : Nat) (p : PC) : Bool := decide (p.se = se)
theorem ack1_any (s u : Nat) (se a0 a1 a2 : Nat) (p : PC) (w : World) (hs : Blk w s 30 #[.int .u32 se]) (hu : Blk w u 40 #[.int .u32 a0, .int .u32 a1, .int .u32 a2]) :
  Calls Tryz.prog 81 #[.agg (encP p).toArray, .pointer (some ⟨s, 0, none⟩), .pointer (some ⟨u, 0, none⟩)] w fun e w' => e = .returned (.bool (goneA se a0 a2 p)) ∧ Below w.heap.size w w' := by
 obtain ⟨ps, f0, f1, f2, t0, t1, t2, pn⟩ := p
 simp only [encP, goneA]
 have K := (((Qs.zero w).cons (k := qB _ _ _) hs).cons (k := qB _ _ _) hu).box #[.int .u32 ps, .int .u32 f0, .int .u32 f1, .int .u32 f2, .int .u32 t0, .int .u32 t1, .int .u32 t2, .int .i64 pn] 138
 have HK := Lib.hid K
 have C := K.says
 simp only [sayAll, cellsSay, qB, qW, qR, qZ, Nat.reduceAdd, and_true, true_and] at C
 clear K hs hu
 by_cases k : ps = se
 ·subst k
  rw [decide_eq_true rfl, Bool.true_and]
  have hB := fun (W : World) => before_any a0 a1 a2 t0 t1 t2 W
  generalize bef a0 a2 t0 t2 = r at hB ⊢
  have HB := Lib.hid hB
  clear hB
  go_enter Tryz.func81, Tryz.ntmps81
  go_wp2_with fail
  refine (HB.out _).mono ?_
  rintro e w1 ⟨rfl, b1⟩
  clear C
  go_wp2_with fail
  go_ret
  exact ⟨rfl, on1 (HK.out.top 3) b1⟩
 ·have k2 : ((ps : Int) == (se : Int)) = false := beq_eq_false_iff_ne.2 (by omega)
  rw [decide_eq_false k, Bool.false_and]
  clear k
  go_enter Tryz.func81, Tryz.ntmps81
  go_wp2_with fail
  go_ret
  exact ⟨rfl, HK.out.top 3⟩
theorem drop1_any (s : Nat) (se : Nat) (p : PC) (w : World) (hs : Blk w s 30 #[.int .u32 se]) :
  Calls Tryz.prog 83 #[.agg (encP p).toArray, .pointer (some ⟨s, 0, none⟩)] w fun e w' => e = .returned (.bool (goneD se p)) ∧ Below w.heap.size w w' := by
 obtain ⟨ps, f0, f1, f2, t0, t1, t2, pn⟩ := p
 simp only [encP, goneD]
 have K := ((Qs.zero w).cons (k := qB _ _ _) hs).box #[.int .u32 ps, .int .u32 f0, .int .u32 f1, .int .u32 f2, .int .u32 t0, .int .u32 t1, .int .u32 t2, .int .i64 pn] 138
 have HK := Lib.hid K
 have C := K.says
 simp only [sayAll, cellsSay, qB, qW, qR, qZ, Nat.reduceAdd, and_true, true_and] at C
 clear K hs
 by_cases k : ps = se
 ·subst k
  rw [decide_eq_true rfl]
  go_enter Tryz.func83, Tryz.ntmps83
  go_wp2_with fail
  go_ret
  exact ⟨by simp, HK.out.top 2⟩
 ·have k2 : ((ps : Int) == (se : Int)) = false := beq_eq_false_iff_ne.2 (by omega)
  rw [decide_eq_false k]
  clear k
  go_enter Tryz.func83, Tryz.ntmps83
  go_wp2_with fail
  go_ret
  exact ⟨rfl, HK.out.top 2⟩
end Go.Proofs.YtnjcdihgaidlbaaGreatDoor
set_option linter.unusedSimpArgs false
set_option linter.unusedVariables false
namespace Go.Proofs.YtnjcdihgaidlbaaGreatDoor
open Go.RowKit
set_option maxRecDepth 100000
theorem rem1_ack (s u q1 q2 g : Nat) (se a0 a1 a2 : Nat) (b n : Int) (V : Value) (p : PC) (w : World) (hs : Blk w s 30 #[.int .u32 se]) (hu : Blk w u 40 #[.int .u32 a0, .int .u32 a1, .int .u32 a2])
  (h1 : Blk w q1 136 #[.func (.func 81) #[] #[.pointer (some ⟨s, 0, none⟩), .pointer (some ⟨u, 0, none⟩)]]) (h2 : Blk w q2 78 #[.pointer (some ⟨g, 0, none⟩)])
  (h : Blk w g 132 #[.int .i64 b, .int .i64 n, V]) (hp : 0 ≤ p.n ∧ p.n ≤ n) (hn : n ≤ 1000000000000) :
  Calls Tryz.prog 101 #[.agg (encP p).toArray, .pointer (some ⟨q1, 0, none⟩), .pointer (some ⟨q2, 0, none⟩)] w fun e w' => e = .returned (.bool (goneA se a0 a2 p)) ∧
   ((goneA se a0 a2 p = false ∧ Below w.heap.size w w') ∨ (goneA se a0 a2 p = true ∧ ∃ w2, Below w.heap.size w w2 ∧ w' = w2.setCell ⟨g, 1, none⟩ (.int .i64 (n - p.n)))) := by
 obtain ⟨ps, f0, f1, f2, t0, t1, t2, pn⟩ := p
 have K := ((((((Qs.zero w).cons (k := qB _ _ _) hs).cons (k := qB _ _ _) hu).cons (k := qB _ _ _) h1).cons (k := qB _ _ _) h2).cons (k := qB _ _ _) h).box #[.int .u32 ps, .int .u32 f0, .int .u32 f1, .int .u32 f2, .int .u32 t0, .int .u32 t1, .int .u32 t2, .int .i64 pn] 138
 have HK := Lib.hid K
 have C := K.says
 simp only [sayAll, cellsSay, qB, qW, qR, qZ, Nat.reduceAdd, and_true, true_and] at C
 dsimp only at hp
 have hA := fun (W : World) (hs : Blk W s 30 #[.int .u32 se]) (hu : Blk W u 40 #[.int .u32 a0, .int .u32 a1, .int .u32 a2]) => ack1_any s u se a0 a1 a2 ⟨ps, f0, f1, f2, t0, t1, t2, pn⟩ W hs hu
 generalize goneA se a0 a2 ⟨ps, f0, f1, f2, t0, t1, t2, pn⟩ = r at hA ⊢
 simp only [encP] at hA ⊢
 have HA := Lib.hid hA
 clear K hs hu h1 h2 h hA
 go_enter Tryz.func101, Tryz.ntmps101
 go_wp2_with fail
 refine (HA.out _ (HK.out.blk 5) (HK.out.blk 4)).mono ?_
 rintro e w1 ⟨rfl, b1⟩
 have HK1 := Lib.hid (HK.out.go b1)
 clear C b1 HK
 have C := HK1.out.says
 simp only [sayAll, cellsSay, qB, qW, qR, qZ, Nat.reduceAdd, and_true, true_and] at C
 cases r
 ·go_wp2_with fail
  go_ret
  first | exact ⟨rfl, .inl ⟨rfl, HK1.out.top 6⟩⟩ | exact ⟨rfl, HK1.out.top 6⟩
 ·have hw : IntKind.i64.wrap (-pn) = -pn := by rw [IntKind.wrap_i64]; omega
  go_wp2_with fail
  go_region_with (go_at_call 75; refine (aadd_any ⟨g, 1, none⟩ n (-pn) _ ((HK1.out.drew.blk 1).cell 1) ((HK1.out.drew.blk 1).frozen 1) (by omega)).mono ?_; rintro e w9 ⟨rfl, rfl⟩)
  all_goals
   go_wp2_with fail
   go_ret
   exact ⟨rfl, w1.drew, HK1.out.drew.top 6, by rw [Int.sub_eq_add_neg]; rfl⟩
theorem rem1_drop (s q1 q2 g : Nat) (se : Nat) (b n : Int) (V : Value) (p : PC) (w : World) (hs : Blk w s 30 #[.int .u32 se])
  (h1 : Blk w q1 136 #[.func (.func 83) #[] #[.pointer (some ⟨s, 0, none⟩)]]) (h2 : Blk w q2 78 #[.pointer (some ⟨g, 0, none⟩)])
  (h : Blk w g 132 #[.int .i64 b, .int .i64 n, V]) (hp : 0 ≤ p.n ∧ p.n ≤ n) (hn : n ≤ 1000000000000) :
  Calls Tryz.prog 101 #[.agg (encP p).toArray, .pointer (some ⟨q1, 0, none⟩), .pointer (some ⟨q2, 0, none⟩)] w fun e w' => e = .returned (.bool (goneD se p)) ∧
   ((goneD se p = false ∧ Below w.heap.size w w') ∨ (goneD se p = true ∧ ∃ w2, Below w.heap.size w w2 ∧ w' = w2.setCell ⟨g, 1, none⟩ (.int .i64 (n - p.n)))) := by
 obtain ⟨ps, f0, f1, f2, t0, t1, t2, pn⟩ := p
 have K := (((((Qs.zero w).cons (k := qB _ _ _) hs).cons (k := qB _ _ _) h1).cons (k := qB _ _ _) h2).cons (k := qB _ _ _) h).box #[.int .u32 ps, .int .u32 f0, .int .u32 f1, .int .u32 f2, .int .u32 t0, .int .u32 t1, .int .u32 t2, .int .i64 pn] 138
 have HK := Lib.hid K
 have C := K.says
 simp only [sayAll, cellsSay, qB, qW, qR, qZ, Nat.reduceAdd, and_true, true_and] at C
 dsimp only at hp
 have hA := fun (W : World) (hs : Blk W s 30 #[.int .u32 se]) => drop1_any s se ⟨ps, f0, f1, f2, t0, t1, t2, pn⟩ W hs
 generalize goneD se ⟨ps, f0, f1, f2, t0, t1, t2, pn⟩ = r at hA ⊢
 simp only [encP] at hA ⊢
 have HA := Lib.hid hA
 clear K hs h1 h2 h hA
 go_enter Tryz.func101, Tryz.ntmps101
 go_wp2_with fail
 refine (HA.out _ (HK.out.blk 4)).mono ?_
 rintro e w1 ⟨rfl, b1⟩
 have HK1 := Lib.hid (HK.out.go b1)
 clear C b1 HK
 have C := HK1.out.says
 simp only [sayAll, cellsSay, qB, qW, qR, qZ, Nat.reduceAdd, and_true, true_and] at C
 cases r
 ·go_wp2_with fail
  go_ret
  first | exact ⟨rfl, .inl ⟨rfl, HK1.out.top 5⟩⟩ | exact ⟨rfl, HK1.out.top 5⟩
 ·have hw : IntKind.i64.wrap (-pn) = -pn := by rw [IntKind.wrap_i64]; omega
  go_wp2_with fail
  go_region_with (go_at_call 75; refine (aadd_any ⟨g, 1, none⟩ n (-pn) _ ((HK1.out.drew.blk 1).cell 1) ((HK1.out.drew.blk 1).frozen 1) (by omega)).mono ?_; rintro e w9 ⟨rfl, rfl⟩)
  all_goals
   go_wp2_with fail
   go_ret
   exact ⟨rfl, w1.drew, HK1.out.drew.top 5, by rw [Int.sub_eq_add_neg]; rfl⟩
end Go.Proofs.YtnjcdihgaidlbaaGreatDoor
