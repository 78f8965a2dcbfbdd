/- Joined: Tail, Frs, Frt, AppR, Frw, Frv. -/
import Derived.Test.YtmcdollkmlcpbaaGreatDoorQ7
import Derived.StillTail
set_option linter.unusedSimpArgs false
set_option linter.unusedVariables false
namespace Go.Proofs.YtmcdollkmlcpbaaGreatDoor
open Go.RowKit
section
variable {P : Program} {md : Region.Mode} {ops : Array Oper} {C : World → Prop}
def headIn (P : Program) (md : Region.Mode) (ops : Array Oper) (C : World → Prop) (n : Nat) (L : Array Bool → Act → Prop) : Nat → Array Bool → Act → Prop
 | 0, seen, a => L seen a
 | f + 1, seen, a => Region.ready md ops seen ≠ [] ∧ ∀ i ∈ Region.ready md ops seen, i < n ∧ qOp P ops C i (headIn P md ops C n L f (seen.setIfInBounds i true)) a
theorem any_of_headIn {n g : Nat} {L : Array Bool → Act → Prop} {Q' : Exit → Act → World → Prop} (hL : ∀ seen a w, C w → L seen a → wpAny P md ops Q' g seen a w) (f : Nat) :
  ∀ (seen : Array Bool) (a : Act) (w : World), C w → headIn P md ops C n L f seen a → wpAny P md ops Q' (f + g) seen a w := by
 induction f with
 | zero => intro seen a w hw h; rw [Nat.zero_add]; exact hL seen a w hw h
 | succ f ih =>
  intro seen a w hw h
  rw [show f + 1 + g = (f + g) + 1 by omega]
  exact ⟨fun h0 => absurd h0 h.1, fun i hi => wpOp_of_qOp hw (fun a' w' hw' h' => ih _ a' w' hw' h') (h.2 i hi).2⟩
theorem headIn_first {n i : Nat} {oi : Oper} {v : Value} {L : Array Bool → Act → Prop} (hi : ops[i]? = some oi) (hsel : ∀ (j : Nat) (o : Oper) cs b, ops[j]? = some o → o.op ≠ .select cs b)
  (hs : Region.sinkB md ops n = true) (hc : Region.chainB md ops n = true) (hn : n < ops.size) (hin : i < n)
  (hdone : ∀ seen a, L seen a → ∀ j ∈ Region.ready md ops seen, n ≤ j) (f : Nat) :
  ∀ (seen : Array Bool) (a : Act), HeadInv md ops n seen →
   (∀ j oj, ops[j]? = some oj → j ≠ i → seen.getD j true = false → (∀ e ∈ oj.after, Region.binds md e = true → e.on ≠ i) → oi.apart ops oj = true) →
   i ∈ Region.ready md ops seen → YieldsIn P ops C oi v a →
   headIn P md ops C n L f (seen.setIfInBounds i true) (a.put oi.dst v) → headIn P md ops C n L (f + 1) seen a := by
 induction f with
 | zero =>
  intro seen a inv _ hr hy H
  have hun := (mem_ready.1 hr).1
  refine ⟨fun h => (by rw [h] at hr; cases hr), fun j hj => ?_⟩
  have hjn : j < n := by
   apply Classical.byContradiction
   intro h
   exact tail_waits hs hc hn inv _ i rfl hin hun j (by omega) hj
  refine ⟨hjn, ?_⟩
  rcases Classical.em (j = i) with hji | hji
  ·subst hji; exact hy.qOp hi H
  ·have := hdone _ _ H j (ready_mono hj hji)
   omega
 | succ f ih =>
  intro seen a inv hfree hr hy H
  have hun := (mem_ready.1 hr).1
  refine ⟨fun h => (by rw [h] at hr; cases hr), fun j hj => ?_⟩
  have hjn : j < n := by
   apply Classical.byContradiction
   intro h
   exact tail_waits hs hc hn inv _ i rfl hin hun j (by omega) hj
  refine ⟨hjn, ?_⟩
  rcases Classical.em (j = i) with hji | hji
  ·subst hji; exact hy.qOp hi H
  ·have h1 := (H.2 j (ready_mono hj hji)).2
   obtain ⟨hjun, oj, hoj, hall⟩ := mem_ready.1 hj
   have hnot : ∀ e ∈ oj.after, Region.binds md e = true → e.on ≠ i := fun e he hb heq => by
    have h1 := hall e he hb
    rw [heq, getD_both hun] at h1
    cases h1
   have h2 := qOp_put hoj (hfree j oj hoj hji hjun hnot) (fun cs b => hsel i oi cs b hi) (fun cs b => hsel j oj cs b hoj) hy h1
   refine qOp_mono (fun a' h3 => ih (seen.setIfInBounds j true) a' (inv.set hj hjn) (fun k ok hk hki hun' hno => hfree k ok hk hki ?_ hno) (ready_mono hr (Ne.symm hji)) h3.1 ?_) h2
   ·rcases Classical.em (j = k) with hjk | hjk
    ·subst hjk; exact hjun
    ·rw [getD_set_ne true hjk] at hun'; exact hun'
   ·rw [Array.setIfInBounds_comm _ _ hji]
    exact h3.2
theorem headIn_lex {n g : Nat} {Lq : Act → Prop} (hsel : Region.noSelect ops = true) (hs : Region.sinkB md ops n = true) (hc : Region.chainB md ops n = true) (hn : n < ops.size) (l : List Oper) :
  ∀ (k : Nat) (seen : Array Bool) (a : Act), (∀ j, j < l.length → l[j]? = ops[k + j]?) → k + l.length = n → HeadInv md ops n seen →
  Region.lexHead md ops g l.length k seen = true → wpQuiet P ops C Lq l a →
  headIn P md ops C n (fun seen' a' => Region.seqB md ops g n seen' = true ∧ Lq a') l.length seen a := by
 induction l with
 | nil =>
  intro k seen a _ hk _ hB h
  have : k = n := by simpa using hk
  subst this
  exact ⟨by simpa [Region.lexHead] using hB, h⟩
 | cons o l ih =>
  intro k seen a hl hk inv hB h
  have h0 : ops[k]? = some o := by simpa using (hl 0 (by simp)).symm
  simp only [List.length_cons, Region.lexHead, Bool.and_eq_true] at hB
  obtain ⟨⟨hr, hf⟩, hB'⟩ := hB
  have hkn : k < n := by simp only [List.length_cons] at hk; omega
  have hr' : k ∈ Region.ready md ops seen := by simpa using hr
  have hst : qOp P ops C k (wpQuiet P ops C Lq l) a := by unfold qOp; simp only [h0]; exact h
  obtain ⟨v, hy, hK⟩ := yieldsIn_of_qOp h0 hst
  exact headIn_first h0 (Region.noSelect_spec hsel) hs hc hn hkn (fun seen' a' hL => seqB_ready hL.1) l.length seen a inv (Region.free_spec h0 hf) hr' hy
   (ih (k + 1) _ _ (fun j hj => by have := hl (j + 1) (by simp; omega); simpa [Nat.add_assoc, Nat.add_comm 1 j] using this) (by simp only [List.length_cons] at hk; omega) (inv.set hr' hkn) hB' hK)
theorem wp_region_tail {id : Nat} {Q : Exit → Act → World → Prop} {a : Act} {w : World} {l : List Oper} (n : Nat) (hm : P.follows .mixedOrders = true) (hB : Region.lexTailB .any l.toArray n = true) (hC : C { w with drawn := w.drawn + 1 })
  (h : wpQuiet P l.toArray C (fun a' => ∀ w', C w' → wpList P l.toArray Q (l.drop n) a' w') (l.take n) a) : (Code.region id l.toArray true).wp P Q a w := by
 simp only [Region.lexTailB, Bool.and_eq_true, decide_eq_true_eq] at hB
 obtain ⟨⟨⟨⟨hsel, hn⟩, hs⟩, hc⟩, hlex⟩ := hB
 have hn' : n < l.length := by simpa using hn
 have htl : (l.take n).length = n := by simp; omega
 have hdl : (l.drop n).length = l.toArray.size - n := by simp
 have inv0 : HeadInv .any l.toArray n (Array.replicate l.toArray.size false) :=
  ⟨by simp, fun j oj _ hl => (by rw [getD_replicate_false] at hl; cases hl), fun t _ ht => getD_in (by simpa using ht) (getD_replicate_false _ _)⟩
 have H := headIn_lex (P := P) (C := C) (md := .any) (g := l.toArray.size - n) hsel hs hc hn (l.take n) 0 _ a (fun j hj => by
  have hj' : j < n := by rw [htl] at hj; exact hj
  simp [hj']) (by simpa using htl) inv0 (by rw [htl]; exact hlex) h
 refine wp_region_any hm ?_
 have := any_of_headIn (Q' := Q) (g := l.toArray.size - n) (fun seen a' w' hw' hL => by
  have h1 := wpAny_of_seq (P := P) (md := .any) (ops := l.toArray) (Q' := Q) (l.drop n) n seen a' w' (fun j => by simp) (by rw [hdl]; exact hL.1) (hL.2 w' hw')
  rwa [hdl] at h1) _ _ _ _ hC H
 rw [htl, show n + (l.toArray.size - n) = l.toArray.size by omega] at this
 exact this
end
theorem wp_region_tail_ext {P : Program} {id : Nat} {Q : Exit → Act → World → Prop} {a : Act} {w : World} {l : List Oper} (n : Nat) (hm : P.follows .mixedOrders = true) (hB : Region.lexTailB .any l.toArray n = true)
  (h : wpQuiet P l.toArray (fun w' => ∃ x, w' = plus w x) (fun a' => ∀ w', (∃ x, w' = plus w x) → wpList P l.toArray Q (l.drop n) a' w') (l.take n) a) : (Code.region id l.toArray true).wp P Q a w :=
 wp_region_tail (C := fun w' => ∃ x, w' = plus w x) n hm hB ⟨⟨#[], w.drawn + 1⟩, by simp [plus]⟩ h
end Go.Proofs.YtmcdollkmlcpbaaGreatDoor
namespace Go.Proofs.YtmcdollkmlcpbaaGreatDoor
open Go.RowKit
def calmB (o : Oper) : Bool := match o.op with
 | .call c => match c.callee with
  | .builtin .len | .builtin .cap | .builtin .min | .builtin .max => true
  | _ => false
 | .go _ | .defer _ | .panic _ | .send .. | .recv .. | .select .. | .nilCheck _ => false
 | _ => true
section
variable (P : Program) (w w' : World) (f : FuncId) (args : Array Value)
theorem not_enter_v (s : Sem Value) : (do pure (Next.value (← s)) : Sem Next).run P w ≠ .ok (.enter f args) w' := by
 intro h
 simp only [Sem.run_bind] at h
 cases hs : s.run P w <;> simp [hs, Result.andThen, Sem.run_pure] at h
theorem not_enter_u (s : Sem Unit) : (do s; pure Next.skip : Sem Next).run P w ≠ .ok (.enter f args) w' := by
 intro h
 simp only [Sem.run_bind] at h
 cases hs : s.run P w <;> simp [hs, Result.andThen, Sem.run_pure] at h
theorem not_enter_p (s : Sem Bool) (x y : Value) : (do pure (Next.value (if ← s then x else y)) : Sem Next).run P w ≠ .ok (.enter f args) w' := by
 intro h
 simp only [Sem.run_bind] at h
 cases hs : s.run P w <;> simp [hs, Result.andThen, Sem.run_pure] at h
theorem calm_spec {o : Oper} (h : calmB o = true) (ρ : Operand → Value) : (execOp ρ o).run P w ≠ .ok (.enter f args) w' := by
 intro hr
 unfold calmB at h
 cases ho : o.op
 all_goals (simp only [ho] at h; unfold execOp at hr; simp only [ho] at hr)
 all_goals try (exact not_enter_v P w w' f args _ hr)
 all_goals try (exact not_enter_u P w w' f args _ hr)
 all_goals try (exact not_enter_p P w w' f args _ _ _ hr)
 all_goals try (cases hr; done)
 all_goals try (cases h; done)
 case call c =>
  cases hc : c.callee with
  | builtin b =>
   simp only [hc] at h
   cases b <;> simp only at h <;> try (cases h; done)
   all_goals
    simp [resolve, hc, Result.andThen, invoke, builtin] at hr
    (split at hr <;> cases hr)
  | invoke r n => simp [hc] at h
  | value f => simp [hc] at h
end
def growUpon (P : Program) (w : World) (R : Value → World → Prop) : Result Next → Prop
 | .ok (.value u) w' => Below w.heap.size w w' ∧ R u w'
 | .ok (.enter f args) w' => w' = w ∧ Calls P f args w (fun e w'' => ∃ v, e = .returned v ∧ Below w.heap.size w w'' ∧ R v w'')
 | _ => False
theorem calls_some {P : Program} {f : FuncId} {args : Array Value} {w : World} {R : Ending → World → Prop} (h : Calls P f args w R) : ∃ e w', R e w' := by
 obtain ⟨e, w', _, hr, _⟩ := h []
 exact ⟨e, w', hr⟩
theorem growUpon_some {P : Program} {w : World} {R : Value → World → Prop} {r : Result Next} (h : growUpon P w R r) : ∃ v w', Below w.heap.size w w' ∧ R v w' := by
 unfold growUpon at h
 split at h
 ·exact ⟨_, _, h⟩
 ·obtain ⟨_, hc⟩ := h
  obtain ⟨e, w', v, _, h1, h2⟩ := calls_some hc
  exact ⟨v, w', h1, h2⟩
 ·exact h.elim
def upd (E : Nat → World) (k : Nat) (z : World) : Nat → World := fun j => if j = k then z else E j
theorem upd_ne {E : Nat → World} {k j : Nat} {z : World} (h : j ≠ k) : upd E k z j = E j := if_neg h
theorem upd_comm (E : Nat → World) {i j : Nat} (x y : World) (h : i ≠ j) : upd (upd E i x) j y = upd (upd E j y) i x := by
 funext k
 unfold upd
 by_cases h1 : k = j
 ·subst h1
  rw [if_pos rfl, if_neg (fun e => h e.symm), if_pos rfl]
 ·rw [if_neg h1]
  by_cases h2 : k = i
  ·rw [if_pos h2, if_pos h2]
  ·rw [if_neg h2, if_neg h2, if_neg h1]
abbrev cls (W : World) : World → Prop := fun w' => ∃ x, w' = plus W x
theorem cls_self (W : World) : cls W W := ⟨⟨#[], W.drawn⟩, by simp [plus]⟩
section
variable {P : Program} {md : Region.Mode} {ops : Array Oper} (ch : List (Option Nat)) (sp : List Nat) (RR : Nat → Value → World → Prop) (w : World)
def from_ (E : Nat → World) (k : Nat) : World := match ch.getD k none with
 | none => w
 | some i => E i
def fOp (P : Program) (ops : Array Oper) (k : Nat) (E : Nat → World) (K : (Nat → World) → Act → Prop) (a : Act) : Prop :=
 match ops[k]? with
 | none => K E a
 | some o => if Region.wanted o (yielded ops a.tmps) then
   (if sp.contains k then (∀ w', cls (from_ ch w E k) w' → growUpon P w' (RR k) ((execOp a.eval o).run P w')) ∧ ∀ v z, RR k v z → Below (from_ ch w E k).heap.size (from_ ch w E k) z → K (upd E k z) (a.put o.dst v)
    else o.quiet P a (cls (from_ ch w E k)) (K E))
  else K E (a.put o.dst undef)
def wpAnyF (P : Program) (md : Region.Mode) (ops : Array Oper) (Q : (Nat → World) → Act → Prop) : Nat → Array Bool → (Nat → World) → Act → Prop
 | 0, seen, E, a => Region.ready md ops seen = [] ∧ Q E a
 | f + 1, seen, E, a => (Region.ready md ops seen = [] → Q E a) ∧ ∀ i ∈ Region.ready md ops seen, fOp ch sp RR w P ops i E (wpAnyF P md ops Q f (seen.setIfInBounds i true)) a
def walkF (P : Program) (ops : Array Oper) (Q : (Nat → World) → Act → Prop) : List Oper → Nat → (Nat → World) → Act → Prop
 | [], _, E, a => Q E a
 | o :: l, k, E, a => if Region.wanted o (yielded ops a.tmps) then
   (if sp.contains k then (∀ w', cls (from_ ch w E k) w' → growUpon P w' (RR k) ((execOp a.eval o).run P w')) ∧ ∀ v z, RR k v z → Below (from_ ch w E k).heap.size (from_ ch w E k) z → walkF P ops Q l (k + 1) (upd E k z) (a.put o.dst v)
    else o.quiet P a (cls (from_ ch w E k)) (walkF P ops Q l (k + 1) E))
  else walkF P ops Q l (k + 1) E (a.put o.dst undef)
variable {ch sp RR w}
theorem fOp_mono {k : Nat} {E : Nat → World} {a : Act} {K K' : (Nat → World) → Act → Prop} (h : ∀ E a, K E a → K' E a) (hh : fOp ch sp RR w P ops k E K a) : fOp ch sp RR w P ops k E K' a := by
 unfold fOp at *
 split
 ·rename_i ho; simp only [ho] at hh; exact h _ _ hh
 ·rename_i o ho
  simp only [ho] at hh
  split
  ·rename_i hw
   simp only [hw, if_true] at hh
   split
   ·rename_i hs
    rw [if_pos hs] at hh
    exact ⟨hh.1, fun v z h1 h2 => h _ _ (hh.2 v z h1 h2)⟩
   ·rename_i hs
    rw [if_neg hs] at hh
    exact Oper.quiet_mono (h E) hh
  ·rename_i hw
   simp only [hw] at hh
   exact h _ _ hh
def ancB (md : Region.Mode) (ops : Array Oper) (i : Nat) : Nat → Nat → Bool
 | 0, _ => false
 | f + 1, j => match ops[j]? with
  | none => false
  | some oj => oj.after.any fun e => Region.binds md e && (e.on == i || ancB md ops i f e.on)
def freshB (md : Region.Mode) (ops : Array Oper) (ch : List (Option Nat)) (sp : List Nat) : Bool :=
 (List.range ops.size).all fun j => (match ch.getD j none with
  | none => true
  | some i => ancB md ops i 4 j) && (sp.contains j || match ops[j]? with
  | none => true
  | some o => calmB o)
def Closed (md : Region.Mode) (ops : Array Oper) (seen : Array Bool) : Prop :=
 seen.size = ops.size ∧ ∀ j oj, ops[j]? = some oj → seen.getD j false = true → ∀ e ∈ oj.after, Region.binds md e = true → seen.getD e.on false = true
theorem Closed.set {seen : Array Bool} {i : Nat} (h : Closed md ops seen) (hi : i ∈ Region.ready md ops seen) : Closed md ops (seen.setIfInBounds i true) := by
 obtain ⟨_, oi, hoi, hall⟩ := mem_ready.1 hi
 refine ⟨by simp [h.1], fun j oj hj hl e he hb => ?_⟩
 by_cases hij : i = j
 ·subst hij
  have : oj = oi := Option.some.inj (hj.symm.trans hoi)
  subst this
  exact getD_set_true (hall e he hb)
 ·rw [getD_set_ne false hij] at hl
  exact getD_set_true (h.2 j oj hj hl e he hb)
theorem anc_seen {seen : Array Bool} (h : Closed md ops seen) (i : Nat) : ∀ (f j : Nat) (oj : Oper), ops[j]? = some oj → (∀ e ∈ oj.after, Region.binds md e = true → seen.getD e.on false = true) → ancB md ops i f j = true → seen.getD i false = true := by
 intro f
 induction f with
 | zero => intro j oj _ _ h; simp [ancB] at h
 | succ f ih =>
  intro j oj hoj hall hB
  unfold ancB at hB
  rw [hoj] at hB
  obtain ⟨e, he, hb⟩ := Array.any_eq_true'.1 hB
  simp only [Bool.and_eq_true, Bool.or_eq_true, beq_iff_eq] at hb
  have hs := hall e he hb.1
  rcases hb.2 with h1 | h1
  ·rw [← h1]; exact hs
  ·have hlt : e.on < ops.size := by
    rcases Nat.lt_or_ge e.on ops.size with h | h
    ·exact h
    ·unfold ancB at h1
     cases f with
     | zero => simp at h1
     | succ f => simp [Array.getElem?_eq_none h] at h1
   exact ih e.on (ops[e.on]) (Array.getElem?_eq_getElem hlt) (h.2 _ _ (Array.getElem?_eq_getElem hlt) hs) h1
theorem fresh_ch (hB : freshB md ops ch sp = true) {seen : Array Bool} (hc : Closed md ops seen) {i j : Nat} (hj : j ∈ Region.ready md ops seen) (hi : seen.getD i true = false) : ch.getD j none ≠ some i := by
 intro he
 obtain ⟨_, oj, hoj, hall⟩ := mem_ready.1 hj
 have h1 := List.all_eq_true.1 hB j (List.mem_range.2 (Array.getElem?_eq_some_iff.1 hoj).1)
 simp only [he, Bool.and_eq_true] at h1
 have := anc_seen hc i _ j oj hoj hall h1.1
 rw [getD_both hi] at this
 cases this
theorem fresh_calm (hB : freshB md ops ch sp = true) {j : Nat} {o : Oper} (hj : ops[j]? = some o) (hs : sp.contains j = false) : calmB o = true := by
 have h1 := List.all_eq_true.1 hB j (List.mem_range.2 (Array.getElem?_eq_some_iff.1 hj).1)
 simp only [Bool.and_eq_true, hs, Bool.false_or, hj] at h1
 exact h1.2
theorem from_upd {E : Nat → World} {i j : Nat} {z : World} (h : ch.getD j none ≠ some i) : from_ ch w (upd E i z) j = from_ ch w E j := by
 unfold from_
 split
 ·rfl
 ·rename_i k hk
  exact upd_ne fun e => h (by rw [hk, e])
theorem quiet_one {o : Oper} {a : Act} {C : World → Prop} {u v : Value} {w : World} (hw : C w) (hcalm : calmB o = true) (hu : o.quietAt P a C w u) (hv : o.quietAt P a C w v) : u = v := by
 unfold Oper.quietAt at hu hv
 have hne := calm_spec P w
 cases hr : (execOp a.eval o).run P w with
 | halt h w' => rw [hr] at hu; simp [Oper.quietUpon] at hu
 | ok n w' =>
  rw [hr] at hu hv
  cases n with
  | value x => simp only [Oper.quietUpon] at hu hv; rw [← hu.2, ← hv.2]
  | skip => simp only [Oper.quietUpon] at hu hv; rw [hu.2, hv.2]
  | enter f args => exact absurd hr (hne w' f args hcalm _)
  | _ => simp [Oper.quietUpon] at hu
def Shows (ch : List (Option Nat)) (sp : List Nat) (RR : Nat → Value → World → Prop) (w : World) (P : Program) (ops : Array Oper) (i : Nat) (oi : Oper) (E : Nat → World) (a : Act) (G : (Nat → World) → Value → Prop) : Prop :=
 (Region.wanted oi (yielded ops a.tmps) = true ∧ sp.contains i = true ∧ (∀ w', cls (from_ ch w E i) w' → growUpon P w' (RR i) ((execOp a.eval oi).run P w')) ∧
   (∃ v z, RR i v z ∧ Below (from_ ch w E i).heap.size (from_ ch w E i) z) ∧ ∀ v z, RR i v z → Below (from_ ch w E i).heap.size (from_ ch w E i) z → G (upd E i z) v) ∨
 (Region.wanted oi (yielded ops a.tmps) = true ∧ sp.contains i = false ∧ ∃ v, (∀ w', cls (from_ ch w E i) w' → oi.quietAt P a (cls (from_ ch w E i)) w' v) ∧ G E v) ∨
 (Region.wanted oi (yielded ops a.tmps) = false ∧ G E undef)
theorem shows_iff {i : Nat} {oi : Oper} {E : Nat → World} {a : Act} {K : (Nat → World) → Act → Prop} (hi : ops[i]? = some oi) :
  fOp ch sp RR w P ops i E K a ↔ Shows ch sp RR w P ops i oi E a fun E' v => K E' (a.put oi.dst v) := by
 unfold fOp Shows
 simp only [hi]
 by_cases hw : Region.wanted oi (yielded ops a.tmps) = true
 ·simp only [hw, if_true, true_and, Bool.true_eq_false, false_and, or_false]
  by_cases hs : sp.contains i = true
  ·simp only [hs, if_true, true_and, Bool.true_eq_false, false_and, or_false]
   constructor
   ·rintro ⟨h1, h2⟩
    obtain ⟨v, z, hb, hr⟩ := growUpon_some (h1 _ (cls_self _))
    exact ⟨h1, ⟨v, z, hr, hb⟩, h2⟩
   ·rintro ⟨h1, _, h2⟩
    exact ⟨h1, h2⟩
  ·have hs' : sp.contains i = false := by simpa using hs
   simp only [hs', Bool.false_eq_true, if_false, false_and, true_and, false_or]
   rfl
 ·have hw' : Region.wanted oi (yielded ops a.tmps) = false := by simpa using hw
  simp only [hw', Bool.false_eq_true, if_false, false_and, true_and, false_or]
theorem fOp_put {i j : Nat} {oi oj : Oper} (hj : ops[j]? = some oj) (hap : oi.apart ops oj = true) (hij : j ≠ i) (hci : ch.getD i none ≠ some j) (hcj : ch.getD j none ≠ some i)
  (hsi : ∀ cs b, oi.op ≠ .select cs b) (hsj : ∀ cs b, oj.op ≠ .select cs b) (hcalm : sp.contains j = false → calmB oj = true) {K : (Nat → World) → Act → Prop} {E : Nat → World} {a : Act}
  (h : Shows ch sp RR w P ops i oi E a fun E' v => fOp ch sp RR w P ops j E' K (a.put oi.dst v)) :
  fOp ch sp RR w P ops j E (fun E' a' => Shows ch sp RR w P ops i oi E' a' fun E'' v => K E'' (a'.put oi.dst v)) a := by
 obtain ⟨h1, h2, h3⟩ := Oper.apart_spec hap
 have kw : ∀ (u : Value), Region.wanted oi (yielded ops (a.put oj.dst u).tmps) = Region.wanted oi (yielded ops a.tmps) := fun u => wanted_put oi a oj.dst u h3
 have ke : ∀ (u : Value), execOp (a.put oj.dst u).eval oi = execOp a.eval oi := fun u => execOp_put oi hsi a oj.dst u h3
 have kwj : ∀ (v : Value), Region.wanted oj (yielded ops (a.put oi.dst v).tmps) = Region.wanted oj (yielded ops a.tmps) := fun v => wanted_put oj a oi.dst v h1
 have kej : ∀ (v : Value), execOp (a.put oi.dst v).eval oj = execOp a.eval oj := fun v => execOp_put oj hsj a oi.dst v h1
 have comm : ∀ (v u : Value), (a.put oi.dst v).put oj.dst u = (a.put oj.dst u).put oi.dst v := fun v u => Act.put_comm a v u h2
 rw [shows_iff hj]
 have fj : ∀ z, from_ ch w (upd E i z) j = from_ ch w E j := fun z => from_upd hcj
 have fi : ∀ z, from_ ch w (upd E j z) i = from_ ch w E i := fun z => from_upd hci
 rcases h with ⟨hw, hs, hgrow, ⟨v0, z0, hr0, hb0⟩, hall⟩ | ⟨hw, hs, v, hq, hv⟩ | ⟨hw, hv⟩
 ·
  simp only at hall
  have h0 := hall v0 z0 hr0 hb0
  rw [shows_iff hj] at h0
  unfold Shows at h0 ⊢
  simp only [kwj, kej, fj] at h0
  rcases h0 with ⟨wj, sj, gj, ej, _⟩ | ⟨wj, sj, u, qj, _⟩ | ⟨wj, _⟩
  ·refine .inl ⟨wj, sj, gj, ej, fun u zj hru hbu => .inl ⟨by rw [kw]; exact hw, hs, by rw [fi, ke]; exact hgrow, ⟨v0, z0, hr0, by rw [fi]; exact hb0⟩, fun v z hr hb => ?_⟩⟩
   rw [fi] at hb
   have hx := hall v z hr hb
   rw [shows_iff hj] at hx
   unfold Shows at hx
   simp only [kwj, kej, fj, wj, sj] at hx
   simp only [true_and, Bool.true_eq_false, false_and, or_false] at hx
   have := hx.2.2 u zj hru hbu
   rw [upd_comm E z zj (Ne.symm hij), comm] at this
   exact this
  ·refine .inr (.inl ⟨wj, sj, u, fun w' hw' => by have := qj w' hw'; unfold Oper.quietAt at this ⊢; rwa [kej] at this, .inl ⟨by rw [kw]; exact hw, hs, by rw [ke]; exact hgrow, ⟨v0, z0, hr0, hb0⟩, fun v z hr hb => ?_⟩⟩)
   have hx := hall v z hr hb
   rw [shows_iff hj] at hx
   unfold Shows at hx
   simp only [kwj, fj, wj, sj] at hx
   simp only [true_and, Bool.false_eq_true, Bool.true_eq_false, false_and, or_false, false_or] at hx
   obtain ⟨u', qj', hx⟩ := hx
   have e : u' = u := by
    have x1 := qj' _ (cls_self _)
    have x2 := qj _ (cls_self _)
    unfold Oper.quietAt at x1 x2
    rw [kej] at x1 x2
    exact quiet_one (a := a) (cls_self _) (hcalm sj) x1 x2
   subst e
   rw [comm] at hx
   exact hx
  ·refine .inr (.inr ⟨wj, .inl ⟨by rw [kw]; exact hw, hs, by rw [ke]; exact hgrow, ⟨v0, z0, hr0, hb0⟩, fun v z hr hb => ?_⟩⟩)
   have hx := hall v z hr hb
   rw [shows_iff hj] at hx
   unfold Shows at hx
   simp only [kwj, wj] at hx
   simp only [Bool.false_eq_true, false_and, false_or, true_and] at hx
   rw [comm] at hx
   exact hx
 ·
  rw [shows_iff hj] at hv
  unfold Shows at hv ⊢
  simp only [kwj, kej] at hv
  have qi : ∀ u w', cls (from_ ch w E i) w' → oi.quietAt P (a.put oj.dst u) (cls (from_ ch w E i)) w' v := fun u w' hw' => by
   have := hq w' hw'; unfold Oper.quietAt at this ⊢; rwa [ke]
  rcases hv with ⟨wj, sj, gj, ej, hk⟩ | ⟨wj, sj, u, qj, hk⟩ | ⟨wj, hk⟩
  ·refine .inl ⟨wj, sj, gj, ej, fun u zj hru hbu => .inr (.inl ⟨by rw [kw]; exact hw, hs, v, by rw [fi]; exact qi u, ?_⟩)⟩
   have := hk u zj hru hbu
   rw [comm] at this; exact this
  ·refine .inr (.inl ⟨wj, sj, u, fun w' hw' => by have := qj w' hw'; unfold Oper.quietAt at this ⊢; rwa [kej] at this, .inr (.inl ⟨by rw [kw]; exact hw, hs, v, qi u, ?_⟩)⟩)
   rw [comm] at hk; exact hk
  ·refine .inr (.inr ⟨wj, .inr (.inl ⟨by rw [kw]; exact hw, hs, v, qi undef, ?_⟩)⟩)
   rw [comm] at hk; exact hk
 ·
  rw [shows_iff hj] at hv
  unfold Shows at hv ⊢
  simp only [kwj, kej] at hv
  rcases hv with ⟨wj, sj, gj, ej, hk⟩ | ⟨wj, sj, u, qj, hk⟩ | ⟨wj, hk⟩
  ·refine .inl ⟨wj, sj, gj, ej, fun u zj hru hbu => .inr (.inr ⟨by rw [kw]; exact hw, ?_⟩)⟩
   have := hk u zj hru hbu
   rw [comm] at this; exact this
  ·refine .inr (.inl ⟨wj, sj, u, fun w' hw' => by have := qj w' hw'; unfold Oper.quietAt at this ⊢; rwa [kej] at this, .inr (.inr ⟨by rw [kw]; exact hw, ?_⟩)⟩)
   rw [comm] at hk; exact hk
  ·refine .inr (.inr ⟨wj, .inr (.inr ⟨by rw [kw]; exact hw, ?_⟩)⟩)
   rw [comm] at hk; exact hk
theorem wpAnyF_first {Q : (Nat → World) → Act → Prop} {i : Nat} {oi : Oper} (hi : ops[i]? = some oi) (hsel : ∀ (j : Nat) (o : Oper) cs b, ops[j]? = some o → o.op ≠ .select cs b) (hB : freshB md ops ch sp = true) :
  ∀ (f : Nat) (seen : Array Bool) (E : Nat → World) (a : Act), Closed md ops seen →
   (∀ j oj, ops[j]? = some oj → j ≠ i → seen.getD j true = false → (∀ e ∈ oj.after, Region.binds md e = true → e.on ≠ i) → oi.apart ops oj = true) →
   i ∈ Region.ready md ops seen → Shows ch sp RR w P ops i oi E a (fun E' v => wpAnyF ch sp RR w P md ops Q f (seen.setIfInBounds i true) E' (a.put oi.dst v)) →
   wpAnyF ch sp RR w P md ops Q (f + 1) seen E a := by
 have some_of : ∀ {E a} {G : (Nat → World) → Value → Prop}, Shows ch sp RR w P ops i oi E a G → ∃ E' v, G E' v := by
  rintro E a G (⟨_, _, _, ⟨v, z, h1, h2⟩, h⟩ | ⟨_, _, v, _, h⟩ | ⟨_, h⟩)
  ·exact ⟨_, _, h v z h1 h2⟩
  ·exact ⟨_, _, h⟩
  ·exact ⟨_, _, h⟩
 have shows_mono : ∀ {E a} {G G' : (Nat → World) → Value → Prop}, (∀ E v, G E v → G' E v) → Shows ch sp RR w P ops i oi E a G → Shows ch sp RR w P ops i oi E a G' := by
  rintro E a G G' hg (⟨h1, h2, h3, h4, h⟩ | ⟨h1, h2, v, h3, h⟩ | ⟨h1, h⟩)
  ·exact .inl ⟨h1, h2, h3, h4, fun v z x y => hg _ _ (h v z x y)⟩
  ·exact .inr (.inl ⟨h1, h2, v, h3, hg _ _ h⟩)
  ·exact .inr (.inr ⟨h1, hg _ _ h⟩)
 intro f
 induction f with
 | zero =>
  intro seen E a hc _ hr H
  refine ⟨fun h => (by rw [h] at hr; cases hr), fun j hj => ?_⟩
  by_cases hji : j = i
  ·subst hji; rw [shows_iff hi]; exact H
  ·obtain ⟨E', v, h⟩ := some_of H
   have := ready_mono hj hji
   rw [h.1] at this
   cases this
 | succ f ih =>
  intro seen E a hc hfree hr H
  refine ⟨fun h => (by rw [h] at hr; cases hr), fun j hj => ?_⟩
  by_cases hji : j = i
  ·subst hji; rw [shows_iff hi]; exact H
  ·obtain ⟨hjun, oj, hoj, hall⟩ := mem_ready.1 hj
   have hiun := (mem_ready.1 hr).1
   have hnot : ∀ e ∈ oj.after, Region.binds md e = true → e.on ≠ i := fun e he hb heq => by
    have h1 := hall e he hb
    rw [heq, getD_both hiun] at h1
    cases h1
   have H2 := shows_mono (fun E' v h => h.2 j (ready_mono hj hji)) H
   have h2 := fOp_put hoj (hfree j oj hoj hji hjun hnot) hji (fresh_ch hB hc hr hjun) (fresh_ch hB hc hj hiun) (fun cs b => hsel i oi cs b hi) (fun cs b => hsel j oj cs b hoj) (fun hs => fresh_calm hB hoj hs) H2
   have hfree' : ∀ k ok, ops[k]? = some ok → k ≠ i → (seen.setIfInBounds j true).getD k true = false →
     (∀ e ∈ ok.after, Region.binds md e = true → e.on ≠ i) → oi.apart ops ok = true := fun k ok hk hki hun hno => by
    refine hfree k ok hk hki ?_ hno
    by_cases hjk : j = k
    ·subst hjk; exact hjun
    ·rw [getD_set_ne true hjk] at hun; exact hun
   refine fOp_mono (fun E' a' h3 => ih (seen.setIfInBounds j true) E' a' (hc.set hj) hfree' (ready_mono hr (Ne.symm hji)) ?_) h2
   rw [Array.setIfInBounds_comm _ _ hji]
   exact h3
theorem wpAnyF_lex {Q : (Nat → World) → Act → Prop} (hs : Region.noSelect ops = true) (hB : freshB md ops ch sp = true) : ∀ (l : List Oper) (k : Nat) (seen : Array Bool) (E : Nat → World) (a : Act), (∀ j, l[j]? = ops[k + j]?) → Closed md ops seen →
  Region.lexFrom md ops l.length k seen = true → walkF ch sp RR w P ops Q l k E a → wpAnyF ch sp RR w P md ops Q l.length seen E a
 | [], _, _, _, _, _, _, hL, h => ⟨by simpa [Region.lexFrom] using hL, h⟩
 | o :: l, k, seen, E, a, hl, hc, hL, h => by
  have h0 : ops[k]? = some o := by simpa using (hl 0).symm
  simp only [List.length_cons, Region.lexFrom, Bool.and_eq_true] at hL
  obtain ⟨⟨hr, hf⟩, hL'⟩ := hL
  have hr' : k ∈ Region.ready md ops seen := by simpa using hr
  have hst : fOp ch sp RR w P ops k E (walkF ch sp RR w P ops Q l (k + 1)) a := by unfold fOp; simp only [h0]; exact h
  refine wpAnyF_first h0 (Region.noSelect_spec hs) hB l.length seen E a hc (Region.free_spec h0 hf) hr' ?_
  rw [shows_iff h0] at hst
  have ih := fun (E' : Nat → World) (v : Value) => wpAnyF_lex (Q := Q) hs hB l (k + 1) (seen.setIfInBounds k true) E' (a.put o.dst v) (fun j => by have := hl (j + 1); simpa [Nat.add_assoc, Nat.add_comm 1 j] using this) (hc.set hr') hL'
  rcases hst with ⟨h1, h2, h3, h4, h⟩ | ⟨h1, h2, v, h3, h⟩ | ⟨h1, h⟩
  ·exact .inl ⟨h1, h2, h3, h4, fun v z x y => ih _ _ (h v z x y)⟩
  ·exact .inr (.inl ⟨h1, h2, v, h3, ih _ _ h⟩)
  ·exact .inr (.inr ⟨h1, ih _ _ h⟩)
def Gr (A B : World) : Prop := Below A.heap.size A B
theorem Gr.trans {A B C : World} (h : Gr A B) (k : Gr B C) : Gr A C := Below.trans h (Below.mono k h.size)
theorem wpAny_of_F {Q : (Nat → World) → Act → Prop} {Q' : Exit → Act → World → Prop} (hB : freshB md ops ch sp = true) (hQ : ∀ E a w', Gr w w' → (∀ i, Gr (E i) w') → Q E a → Q' .normal a w') :
  ∀ (f : Nat) (seen : Array Bool) (E : Nat → World) (a : Act) (w' : World), Gr w w' → (∀ i, Gr (E i) w') → wpAnyF ch sp RR w P md ops Q f seen E a → wpAny P md ops Q' f seen a w'
 | 0, _, E, a, w', h0, hE, h => ⟨h.1, hQ _ _ _ h0 hE h.2⟩
 | f + 1, seen, E, a, w', h0, hE, h => by
  refine ⟨fun hr => hQ _ _ _ h0 hE (h.1 hr), fun k hk => ?_⟩
  have hk' := h.2 k hk
  have ih := fun E' a' w'' (x : Gr w w'') (y : ∀ i, Gr (E' i) w'') => wpAny_of_F (Q' := Q') hB hQ f (seen.setIfInBounds k true) E' a' w'' x y
  have hcls : cls (from_ ch w E k) w' := by
   unfold from_
   split
   ·exact below_plus h0
   ·exact below_plus (hE _)
  obtain ⟨_, o, ho, _⟩ := mem_ready.1 hk
  unfold fOp at hk'
  unfold wpOp
  simp only [ho] at hk' ⊢
  split
  ·rename_i hw
   simp only [hw, if_true] at hk'
   refine .inl ?_
   by_cases hs : sp.contains k = true
   ·rw [if_pos hs] at hk'
    obtain ⟨hg, hn⟩ := hk'
    have hg := hg w' hcls
    have hfb : Gr (from_ ch w E k) w' := by
     unfold from_
     split
     ·exact h0
     ·exact hE _
    have fin : ∀ v z, Below w'.heap.size w' z → RR k v z → wpAny P md ops Q' f (seen.setIfInBounds k true) (a.put o.dst v) z := fun v z hb hr => by
     have hg : Gr w' z := hb
     refine ih _ _ z (h0.trans hg) (fun i => ?_) (hn v z hr (hfb.trans hg))
     unfold upd
     split
     ·exact Below.refl _ _
     ·exact (hE i).trans hg
    unfold growUpon at hg
    unfold Oper.wp
    generalize (execOp a.eval o).run P w' = r at *
    split at hg
    ·exact fin _ _ hg.1 hg.2
    ·obtain ⟨rfl, hcall⟩ := hg
     refine hcall.mono fun e w'' ⟨v, he, hb, hr⟩ => ?_
     subst he
     exact fin v w'' hb hr
    ·exact hg.elim
   ·rw [if_neg hs] at hk'
    obtain ⟨v, hq, hn⟩ := hk'
    have hq := hq w' hcls
    have hcalm := fresh_calm hB ho (by simpa using hs)
    unfold Oper.quietAt at hq
    unfold Oper.wp
    have hne := calm_spec P w'
    cases hr : (execOp a.eval o).run P w' with
    | halt h w'' => rw [hr] at hq; simp [Oper.quietUpon] at hq
    | ok n w'' =>
     rw [hr] at hq
     cases n with
     | value x =>
      obtain ⟨rfl, rfl⟩ := hq
      exact ih _ _ _ h0 hE hn
     | skip =>
      obtain ⟨rfl, rfl⟩ := hq
      exact ih _ _ _ h0 hE hn
     | enter f args => exact absurd hr (hne w'' f args hcalm _)
     | _ => simp [Oper.quietUpon] at hq
  ·rename_i hw
   simp only [hw] at hk'
   exact ih _ _ _ h0 hE hk'
theorem wp_region_fresh {id : Nat} {Q : Exit → Act → World → Prop} {a : Act} {l : List Oper} (ch : List (Option Nat)) (sp : List Nat) (RR : Nat → Value → World → Prop) (hm : P.follows .mixedOrders = true) (hL : Region.lexB .any l.toArray = true) (hB : freshB .any l.toArray ch sp = true)
  (h : walkF ch sp RR w P l.toArray (fun E a' => ∀ w', Gr w w' → (∀ i, Gr (E i) w') → Q .normal a' w') l 0 (fun _ => w) a) : (Code.region id l.toArray true).wp P Q a w := by
 simp only [Region.lexB, Bool.and_eq_true] at hL
 refine wp_region_any hm ?_
 have hgr : Gr w { w with drawn := w.drawn + 1 } := ⟨rfl, rfl, rfl, Nat.le_refl _, fun _ _ => rfl⟩
 have := wpAnyF_lex (ch := ch) (sp := sp) (RR := RR) (w := w) (P := P) (md := .any) (ops := l.toArray) hL.1 hB l 0 (Array.replicate l.toArray.size false) (fun _ => w) a (by simp) ⟨by simp, fun j oj _ hl => (by rw [getD_replicate_false] at hl; cases hl)⟩ (by simpa using hL.2) h
 have := wpAny_of_F (Q' := Q) hB (fun E a w' h0 hE hq => hq w' h0 hE) _ _ _ a { w with drawn := w.drawn + 1 } hgr (fun _ => hgr) this
 simpa using this
def segB (ch : List (Option Nat)) (sp : List Nat) (c : Option Nat) (k : Nat) : Nat → Bool
 | 0 => true
 | n + 1 => (match ch.getD k none, c with
  | none, none => true
  | some i, some j => i == j
  | _, _ => false) && !sp.contains k && segB ch sp c (k + 1) n
theorem walkF_seg {Q : (Nat → World) → Act → Prop} {E : Nat → World} (c : Option Nat) (W : World) (hW : (match c with | none => w | some i => E i) = W) : ∀ (n : Nat) (l : List Oper) (k : Nat) (a : Act), segB ch sp c k n = true →
  wpQuiet P ops (cls W) (walkF ch sp RR w P ops Q (l.drop n) (k + n) E) (l.take n) a → walkF ch sp RR w P ops Q l k E a := by
 intro n
 induction n with
 | zero => intro l k a _ h; simpa [wpQuiet] using h
 | succ n ih =>
  intro l k a hB h
  cases l with
  | nil =>
   have : walkF ch sp RR w P ops Q [] (k + (n + 1)) E a := by simpa [wpQuiet] using h
   exact this
  | cons o l =>
   unfold segB at hB
   simp only [Bool.and_eq_true, Bool.not_eq_true'] at hB
   obtain ⟨⟨h1, h2⟩, h3⟩ := hB
   have hf : from_ ch w E k = W := by
    unfold from_
    rw [← hW]
    cases hk : ch.getD k none <;> cases c <;> simp only [hk] at h1
    ·rfl
    ·cases h1
    ·cases h1
    ·rename_i i j
     have : i = j := by simpa using h1
     rw [this]
   rw [List.take_succ_cons, List.drop_succ_cons] at h
   unfold walkF
   rw [if_neg (show ¬ (sp.contains k = true) by rw [h2]; decide), hf]
   unfold wpQuiet at h
   have e : k + (n + 1) = k + 1 + n := by omega
   rw [e] at h
   split
   ·rename_i hw
    rw [if_pos hw] at h
    exact Oper.quiet_mono (fun a' h' => ih l (k + 1) a' h3 h') h
   ·rename_i hw
    rw [if_neg hw] at h
    exact ih l (k + 1) _ h3 h
theorem walkF_one {Q : (Nat → World) → Act → Prop} {E : Nat → World} {o : Oper} {l : List Oper} {k : Nat} {a : Act} (c : Option Nat) (W : World) (hW : (match c with | none => w | some i => E i) = W) (hB : segB ch sp c k 1 = true)
  (h : wpQuiet P ops (cls W) (walkF ch sp RR w P ops Q l (k + 1) E) [o] a) : walkF ch sp RR w P ops Q (o :: l) k E a := walkF_seg c W hW 1 (o :: l) k a hB h
theorem walkF_end {Q : (Nat → World) → Act → Prop} {E : Nat → World} {k : Nat} {a : Act} (h : Q E a) : walkF ch sp RR w P ops Q [] k E a := h
theorem walkF_make {Q : (Nat → World) → Act → Prop} {E : Nat → World} {o : Oper} {l : List Oper} {k : Nat} {a : Act} (c : Option Nat) (W : World) (hW : (match c with | none => w | some i => E i) = W) (hc : ch.getD k none = c) (hs : sp.contains k = true) (hw : Region.wanted o (yielded ops a.tmps) = true)
  (h1 : ∀ x, growUpon P (plus W x) (RR k) ((execOp a.eval o).run P (plus W x)))
  (h2 : ∀ v z, RR k v z → Gr W z → walkF ch sp RR w P ops Q l (k + 1) (upd E k z) (a.put o.dst v)) : walkF ch sp RR w P ops Q (o :: l) k E a := by
 have hf : from_ ch w E k = W := by unfold from_; rw [hc]; exact hW
 unfold walkF
 rw [if_pos hw, if_pos hs, hf]
 exact ⟨fun w' ⟨x, hx⟩ => by rw [hx]; exact h1 x, h2⟩
theorem grow_call {f : FuncId} {args : Array Value} {W : World} {R : Value → World → Prop} {r : Result Next} (hr : r = .ok (.enter f args) W) (h : Calls P f args W (fun e w'' => ∃ v, e = .returned v ∧ Below W.heap.size W w'' ∧ R v w'')) : growUpon P W R r := by
 subst hr; exact ⟨rfl, h⟩
end
end Go.Proofs.YtmcdollkmlcpbaaGreatDoor
namespace Go.Proofs.YtmcdollkmlcpbaaGreatDoor
open Go.RowKit
section
variable {P : Program} {md : Region.Mode} {ops : Array Oper} (ch : List (Option Nat)) (sp : List Nat) (RR : Nat → Value → World → Prop) (w : World)
def headF (P : Program) (md : Region.Mode) (ops : Array Oper) (n : Nat) (L : Array Bool → (Nat → World) → Act → Prop) : Nat → Array Bool → (Nat → World) → Act → Prop
 | 0, seen, E, a => L seen E a
 | f + 1, seen, E, a => Region.ready md ops seen ≠ [] ∧ ∀ i ∈ Region.ready md ops seen, i < n ∧ fOp ch sp RR w P ops i E (headF P md ops n L f (seen.setIfInBounds i true)) a
variable {ch sp RR w}
theorem closed_of {n : Nat} {seen : Array Bool} (h : HeadInv md ops n seen) : Closed md ops seen := ⟨h.size, h.closed⟩
theorem headF_first {n i : Nat} {oi : Oper} {L : Array Bool → (Nat → World) → Act → Prop} (hi : ops[i]? = some oi) (hsel : ∀ (j : Nat) (o : Oper) cs b, ops[j]? = some o → o.op ≠ .select cs b) (hB : freshB md ops ch sp = true)
  (hs : Region.sinkB md ops n = true) (hc : Region.chainB md ops n = true) (hn : n < ops.size) (hin : i < n)
  (hdone : ∀ seen E a, L seen E a → ∀ j ∈ Region.ready md ops seen, n ≤ j) (f : Nat) :
  ∀ (seen : Array Bool) (E : Nat → World) (a : Act), HeadInv md ops n seen →
   (∀ j oj, ops[j]? = some oj → j ≠ i → seen.getD j true = false → (∀ e ∈ oj.after, Region.binds md e = true → e.on ≠ i) → oi.apart ops oj = true) →
   i ∈ Region.ready md ops seen → Shows ch sp RR w P ops i oi E a (fun E' v => headF ch sp RR w P md ops n L f (seen.setIfInBounds i true) E' (a.put oi.dst v)) →
   headF ch sp RR w P md ops n L (f + 1) seen E a := by
 have some_of : ∀ {E a} {G : (Nat → World) → Value → Prop}, Shows ch sp RR w P ops i oi E a G → ∃ E' v, G E' v := by
  rintro E a G (⟨_, _, _, ⟨v, z, h1, h2⟩, h⟩ | ⟨_, _, v, _, h⟩ | ⟨_, h⟩)
  ·exact ⟨_, _, h v z h1 h2⟩
  ·exact ⟨_, _, h⟩
  ·exact ⟨_, _, h⟩
 have shows_mono : ∀ {E a} {G G' : (Nat → World) → Value → Prop}, (∀ E v, G E v → G' E v) → Shows ch sp RR w P ops i oi E a G → Shows ch sp RR w P ops i oi E a G' := by
  rintro E a G G' hg (⟨h1, h2, h3, h4, h⟩ | ⟨h1, h2, v, h3, h⟩ | ⟨h1, h⟩)
  ·exact .inl ⟨h1, h2, h3, h4, fun v z x y => hg _ _ (h v z x y)⟩
  ·exact .inr (.inl ⟨h1, h2, v, h3, hg _ _ h⟩)
  ·exact .inr (.inr ⟨h1, hg _ _ h⟩)
 induction f with
 | zero =>
  intro seen E a inv _ hr H
  have hun := (mem_ready.1 hr).1
  refine ⟨fun h => (by rw [h] at hr; cases hr), fun j hj => ?_⟩
  have hjn : j < n := by
   apply Classical.byContradiction
   intro h
   exact tail_waits hs hc hn inv _ i rfl hin hun j (by omega) hj
  refine ⟨hjn, ?_⟩
  by_cases hji : j = i
  ·subst hji; rw [shows_iff hi]; exact H
  ·obtain ⟨E', v, h⟩ := some_of H
   have := hdone _ _ _ h j (ready_mono hj hji)
   omega
 | succ f ih =>
  intro seen E a inv hfree hr H
  have hiun := (mem_ready.1 hr).1
  refine ⟨fun h => (by rw [h] at hr; cases hr), fun j hj => ?_⟩
  have hjn : j < n := by
   apply Classical.byContradiction
   intro h
   exact tail_waits hs hc hn inv _ i rfl hin hiun j (by omega) hj
  refine ⟨hjn, ?_⟩
  by_cases hji : j = i
  ·subst hji; rw [shows_iff hi]; exact H
  ·obtain ⟨hjun, oj, hoj, hall⟩ := mem_ready.1 hj
   have hnot : ∀ e ∈ oj.after, Region.binds md e = true → e.on ≠ i := fun e he hb heq => by
    have h1 := hall e he hb
    rw [heq, getD_both hiun] at h1
    cases h1
   have H2 := shows_mono (fun E' v h => (h.2 j (ready_mono hj hji)).2) H
   have h2 := fOp_put hoj (hfree j oj hoj hji hjun hnot) hji (fresh_ch hB (closed_of inv) hr hjun) (fresh_ch hB (closed_of inv) hj hiun) (fun cs b => hsel i oi cs b hi) (fun cs b => hsel j oj cs b hoj) (fun hs => fresh_calm hB hoj hs) H2
   have hfree' : ∀ k ok, ops[k]? = some ok → k ≠ i → (seen.setIfInBounds j true).getD k true = false →
     (∀ e ∈ ok.after, Region.binds md e = true → e.on ≠ i) → oi.apart ops ok = true := fun k ok hk hki hun hno => by
    refine hfree k ok hk hki ?_ hno
    by_cases hjk : j = k
    ·subst hjk; exact hjun
    ·rw [getD_set_ne true hjk] at hun; exact hun
   refine fOp_mono (fun E' a' h3 => ih (seen.setIfInBounds j true) E' a' (inv.set hj hjn) hfree' (ready_mono hr (Ne.symm hji)) ?_) h2
   rw [Array.setIfInBounds_comm _ _ hji]
   exact h3
theorem headF_lex {n g : Nat} {Lq : (Nat → World) → Act → Prop} (hsel : Region.noSelect ops = true) (hB : freshB md ops ch sp = true) (hs : Region.sinkB md ops n = true) (hc : Region.chainB md ops n = true) (hn : n < ops.size) (l : List Oper) :
  ∀ (k : Nat) (seen : Array Bool) (E : Nat → World) (a : Act), (∀ j, j < l.length → l[j]? = ops[k + j]?) → k + l.length = n → HeadInv md ops n seen →
  Region.lexHead md ops g l.length k seen = true → walkF ch sp RR w P ops Lq l k E a →
  headF ch sp RR w P md ops n (fun seen' E' a' => Region.seqB md ops g n seen' = true ∧ Lq E' a') l.length seen E a := by
 induction l with
 | nil =>
  intro k seen E a _ hk _ hL h
  have : k = n := by simpa using hk
  subst this
  exact ⟨by simpa [Region.lexHead] using hL, h⟩
 | cons o l ih =>
  intro k seen E a hl hk inv hL h
  have h0 : ops[k]? = some o := by simpa using (hl 0 (by simp)).symm
  simp only [List.length_cons, Region.lexHead, Bool.and_eq_true] at hL
  obtain ⟨⟨hr, hf⟩, hL'⟩ := hL
  have hkn : k < n := by simp only [List.length_cons] at hk; omega
  have hr' : k ∈ Region.ready md ops seen := by simpa using hr
  have hst : fOp ch sp RR w P ops k E (walkF ch sp RR w P ops Lq l (k + 1)) a := by unfold fOp; simp only [h0]; exact h
  refine headF_first h0 (Region.noSelect_spec hsel) hB hs hc hn hkn (fun seen' E' a' hL => seqB_ready hL.1) l.length seen E a inv (Region.free_spec h0 hf) hr' ?_
  rw [shows_iff h0] at hst
  have ihh := fun (E' : Nat → World) (v : Value) => ih (k + 1) (seen.setIfInBounds k true) E' (a.put o.dst v) (fun j hj => by have := hl (j + 1) (by simp; omega); simpa [Nat.add_assoc, Nat.add_comm 1 j] using this) (by simp only [List.length_cons] at hk; omega) (inv.set hr' hkn) hL'
  rcases hst with ⟨h1, h2, h3, h4, h⟩ | ⟨h1, h2, v, h3, h⟩ | ⟨h1, h⟩
  ·exact .inl ⟨h1, h2, h3, h4, fun v z x y => ihh _ _ (h v z x y)⟩
  ·exact .inr (.inl ⟨h1, h2, v, h3, ihh _ _ h⟩)
  ·exact .inr (.inr ⟨h1, ihh _ _ h⟩)
theorem wpAny_of_headF {n g : Nat} {L : Array Bool → (Nat → World) → Act → Prop} {Q' : Exit → Act → World → Prop} (hB : freshB md ops ch sp = true) (hL : ∀ seen E a w', Gr w w' → (∀ i, Gr (E i) w') → L seen E a → wpAny P md ops Q' g seen a w') :
  ∀ (f : Nat) (seen : Array Bool) (E : Nat → World) (a : Act) (w' : World), Gr w w' → (∀ i, Gr (E i) w') → headF ch sp RR w P md ops n L f seen E a → wpAny P md ops Q' (f + g) seen a w'
 | 0, seen, E, a, w', h0, hE, h => by rw [Nat.zero_add]; exact hL _ _ _ _ h0 hE h
 | f + 1, seen, E, a, w', h0, hE, h => by
  rw [show f + 1 + g = (f + g) + 1 by omega]
  refine ⟨fun hr => absurd hr h.1, fun k hk => ?_⟩
  have hk' := (h.2 k hk).2
  have ih := fun E' a' w'' (x : Gr w w'') (y : ∀ i, Gr (E' i) w'') => wpAny_of_headF (n := n) (Q' := Q') hB hL f (seen.setIfInBounds k true) E' a' w'' x y
  have hcls : cls (from_ ch w E k) w' := by
   unfold from_
   split
   ·exact below_plus h0
   ·exact below_plus (hE _)
  obtain ⟨_, o, ho, _⟩ := mem_ready.1 hk
  unfold fOp at hk'
  unfold wpOp
  simp only [ho] at hk' ⊢
  split
  ·rename_i hw
   simp only [hw, if_true] at hk'
   refine .inl ?_
   by_cases hs : sp.contains k = true
   ·rw [if_pos hs] at hk'
    obtain ⟨hg, hn⟩ := hk'
    have hg := hg w' hcls
    have hfb : Gr (from_ ch w E k) w' := by
     unfold from_
     split
     ·exact h0
     ·exact hE _
    have fin : ∀ v z, Below w'.heap.size w' z → RR k v z → wpAny P md ops Q' (f + g) (seen.setIfInBounds k true) (a.put o.dst v) z := fun v z hb hr => by
     have hg : Gr w' z := hb
     refine ih _ _ z (h0.trans hg) (fun i => ?_) (hn v z hr (hfb.trans hg))
     unfold upd
     split
     ·exact Below.refl _ _
     ·exact (hE i).trans hg
    unfold growUpon at hg
    unfold Oper.wp
    generalize (execOp a.eval o).run P w' = r at *
    split at hg
    ·exact fin _ _ hg.1 hg.2
    ·obtain ⟨rfl, hcall⟩ := hg
     refine hcall.mono fun e w'' ⟨v, he, hb, hr⟩ => ?_
     subst he
     exact fin v w'' hb hr
    ·exact hg.elim
   ·rw [if_neg hs] at hk'
    obtain ⟨v, hq, hn⟩ := hk'
    have hq := hq w' hcls
    have hcalm := fresh_calm hB ho (by simpa using hs)
    unfold Oper.quietAt at hq
    unfold Oper.wp
    have hne := calm_spec P w'
    cases hr : (execOp a.eval o).run P w' with
    | halt h w'' => rw [hr] at hq; simp [Oper.quietUpon] at hq
    | ok n w'' =>
     rw [hr] at hq
     cases n with
     | value x =>
      obtain ⟨rfl, rfl⟩ := hq
      exact ih _ _ _ h0 hE hn
     | skip =>
      obtain ⟨rfl, rfl⟩ := hq
      exact ih _ _ _ h0 hE hn
     | enter f args => exact absurd hr (hne w'' f args hcalm _)
     | _ => simp [Oper.quietUpon] at hq
  ·rename_i hw
   simp only [hw] at hk'
   exact ih _ _ _ h0 hE hk'
theorem wp_region_fresh_tail {id : Nat} {Q : Exit → Act → World → Prop} {a : Act} {l : List Oper} (n : Nat) (ch : List (Option Nat)) (sp : List Nat) (RR : Nat → Value → World → Prop) (hm : P.follows .mixedOrders = true) (hL : Region.lexTailB .any l.toArray n = true) (hB : freshB .any l.toArray ch sp = true)
  (h : walkF ch sp RR w P l.toArray (fun E a' => ∀ w', Gr w w' → (∀ i, Gr (E i) w') → wpList P l.toArray Q (l.drop n) a' w') (l.take n) 0 (fun _ => w) a) : (Code.region id l.toArray true).wp P Q a w := by
 simp only [Region.lexTailB, Bool.and_eq_true, decide_eq_true_eq] at hL
 obtain ⟨⟨⟨⟨hsel, hn⟩, hs⟩, hc⟩, hlex⟩ := hL
 have hn' : n < l.length := by simpa using hn
 have htl : (l.take n).length = n := by simp; omega
 have hdl : (l.drop n).length = l.toArray.size - n := by simp
 have inv0 : HeadInv .any l.toArray n (Array.replicate l.toArray.size false) :=
  ⟨by simp, fun j oj _ hl => (by rw [getD_replicate_false] at hl; cases hl), fun t _ ht => getD_in (by simpa using ht) (getD_replicate_false _ _)⟩
 have hgr : Gr w { w with drawn := w.drawn + 1 } := ⟨rfl, rfl, rfl, Nat.le_refl _, fun _ _ => rfl⟩
 have H := headF_lex (P := P) (ch := ch) (sp := sp) (RR := RR) (w := w) (md := .any) (g := l.toArray.size - n) hsel hB hs hc hn (l.take n) 0 _ (fun _ => w) a (fun j hj => by
  have hj' : j < n := by rw [htl] at hj; exact hj
  simp [hj']) (by simpa using htl) inv0 (by rw [htl]; exact hlex) h
 refine wp_region_any hm ?_
 have := wpAny_of_headF (Q' := Q) (g := l.toArray.size - n) hB (fun seen E a' w' h0 hE hL => by
  have h1 := wpAny_of_seq (P := P) (md := .any) (ops := l.toArray) (Q' := Q) (l.drop n) n seen a' w' (fun j => by simp) (by rw [hdl]; exact hL.1) (hL.2 w' h0 hE)
  rwa [hdl] at h1) _ _ _ a { w with drawn := w.drawn + 1 } hgr (fun _ => hgr) H
 rw [htl, show n + (l.toArray.size - n) = l.toArray.size by omega] at this
 exact this
end
end Go.Proofs.YtmcdollkmlcpbaaGreatDoor
namespace Go.Proofs.YtmcdollkmlcpbaaGreatDoor
open Go.RowKit
set_option maxRecDepth 100000
theorem grow_val {P : Program} {o : Oper} {a : Act} {W w' : World} {R : Value → World → Prop} {v : Value} (hr : (execOp a.eval o).run P W = .ok (.value v) w') (hb : Below W.heap.size W w') (hR : R v w') : growUpon P W R ((execOp a.eval o).run P W) := by
 rw [hr]
 exact ⟨hb, hR⟩
end Go.Proofs.YtmcdollkmlcpbaaGreatDoor
namespace Go.Proofs.YtmcdollkmlcpbaaGreatDoor
open Go.RowKit
structure Snap where
 z : World
 lo : Nat
 hi : Nat
def Agr (s : Snap) (W : World) : Prop := s.hi ≤ W.heap.size ∧ ∀ b, s.lo ≤ b → b < s.hi → W.heap[b]? = s.z.heap[b]?
def updS (E : Nat → Snap) (k : Nat) (s : Snap) : Nat → Snap := fun j => if j = k then s else E j
theorem updS_same (E : Nat → Snap) (k : Nat) (s : Snap) : updS E k s k = s := if_pos rfl
theorem updS_ne {E : Nat → Snap} {k j : Nat} {s : Snap} (h : j ≠ k) : updS E k s j = E j := if_neg h
theorem updS_comm (E : Nat → Snap) {i j : Nat} (x y : Snap) (h : i ≠ j) : updS (updS E i x) j y = updS (updS E j y) i x := by
 funext k
 unfold updS
 by_cases h1 : k = j
 ·subst h1
  rw [if_pos rfl, if_neg (fun e => h e.symm), if_pos rfl]
 ·rw [if_neg h1]
  by_cases h2 : k = i
  ·rw [if_pos h2, if_pos h2]
  ·rw [if_neg h2, if_neg h2, if_neg h1]
def appS (E : Nat → Snap) : Option (Nat × Snap) → Nat → Snap
 | none => E
 | some (k, s) => updS E k s
def storeUpon (W : World) (s : Snap) : Result Next → Prop
 | .ok .skip W' => W'.os = W.os ∧ W'.tape = W.tape ∧ W'.output = W.output ∧ W'.heap.size = W.heap.size ∧ (∀ b, ¬ (s.lo ≤ b ∧ b < s.hi) → W'.heap[b]? = W.heap[b]?)
 | _ => False
section
variable {P : Program} {md : Region.Mode} {ops : Array Oper} (w : World) (ch : List (Option Nat)) (sp st : List Nat) (RR : Nat → Nat → Value → World → Prop)
def clsG (s : Option Snap) (W : World) : Prop := Below w.heap.size w W ∧ match s with
 | none => True
 | some s => Agr s W
def chS (E : Nat → Snap) (k : Nat) : Option Snap := (ch.getD k none).map E
def OkG (P : Program) (ops : Array Oper) (k : Nat) (o : Oper) (s : Option Snap) (a : Act) : Prop :=
 Region.wanted o (yielded ops a.tmps) = true →
  if sp.contains k then ∀ W, clsG w s W → growUpon P W (RR k W.heap.size) ((execOp a.eval o).run P W)
  else if st.contains k then ∃ t, s = some t ∧ ∀ W, clsG w s W → storeUpon W t ((execOp a.eval o).run P W)
  else calmB o = true ∧ ∃ v, ∀ W, cls w W → o.quietAt P a (cls w) W v
def OutG (P : Program) (ops : Array Oper) (k : Nat) (o : Oper) (s : Option Snap) (a : Act) (v : Value) (u : Option (Nat × Snap)) : Prop :=
 (Region.wanted o (yielded ops a.tmps) = false ∧ v = undef ∧ u = none) ∨
 (Region.wanted o (yielded ops a.tmps) = true ∧
  if sp.contains k then ∃ lo z, RR k lo v z ∧ w.heap.size ≤ lo ∧ lo ≤ z.heap.size ∧ Below w.heap.size w z ∧ u = some (k, ⟨z, lo, z.heap.size⟩)
  else if st.contains k then v = undef ∧ ∃ t j W z, s = some t ∧ ch.getD k none = some j ∧ clsG w s W ∧ (execOp a.eval o).run P W = .ok .skip z ∧ t.hi ≤ z.heap.size ∧ Below w.heap.size w z ∧ u = some (j, ⟨z, t.lo, t.hi⟩)
  else u = none ∧ ∀ W, cls w W → o.quietAt P a (cls w) W v)
def gO (P : Program) (ops : Array Oper) (k : Nat) (o : Oper) (E : Nat → Snap) (K : (Nat → Snap) → Act → Prop) (a : Act) : Prop :=
 OkG w sp st RR P ops k o (chS ch E k) a ∧ ∀ v u, OutG w ch sp st RR P ops k o (chS ch E k) a v u → K (appS E u) (a.put o.dst v)
def walkG (P : Program) (ops : Array Oper) (Q : (Nat → Snap) → Act → Prop) : List Nat → (Nat → Snap) → Act → Prop
 | [], E, a => Q E a
 | k :: l, E, a => match ops[k]? with
  | none => False
  | some o => gO w ch sp st RR P ops k o E (walkG P ops Q l) a
variable {w ch sp st RR}
def Okay (w : World) (E : Nat → Snap) : Prop := ∀ k, (w.heap.size ≤ (E k).lo ∨ (E k).hi ≤ (E k).lo) ∧ ∃ W, Below w.heap.size w W ∧ Agr (E k) W
theorem Okay.cls {E : Nat → Snap} (h : Okay w E) (k : Nat) : ∃ W, clsG w (chS ch E k) W := by
 unfold chS
 cases hc : ch.getD k none with
 | none => exact ⟨w, Below.refl _ _, trivial⟩
 | some j =>
  obtain ⟨-, W, h1, h2⟩ := h j
  exact ⟨W, h1, h2⟩
theorem Okay.app {k : Nat} {o : Oper} {s : Option Snap} {a : Act} {v : Value} {u : Option (Nat × Snap)} {E : Nat → Snap} (h : Okay w E) (hS : chS ch E k = s) (ho : OutG w ch sp st RR P ops k o s a v u) : Okay w (appS E u) := by
 have key : ∀ (j : Nat) (z : World) (lo hi : Nat), (w.heap.size ≤ lo ∨ hi ≤ lo) → hi ≤ z.heap.size → Below w.heap.size w z → Okay w (appS E (some (j, ⟨z, lo, hi⟩))) := by
  intro j z lo hi h0 h1 h2 i
  show (_ ≤ (updS E j ⟨z, lo, hi⟩ i).lo ∨ (updS E j ⟨z, lo, hi⟩ i).hi ≤ (updS E j ⟨z, lo, hi⟩ i).lo) ∧ ∃ W, _ ∧ Agr (updS E j ⟨z, lo, hi⟩ i) W
  by_cases hi : i = j
  ·subst hi
   rw [updS_same]
   exact ⟨h0, z, h2, h1, fun _ _ _ => rfl⟩
  ·rw [updS_ne hi]; exact h i
 rcases ho with ⟨_, _, rfl⟩ | ⟨_, ho⟩
 ·exact h
 ·split at ho
  ·obtain ⟨lo, z, _, h0, h1, h2, rfl⟩ := ho
   exact key _ _ _ _ (.inl h0) (Nat.le_refl _) h2
  ·split at ho
   ·obtain ⟨_, t, j, _, z, hs, hc, _, _, h1, h2, rfl⟩ := ho
    have : t = E j := by
     have := hS.trans hs
     unfold chS at this
     rw [hc] at this
     exact (Option.some.inj this).symm
    subst this
    exact key _ _ _ _ (h j).1 h1 h2
   ·obtain ⟨rfl, _⟩ := ho
    exact h
theorem gO_mono {k : Nat} {o : Oper} {E : Nat → Snap} {a : Act} {K K' : (Nat → Snap) → Act → Prop} (hE : Okay w E) (h : ∀ E a, Okay w E → K E a → K' E a) (hh : gO w ch sp st RR P ops k o E K a) : gO w ch sp st RR P ops k o E K' a :=
 ⟨hh.1, fun v u hu => h _ _ (hE.app rfl hu) (hh.2 v u hu)⟩
theorem out_some {k : Nat} {o : Oper} {E : Nat → Snap} {a : Act} (hE : Okay w E) (h : OkG w sp st RR P ops k o (chS ch E k) a) : ∃ v u, OutG w ch sp st RR P ops k o (chS ch E k) a v u := by
 obtain ⟨W, hW⟩ := hE.cls (ch := ch) k
 by_cases hw : Region.wanted o (yielded ops a.tmps) = true
 ·have h := h hw
  by_cases hs : sp.contains k = true
  ·rw [if_pos hs] at h
   obtain ⟨v, z, hb, hr⟩ := growUpon_some (h W hW)
   exact ⟨v, _, .inr ⟨hw, by rw [if_pos hs]; exact ⟨_, z, hr, hW.1.size, hb.size, hW.1.trans (hb.mono hW.1.size), rfl⟩⟩⟩
  ·rw [if_neg hs] at h
   by_cases ht : st.contains k = true
   ·rw [if_pos ht] at h
    obtain ⟨t, hst, h⟩ := h
    have hx := h W hW
    unfold storeUpon at hx
    unfold chS at hst
    rcases hc : ch.getD k none with _ | j
    ·rw [hc] at hst; cases hst
    ·have hst' : chS ch E k = some t := hst
     have htj : t = E j := by
      unfold chS at hst'
      rw [hc] at hst'
      exact (Option.some.inj hst').symm
     have hlo : w.heap.size ≤ t.lo ∨ t.hi ≤ t.lo := by rw [htj]; exact (hE j).1
     have hWs := hW
     rw [hst'] at hW
     generalize hrun : (execOp a.eval o).run P W = r at hx
     cases r with
     | halt h w'' => exact hx.elim
     | ok m W' =>
      cases m with
      | skip =>
       obtain ⟨e1, e2, e3, e4, e5⟩ := hx
       exact ⟨undef, _, .inr ⟨hw, by
        rw [if_neg hs, if_pos ht]
        exact ⟨rfl, t, j, W, W', hst, hc, hWs, hrun, by rw [e4]; exact hW.2.1, ⟨e1.trans hW.1.os, e2.trans hW.1.tape, e3.trans hW.1.output, by rw [e4]; exact hW.1.size, fun b hb => (e5 b (by omega)).trans (hW.1.block b hb)⟩, rfl⟩⟩⟩
      | _ => exact hx.elim
   ·rw [if_neg ht] at h
    obtain ⟨_, v, hv⟩ := h
    exact ⟨v, none, .inr ⟨hw, by rw [if_neg hs, if_neg ht]; exact ⟨rfl, hv⟩⟩⟩
 ·exact ⟨undef, none, .inl ⟨by simpa using hw, rfl, rfl⟩⟩
structure IndG (ch : List (Option Nat)) (st : List Nat) (ops : Array Oper) (i j : Nat) (oi oj : Oper) : Prop where
 ne : i ≠ j
 ap : oi.apart ops oj = true
 si : ∀ cs b, oi.op ≠ .select cs b
 sj : ∀ cs b, oj.op ≠ .select cs b
 c1 : ch.getD j none ≠ some i
 c2 : ch.getD i none ≠ some j
 c3 : (st.contains i = true ∨ st.contains j = true) → ∀ t, ch.getD i none = some t → ch.getD j none ≠ some t
theorem IndG.symm {i j : Nat} {oi oj : Oper} (h : IndG ch st ops i j oi oj) (hap : oj.apart ops oi = true) : IndG ch st ops j i oj oi :=
 ⟨h.ne.symm, hap, h.sj, h.si, h.c2, h.c1, fun hs t ht hi => h.c3 (hs.elim .inr .inl) t hi ht⟩
theorem out_idx {k : Nat} {o : Oper} {s : Option Snap} {a : Act} {v : Value} {u : Option (Nat × Snap)} (h : OutG w ch sp st RR P ops k o s a v u) (i : Nat) (x : Snap) (hu : u = some (i, x)) : i = k ∨ (st.contains k = true ∧ ch.getD k none = some i) := by
 rcases h with ⟨_, _, rfl⟩ | ⟨_, h⟩
 ·cases hu
 ·split at h
  ·obtain ⟨lo, z, _, _, _, _, rfl⟩ := h
   left
   injection hu with hu
   injection hu with e _
   exact e.symm
  ·split at h
   ·rename_i hst
    obtain ⟨_, t, j, _, z, _, hc, _, _, _, _, rfl⟩ := h
    injection hu with hu
    injection hu with e _
    subst e
    exact .inr ⟨hst, hc⟩
   ·obtain ⟨rfl, _⟩ := h
    cases hu
theorem chS_app {i j : Nat} {oi oj : Oper} (hI : IndG ch st ops i j oi oj) {s : Option Snap} {a : Act} {v : Value} {u : Option (Nat × Snap)} {E : Nat → Snap} (h : OutG w ch sp st RR P ops i oi s a v u) : chS ch (appS E u) j = chS ch E j := by
 unfold chS
 cases hc : ch.getD j none with
 | none => rfl
 | some t =>
  show some _ = some _
  rcases u with _ | ⟨x, y⟩
  ·rfl
  ·show some (updS E x y t) = some (E t)
   rw [updS_ne]
   rintro rfl
   rcases out_idx h t y rfl with e | ⟨h1, h2⟩
   ·exact hI.c1 (by rw [hc, e])
   ·exact hI.c3 (.inl h1) t h2 hc
theorem appS_comm {i j : Nat} {oi oj : Oper} (hI : IndG ch st ops i j oi oj) {s s' : Option Snap} {a a' : Act} {v v' : Value} {u u' : Option (Nat × Snap)} {E : Nat → Snap} (h : OutG w ch sp st RR P ops i oi s a v u) (h' : OutG w ch sp st RR P ops j oj s' a' v' u') : appS (appS E u) u' = appS (appS E u') u := by
 rcases u with _ | ⟨x, y⟩
 ·rfl
 ·rcases u' with _ | ⟨x', y'⟩
  ·rfl
  ·refine updS_comm E y y' ?_
   rintro rfl
   rcases out_idx h x y rfl with e | ⟨h1, h2⟩ <;> rcases out_idx h' x y' rfl with e' | ⟨h1', h2'⟩
   ·exact hI.ne (e.symm.trans e')
   ·exact hI.c1 (by rw [h2', e])
   ·exact hI.c2 (by rw [h2, e'])
   ·exact hI.c3 (.inl h1) x h2 h2'
theorem ok_put {j : Nat} {oj : Oper} {s : Option Snap} {a : Act} {d : Option Tmp} {v : Value} (hj : ∀ cs b, oj.op ≠ .select cs b) (h : ∀ x, d = some x → x ∉ oj.looksAt ops) :
  OkG w sp st RR P ops j oj s (a.put d v) ↔ OkG w sp st RR P ops j oj s a := by
 unfold OkG Oper.quietAt
 rw [wanted_put oj a d v h, execOp_put oj hj a d v h]
theorem out_put {j : Nat} {oj : Oper} {s : Option Snap} {a : Act} {d : Option Tmp} {v x : Value} {u : Option (Nat × Snap)} (hj : ∀ cs b, oj.op ≠ .select cs b) (h : ∀ x, d = some x → x ∉ oj.looksAt ops) :
  OutG w ch sp st RR P ops j oj s (a.put d v) x u ↔ OutG w ch sp st RR P ops j oj s a x u := by
 unfold OutG Oper.quietAt
 rw [wanted_put oj a d v h, execOp_put oj hj a d v h]
theorem gO_swap {i j : Nat} {oi oj : Oper} (hI : IndG ch st ops i j oi oj) (hap : oj.apart ops oi = true) {K : (Nat → Snap) → Act → Prop} {E : Nat → Snap} {a : Act} (hE : Okay w E)
  (h : gO w ch sp st RR P ops i oi E (fun E' a' => gO w ch sp st RR P ops j oj E' K a') a) : gO w ch sp st RR P ops j oj E (fun E' a' => gO w ch sp st RR P ops i oi E' K a') a := by
 obtain ⟨h1, h2, h3⟩ := Oper.apart_spec hI.ap
 obtain ⟨hok, hall⟩ := h
 obtain ⟨v0, u0, ho0⟩ := out_some hE hok
 have hj0 := (hall v0 u0 ho0).1
 rw [chS_app hI ho0, ok_put hI.sj h1] at hj0
 refine ⟨hj0, fun x uj hoj => ⟨?_, fun v ui hoi => ?_⟩⟩
 ·rw [chS_app (hI.symm hap) hoj, ok_put hI.si h3]
  exact hok
 ·rw [chS_app (hI.symm hap) hoj, out_put hI.si h3] at hoi
  have := (hall v ui hoi).2 x uj (by rw [chS_app hI hoi, out_put hI.sj h1]; exact hoj)
  rw [appS_comm hI hoi hoj, Act.put_comm a v x h2] at this
  exact this
theorem walkG_pull {Q : (Nat → Snap) → Act → Prop} {j : Nat} {oj : Oper} (hj : ops[j]? = some oj) (l2 : List Nat) : ∀ (l1 : List Nat) (E : Nat → Snap) (a : Act), (∀ i ∈ l1, ∃ oi, ops[i]? = some oi ∧ IndG ch st ops i j oi oj ∧ oj.apart ops oi = true) → Okay w E →
  walkG w ch sp st RR P ops Q (l1 ++ j :: l2) E a → gO w ch sp st RR P ops j oj E (walkG w ch sp st RR P ops Q (l1 ++ l2)) a
 | [], E, a, _, _, h => by
  simp only [List.nil_append, walkG, hj] at h
  exact h
 | i :: l1, E, a, hI, hE, h => by
  obtain ⟨oi, hoi, hI1, hap⟩ := hI i List.mem_cons_self
  simp only [List.cons_append, walkG, hoi] at h ⊢
  refine gO_swap hI1 hap hE (gO_mono hE (fun E' a' hE' h' => ?_) h)
  exact walkG_pull hj l2 l1 E' a' (fun i hi => hI i (List.mem_cons_of_mem _ hi)) hE' h'
def indB (ch : List (Option Nat)) (st : List Nat) (ops : Array Oper) (i j : Nat) : Bool :=
 match ops[i]?, ops[j]? with
 | some oi, some oj => oi.apart ops oj && oj.apart ops oi && (ch.getD j none != some i) && (ch.getD i none != some j) && (!(st.contains i || st.contains j) || (ch.getD i none).isNone || ch.getD j none != ch.getD i none)
 | _, _ => false
def anc2 (md : Region.Mode) (ops : Array Oper) (i : Nat) : Nat → Nat → Bool
 | 0, _ => false
 | f + 1, j => match ops[j]? with
  | none => false
  | some oj => oj.after.any fun e => Region.binds md e && (e.on == i || (decide (i < e.on) && anc2 md ops i f e.on))
def frwB (md : Region.Mode) (ops : Array Oper) (ch : List (Option Nat)) (st : List Nat) : Bool :=
 Region.noSelect ops && (List.range ops.size).all fun j => ((ops[j]?).map fun oj => oj.after.all fun e => !Region.binds md e || decide (e.on < j)).getD false &&
  (List.range j).all fun i => anc2 md ops i 6 j || indB ch st ops i j
theorem anc2_anc {i : Nat} : ∀ (f j : Nat), anc2 md ops i f j = true → ancB md ops i f j = true
 | 0, _, h => by simp [anc2] at h
 | f + 1, j, h => by
  unfold anc2 at h
  unfold ancB
  cases hj : ops[j]? with
  | none => rw [hj] at h; simp at h
  | some oj =>
   rw [hj] at h
   obtain ⟨e, he, hb⟩ := Array.any_eq_true'.1 h
   simp only [Bool.and_eq_true, Bool.or_eq_true, decide_eq_true_eq] at hb
   refine Array.any_eq_true'.2 ⟨e, he, ?_⟩
   simp only [Bool.and_eq_true, Bool.or_eq_true]
   exact ⟨hb.1, hb.2.elim .inl fun h => .inr (anc2_anc f _ h.2)⟩
structure RealG (w : World) (E : Nat → Snap) (W : World) : Prop where
 base : Below w.heap.size w W
 agr : ∀ k, Agr (E k) W
 lo : ∀ k, w.heap.size ≤ (E k).lo ∨ (E k).hi ≤ (E k).lo
 dis : ∀ k j, k ≠ j → (E k).hi ≤ (E j).lo ∨ (E j).hi ≤ (E k).lo ∨ (E k).hi ≤ (E k).lo ∨ (E j).hi ≤ (E j).lo
theorem RealG.okay {E : Nat → Snap} {W : World} (h : RealG w E W) : Okay w E := fun k => ⟨h.lo k, W, h.base, h.agr k⟩
theorem RealG.make {E : Nat → Snap} {W z : World} (h : RealG w E W) (hb : Below W.heap.size W z) (k : Nat) : RealG w (updS E k ⟨z, W.heap.size, z.heap.size⟩) z := by
 refine ⟨h.base.trans (hb.mono h.base.size), fun j => ?_, fun j => ?_, fun i j hij => ?_⟩
 ·by_cases hj : j = k
  ·subst hj; rw [updS_same]; exact ⟨Nat.le_refl _, fun _ _ _ => rfl⟩
  ·rw [updS_ne hj]
   have h1 := h.agr j
   exact ⟨Nat.le_trans h1.1 hb.size, fun b hb1 hb2 => (hb.block b (Nat.lt_of_lt_of_le hb2 h1.1)).trans (h1.2 b hb1 hb2)⟩
 ·by_cases hj : j = k
  ·subst hj; rw [updS_same]; exact .inl h.base.size
  ·rw [updS_ne hj]; exact h.lo j
 ·by_cases hi : i = k
  ·subst hi
   rw [updS_same, updS_ne (Ne.symm hij)]
   exact .inr (.inl (h.agr j).1)
  ·rw [updS_ne hi]
   by_cases hj : j = k
   ·subst hj
    rw [updS_same]
    exact .inl (h.agr i).1
   ·rw [updS_ne hj]; exact h.dis i j hij
theorem RealG.store {E : Nat → Snap} {W z : World} (h : RealG w E W) (j : Nat) (e1 : z.os = W.os) (e2 : z.tape = W.tape) (e3 : z.output = W.output) (e4 : z.heap.size = W.heap.size) (e5 : ∀ b, ¬ ((E j).lo ≤ b ∧ b < (E j).hi) → z.heap[b]? = W.heap[b]?) : RealG w (updS E j ⟨z, (E j).lo, (E j).hi⟩) z := by
 refine ⟨⟨e1.trans h.base.os, e2.trans h.base.tape, e3.trans h.base.output, by rw [e4]; exact h.base.size, fun b hb => (e5 b (by have := h.lo j; omega)).trans (h.base.block b hb)⟩, fun k => ?_, fun k => ?_, fun i k hik => ?_⟩
 ·by_cases hk : k = j
  ·subst hk; rw [updS_same]; exact ⟨by rw [e4]; exact (h.agr k).1, fun _ _ _ => rfl⟩
  ·rw [updS_ne hk]
   have h1 := h.agr k
   exact ⟨by rw [e4]; exact h1.1, fun b hb1 hb2 => (e5 b (by have := h.dis k j hk; omega)).trans (h1.2 b hb1 hb2)⟩
 ·by_cases hk : k = j
  ·subst hk; rw [updS_same]; exact h.lo k
  ·rw [updS_ne hk]; exact h.lo k
 ·by_cases hi : i = j
  ·subst hi
   rw [updS_same, updS_ne (Ne.symm hik)]
   exact h.dis i k hik
  ·rw [updS_ne hi]
   by_cases hk : k = j
   ·subst hk; rw [updS_same]; exact h.dis i k hik
   ·rw [updS_ne hk]; exact h.dis i k hik
theorem cls_of {W : World} (h : Below w.heap.size w W) : cls w W := below_plus h
theorem wpAny_of_walkG {Q : (Nat → Snap) → Act → Prop} {Q' : Exit → Act → World → Prop} (hB : frwB md ops ch st = true) (hQ : ∀ E a W, RealG w E W → Q E a → Q' .normal a W) :
  ∀ (n : Nat) (l : List Nat) (seen : Array Bool) (E : Nat → Snap) (a : Act) (W : World), l.length = n → l.Pairwise (· < ·) → (∀ k, k ∈ l ↔ seen.getD k true = false) → Closed md ops seen → RealG w E W → walkG w ch sp st RR P ops Q l E a → wpAny P md ops Q' n seen a W := by
 simp only [frwB, Bool.and_eq_true] at hB
 obtain ⟨hsel, hall⟩ := hB
 have hpre : ∀ j oj, ops[j]? = some oj → ∀ e ∈ oj.after, Region.binds md e = true → e.on < j := fun j oj hj e he hb => by
  have h1 := List.all_eq_true.1 hall j (List.mem_range.2 (Array.getElem?_eq_some_iff.1 hj).1)
  simp only [Bool.and_eq_true, hj, Option.map_some, Option.getD_some] at h1
  have := Array.all_eq_true'.1 h1.1 e he
  simpa [hb] using this
 have hrdy : ∀ (l : List Nat) (seen : Array Bool), (∀ k, k ∈ l ↔ seen.getD k true = false) → l.Pairwise (· < ·) → Closed md ops seen → Region.ready md ops seen = [] → l = [] := by
  intro l seen hm hp hc hr
  cases l with
  | nil => rfl
  | cons k l =>
   exfalso
   have hk := (hm k).1 List.mem_cons_self
   have hlt : k < ops.size := by
    rw [← hc.1]
    rcases Nat.lt_or_ge k seen.size with h | h
    ·exact h
    ·rw [Array.getD_eq_getD_getElem?, Array.getElem?_eq_none h] at hk; cases hk
   have : k ∈ Region.ready md ops seen := mem_ready.2 ⟨hk, ops[k], Array.getElem?_eq_getElem hlt, fun e he hb => by
    have h1 := hpre k _ (Array.getElem?_eq_getElem hlt) e he hb
    cases hse : seen.getD e.on false with
    | true => rfl
    | false =>
     have hnot : e.on ∉ k :: l := fun hin => by
      rcases List.mem_cons.1 hin with h | h
      ·omega
      ·have := (List.pairwise_cons.1 hp).1 _ h; omega
     have := mt (hm e.on).2 hnot
     exfalso
     apply this
     have hlt2 : e.on < seen.size := by rw [hc.1]; omega
     rw [Array.getD_eq_getD_getElem?, Array.getElem?_eq_getElem hlt2] at hse ⊢
     exact hse⟩
   rw [hr] at this
   cases this
 intro n
 induction n with
 | zero =>
  intro l seen E a W hl hp hm hc hR h
  obtain rfl := List.eq_nil_of_length_eq_zero hl
  refine ⟨?_, hQ _ _ _ hR h⟩
  cases hr : Region.ready md ops seen with
  | nil => rfl
  | cons j r =>
   have hj : j ∈ Region.ready md ops seen := by rw [hr]; exact List.mem_cons_self
   exact absurd ((hm j).2 (mem_ready.1 hj).1) (by simp)
 | succ n ih =>
  intro l seen E a W hl hp hm hc hR h
  refine ⟨fun hr => ?_, fun j hj => ?_⟩
  ·obtain rfl := hrdy l seen hm hp hc hr
   simp at hl
  ·obtain ⟨hun, oj, hoj, hpred⟩ := mem_ready.1 hj
   obtain ⟨l1, l2, rfl⟩ := List.append_of_mem ((hm j).2 hun)
   have hl1 : ∀ i ∈ l1, i < j := fun i hi => (List.pairwise_append.1 hp).2.2 i hi j List.mem_cons_self
   have hjlt := (Array.getElem?_eq_some_iff.1 hoj).1
   have h1 := List.all_eq_true.1 hall j (List.mem_range.2 hjlt)
   simp only [Bool.and_eq_true] at h1
   have hind : ∀ i ∈ l1, ∃ oi, ops[i]? = some oi ∧ IndG ch st ops i j oi oj ∧ oj.apart ops oi = true := fun i hi => by
    have h2 := List.all_eq_true.1 h1.2 i (List.mem_range.2 (hl1 i hi))
    have hiun : seen.getD i true = false := (hm i).1 (List.mem_append_left _ hi)
    have hna : anc2 md ops i 6 j = false := by
     cases hh : anc2 md ops i 6 j with
     | false => rfl
     | true =>
      have := anc_seen hc i 6 j oj hoj hpred (anc2_anc _ _ hh)
      rw [getD_both hiun] at this
      cases this
    rw [hna, Bool.false_or] at h2
    have hilt : i < ops.size := Nat.lt_trans (hl1 i hi) hjlt
    have hoi := Array.getElem?_eq_getElem hilt
    refine ⟨_, hoi, ?_⟩
    unfold indB at h2
    rw [hoi, hoj] at h2
    simp only [Bool.and_eq_true, bne_iff_ne, ne_eq, Bool.or_eq_true, Bool.not_eq_true', Option.isNone_iff_eq_none] at h2
    obtain ⟨⟨⟨⟨a1, a2⟩, a3⟩, a4⟩, a5⟩ := h2
    have hs := Region.noSelect_spec hsel
    refine ⟨⟨by have := hl1 i hi; omega, a1, fun cs b => hs _ _ cs b hoi, fun cs b => hs _ _ cs b hoj, a3, a4, fun hst t ht hjt => ?_⟩, a2⟩
    rcases a5 with (a5 | a5) | a5
    ·rw [Bool.or_eq_false_iff] at a5
     rcases hst with hst | hst
     ·rw [a5.1] at hst; cases hst
     ·rw [a5.2] at hst; cases hst
    ·rw [ht] at a5; cases a5
    ·exact a5 (by rw [ht, hjt])
   have hg := walkG_pull hoj l2 l1 E a hind hR.okay h
   have hnext : ∀ E' a' W', RealG w E' W' → walkG w ch sp st RR P ops Q (l1 ++ l2) E' a' → wpAny P md ops Q' n (seen.setIfInBounds j true) a' W' := fun E' a' W' hR' h' => by
    refine ih (l1 ++ l2) _ E' a' W' (by simp at hl ⊢; omega) ?_ (fun k => ?_) (hc.set hj) hR' h'
    ·rw [List.pairwise_append, List.pairwise_cons] at hp
     rw [List.pairwise_append]
     exact ⟨hp.1, hp.2.1.2, fun x hx y hy => hp.2.2 x hx y (List.mem_cons_of_mem _ hy)⟩
    ·have hjn1 : j ∉ l1 := fun h => absurd (hl1 j h) (Nat.lt_irrefl _)
     have hjn2 : j ∉ l2 := fun h => by
      rw [List.pairwise_append, List.pairwise_cons] at hp
      exact absurd (hp.2.1.1 j h) (Nat.lt_irrefl _)
     by_cases hkj : k = j
     ·subst hkj
      constructor
      ·intro h
       rcases List.mem_append.1 h with h | h
       ·exact absurd h hjn1
       ·exact absurd h hjn2
      ·intro h
       rw [Array.getD_eq_getD_getElem?, Array.getElem?_setIfInBounds_self_of_lt (by rw [hc.1]; exact hjlt)] at h
       cases h
     ·rw [getD_set_ne true (Ne.symm hkj), ← hm k]
      simp only [List.mem_append, List.mem_cons]
      constructor
      ·rintro (h | h)
       ·exact .inl h
       ·exact .inr (.inr h)
      ·rintro (h | h | h)
       ·exact .inl h
       ·exact absurd h hkj
       ·exact .inr h
   unfold wpOp
   simp only [hoj]
   obtain ⟨hok, hout⟩ := hg
   have hcls : clsG w (chS ch E j) W := by
    refine ⟨hR.base, ?_⟩
    unfold chS
    cases ch.getD j none with
    | none => trivial
    | some t => exact hR.agr t
   split
   ·rename_i hw
    refine .inl ?_
    have hok := hok hw
    by_cases hs : sp.contains j = true
    ·rw [if_pos hs] at hok
     have hgr := hok W hcls
     have fin : ∀ v z, Below W.heap.size W z → RR j W.heap.size v z → wpAny P md ops Q' n (seen.setIfInBounds j true) (a.put oj.dst v) z := fun v z hb hr =>
      hnext _ _ _ (hR.make hb j) (hout v (some (j, ⟨z, W.heap.size, z.heap.size⟩)) (.inr ⟨hw, by rw [if_pos hs]; exact ⟨_, z, hr, hR.base.size, hb.size, hR.base.trans (hb.mono hR.base.size), rfl⟩⟩))
     unfold growUpon at hgr
     unfold Oper.wp
     generalize (execOp a.eval oj).run P W = r at *
     split at hgr
     ·exact fin _ _ hgr.1 hgr.2
     ·obtain ⟨rfl, hcall⟩ := hgr
      refine hcall.mono fun e w'' ⟨v, he, hb, hr⟩ => ?_
      subst he
      exact fin v w'' hb hr
     ·exact hgr.elim
    ·rw [if_neg hs] at hok
     by_cases ht : st.contains j = true
     ·rw [if_pos ht] at hok
      obtain ⟨t, hst, hok⟩ := hok
      have hx := hok W hcls
      rcases hcj : ch.getD j none with _ | i
      ·unfold chS at hst; rw [hcj] at hst; cases hst
      ·have hti : t = E i := by
        unfold chS at hst
        rw [hcj] at hst
        exact (Option.some.inj hst).symm
       unfold storeUpon at hx
       unfold Oper.wp
       generalize hrun : (execOp a.eval oj).run P W = r at *
       cases r with
       | halt h w'' => exact hx.elim
       | ok m W' =>
        cases m with
        | skip =>
         obtain ⟨e1, e2, e3, e4, e5⟩ := hx
         subst hti
         have hR' := hR.store i e1 e2 e3 e4 e5
         exact hnext _ _ _ hR' (hout undef (some (i, ⟨W', (E i).lo, (E i).hi⟩)) (.inr ⟨hw, by rw [if_neg hs, if_pos ht]; exact ⟨rfl, _, i, W, W', hst, hcj, hcls, hrun, by rw [e4]; exact (hR.agr i).1, hR'.base, rfl⟩⟩))
        | _ => exact hx.elim
     ·rw [if_neg ht] at hok
      obtain ⟨hcalm, v, hv⟩ := hok
      have hq := hv W (cls_of hR.base)
      have hn := hnext _ _ W hR (hout v none (.inr ⟨hw, by rw [if_neg hs, if_neg ht]; exact ⟨rfl, hv⟩⟩))
      unfold Oper.quietAt at hq
      unfold Oper.wp
      have hne := calm_spec P W
      cases hr : (execOp a.eval oj).run P W with
      | halt h w'' => rw [hr] at hq; simp [Oper.quietUpon] at hq
      | ok m w'' =>
       rw [hr] at hq
       cases m with
       | value x =>
        obtain ⟨rfl, rfl⟩ := hq
        exact hn
       | skip =>
        obtain ⟨rfl, rfl⟩ := hq
        exact hn
       | enter f args => exact absurd hr (hne w'' f args hcalm _)
       | _ => simp [Oper.quietUpon] at hq
   ·rename_i hw
    exact hnext _ _ W hR (hout undef none (.inl ⟨by simpa using hw, rfl, rfl⟩))
def walkH (w : World) (ch : List (Option Nat)) (sp st : List Nat) (RR : Nat → Nat → Value → World → Prop) (P : Program) (ops : Array Oper) (Q : (Nat → Snap) → Act → Prop) : List Oper → Nat → (Nat → Snap) → Act → Prop
 | [], _, E, a => Q E a
 | o :: l, k, E, a => gO w ch sp st RR P ops k o E (walkH w ch sp st RR P ops Q l (k + 1)) a
theorem walkG_of_H {Q : (Nat → Snap) → Act → Prop} : ∀ (l : List Oper) (k : Nat) (E : Nat → Snap) (a : Act), (∀ j, j < l.length → ops[k + j]? = l[j]?) → walkH w ch sp st RR P ops Q l k E a → walkG w ch sp st RR P ops Q (List.range' k l.length) E a
 | [], _, _, _, _, h => h
 | o :: l, k, E, a, hl, h => by
  have h0 : ops[k]? = some o := by simpa using hl 0 (by simp)
  simp only [List.length_cons, List.range'_succ, walkG, h0]
  exact ⟨h.1, fun v u hu => walkG_of_H l (k + 1) _ _ (fun j hj => by have := hl (j + 1) (by simp; omega); simpa [Nat.add_assoc, Nat.add_comm 1 j] using this) (h.2 v u hu)⟩
theorem wp_region_frw {id : Nat} {Q : Exit → Act → World → Prop} {a : Act} {l : List Oper} (ch : List (Option Nat)) (sp st : List Nat) (RR : Nat → Nat → Value → World → Prop) (hm : P.follows .mixedOrders = true) (hB : frwB .any l.toArray ch st = true)
  (h : walkH w ch sp st RR P l.toArray (fun E a' => ∀ W, RealG w E W → Q .normal a' W) l 0 (fun _ => ⟨w, 0, 0⟩) a) : (Code.region id l.toArray true).wp P Q a w := by
 refine wp_region_any hm ?_
 have hR : RealG w (fun _ => ⟨w, 0, 0⟩) { w with drawn := w.drawn + 1 } :=
  ⟨⟨rfl, rfl, rfl, Nat.le_refl _, fun _ _ => rfl⟩, fun _ => ⟨Nat.zero_le _, fun b _ hb => absurd hb (Nat.not_lt_zero _)⟩, fun _ => .inr (Nat.le_refl _), fun _ _ _ => .inl (Nat.le_refl _)⟩
 have hG := walkG_of_H (ops := l.toArray) l 0 _ a (fun j _ => by simp) h
 have := wpAny_of_walkG (Q' := Q) hB (fun E a W hR hq => hq W hR) l.length (List.range' 0 l.length) (Array.replicate l.toArray.size false) (fun _ => ⟨w, 0, 0⟩) a { w with drawn := w.drawn + 1 } (by simp) List.pairwise_lt_range' (fun k => by
  rw [List.mem_range']
  constructor
  ·rintro ⟨i, hi, rfl⟩
   rw [Array.getD_eq_getD_getElem?, Array.getElem?_replicate]
   simp at hi ⊢
   simp [hi]
  ·intro hk
   rw [Array.getD_eq_getD_getElem?, Array.getElem?_replicate] at hk
   by_cases hlt : k < l.toArray.size
   ·exact ⟨k, by simpa using hlt, by simp⟩
   ·rw [if_neg hlt] at hk; cases hk) ⟨by simp, fun j oj _ hl => (by rw [getD_replicate_false] at hl; cases hl)⟩ hR hG
 simpa using this
theorem walkH_end {Q : (Nat → Snap) → Act → Prop} {E : Nat → Snap} {k : Nat} {a : Act} (h : Q E a) : walkH w ch sp st RR P ops Q [] k E a := h
theorem walkH_one {Q : (Nat → Snap) → Act → Prop} {E : Nat → Snap} {o : Oper} {l : List Oper} {k : Nat} {a : Act} (hs : sp.contains k = false) (ht : st.contains k = false) (hc : calmB o = true)
  (h : wpQuiet P ops (cls w) (walkH w ch sp st RR P ops Q l (k + 1) E) [o] a) : walkH w ch sp st RR P ops Q (o :: l) k E a := by
 unfold wpQuiet at h
 by_cases hw : Region.wanted o (yielded ops a.tmps) = true
 ·rw [if_pos hw] at h
  obtain ⟨v, hv, hk⟩ := h
  refine ⟨fun _ => by rw [if_neg (by rw [hs]; decide), if_neg (by rw [ht]; decide)]; exact ⟨hc, v, hv⟩, fun x u hu => ?_⟩
  rcases hu with ⟨h0, _⟩ | ⟨_, hu⟩
  ·rw [hw] at h0; cases h0
  ·rw [if_neg (by rw [hs]; decide), if_neg (by rw [ht]; decide)] at hu
   obtain ⟨rfl, hx⟩ := hu
   obtain rfl : x = v := quiet_one (cls_self w) hc (hx _ (cls_self w)) (hv _ (cls_self w))
   exact hk
 ·have hw' : Region.wanted o (yielded ops a.tmps) = false := by simpa using hw
  rw [if_neg hw] at h
  refine ⟨fun h0 => absurd h0 hw, fun x u hu => ?_⟩
  rcases hu with ⟨_, rfl, rfl⟩ | ⟨h0, _⟩
  ·exact h
  ·rw [hw'] at h0; cases h0
theorem walkH_make {Q : (Nat → Snap) → Act → Prop} {E : Nat → Snap} {o : Oper} {l : List Oper} {k : Nat} {a : Act} (hs : sp.contains k = true) (hc : ch.getD k none = none) (hw : Region.wanted o (yielded ops a.tmps) = true)
  (h1 : ∀ x, growUpon P (plus w x) (RR k (plus w x).heap.size) ((execOp a.eval o).run P (plus w x)))
  (h2 : ∀ v lo z, RR k lo v z → w.heap.size ≤ lo → lo ≤ z.heap.size → Below w.heap.size w z → walkH w ch sp st RR P ops Q l (k + 1) (updS E k ⟨z, lo, z.heap.size⟩) (a.put o.dst v)) : walkH w ch sp st RR P ops Q (o :: l) k E a := by
 refine ⟨fun _ => ?_, fun x u hu => ?_⟩
 ·rw [if_pos hs]
  intro W hW
  obtain ⟨y, rfl⟩ := below_plus hW.1
  exact h1 y
 ·rcases hu with ⟨h0, _⟩ | ⟨_, hu⟩
  ·rw [hw] at h0; cases h0
  ·rw [if_pos hs] at hu
   obtain ⟨lo, z, a1, a2, a3, a4, rfl⟩ := hu
   exact h2 x lo z a1 a2 a3 a4
theorem walkH_store {Q : (Nat → Snap) → Act → Prop} {E : Nat → Snap} {o : Oper} {l : List Oper} {k j : Nat} {a : Act} (hs : sp.contains k = false) (ht : st.contains k = true) (hc : ch.getD k none = some j) (hw : Region.wanted o (yielded ops a.tmps) = true)
  (h1 : ∀ W, Below w.heap.size w W → Agr (E j) W → ∃ z, (execOp a.eval o).run P W = .ok .skip z ∧ storeUpon W (E j) (.ok .skip z) ∧ (Below w.heap.size w z → walkH w ch sp st RR P ops Q l (k + 1) (updS E j ⟨z, (E j).lo, (E j).hi⟩) (a.put o.dst undef))) : walkH w ch sp st RR P ops Q (o :: l) k E a := by
 have hch : chS ch E k = some (E j) := by unfold chS; rw [hc]; rfl
 refine ⟨fun _ => ?_, fun x u hu => ?_⟩
 ·rw [if_neg (by rw [hs]; decide), if_pos ht, hch]
  refine ⟨_, rfl, fun W hW => ?_⟩
  obtain ⟨z, e1, e2, _⟩ := h1 W hW.1 hW.2
  rw [e1]; exact e2
 ·rcases hu with ⟨h0, _⟩ | ⟨_, hu⟩
  ·rw [hw] at h0; cases h0
  ·rw [if_neg (by rw [hs]; decide), if_pos ht, hch] at hu
   obtain ⟨rfl, t, i, W, z, e1, e2, hW, hr, _, hb, rfl⟩ := hu
   obtain rfl : E j = t := Option.some.inj e1
   obtain rfl : j = i := Option.some.inj (hc.symm.trans e2)
   obtain ⟨z', f1, f2, f3⟩ := h1 W hW.1 hW.2
   rw [hr] at f1
   injection f1 with _ f1
   subst f1
   exact f3 hb
end
theorem grow_alloc {P : Program} {W : World} {t : TypeId} {cs : Array Value} {R : Value → World → Prop} {r : Result Next} (h : r = .ok (.value (.pointer (some ⟨W.heap.size, 0, none⟩))) (W.alloc (.cells cs t))) (hR : R (.pointer (some ⟨W.heap.size, 0, none⟩)) (W.alloc (.cells cs t))) : growUpon P W R r := by
 subst h; exact ⟨below_alloc _ _, hR⟩
theorem Agr.blk {s : Snap} {W : World} (h : Agr s W) {g : Nat} {t : TypeId} {cs : Array Value} (hb : Blk s.z g t cs) (h1 : s.lo ≤ g) (h2 : g < s.hi) : Blk W g t cs := (h.2 g h1 h2).trans hb
theorem Agr.own {s : Snap} {W : World} (h : Agr s W) {e : TypeId} {size n : Nat} {v : Value} {xs : List Value} (ho : s.z.ownsRow s.lo e size v n xs) (h2 : s.hi = s.z.heap.size) : W.ownsRow s.lo e size v n xs := by
 refine ⟨ho.1, ?_⟩
 rcases ho.2 with hn | ⟨g, cap, cur, rfl, hbg, hgg, rest⟩
 ·exact .inl hn
 ·have hlt := (Array.getElem?_eq_some_iff.1 hgg).1
  exact .inr ⟨g, cap, cur, rfl, hbg, (h.2 g hbg (by omega)).trans hgg, rest⟩
theorem storeUpon.cell {W z : World} {s : Snap} (h : storeUpon W s (.ok .skip z)) (p : Addr) (v : Value) (h1 : s.lo ≤ p.block) (h2 : p.block < s.hi) : storeUpon W s (.ok .skip (z.setCell p v)) := by
 obtain ⟨e1, e2, e3, e4, e5⟩ := h
 exact ⟨e1, e2, e3, (by simp [World.setCell] : (z.setCell p v).heap.size = z.heap.size).trans e4, fun b hb => (heap_setCell_other z p b v (by rintro rfl; exact hb ⟨h1, h2⟩)).trans (e5 b hb)⟩
theorem storeUpon.same (W : World) (s : Snap) : storeUpon W s (.ok .skip W) := ⟨rfl, rfl, rfl, rfl, fun _ _ => rfl⟩
end Go.Proofs.YtmcdollkmlcpbaaGreatDoor
set_option linter.unusedSimpArgs false
set_option linter.unusedVariables false
namespace Go.Proofs.YtmcdollkmlcpbaaGreatDoor
open Go.RowKit
abbrev Rec := Nat → Option Value
def recSet (E : Rec) (k : Nat) (v : Value) : Rec := fun j => if j = k then some v else E j
theorem recSet_same (E : Rec) (k : Nat) (v : Value) : recSet E k v k = some v := if_pos rfl
theorem recSet_ne {E : Rec} {k j : Nat} {v : Value} (h : j ≠ k) : recSet E k v j = E j := if_neg h
theorem recSet_comm (E : Rec) {i j : Nat} (x y : Value) (h : i ≠ j) : recSet (recSet E i x) j y = recSet (recSet E j y) i x := by
 funext k
 unfold recSet
 by_cases h1 : k = j
 ·subst h1
  rw [if_pos rfl, if_neg (fun e => h e.symm), if_pos rfl]
 ·rw [if_neg h1]
  by_cases h2 : k = i
  ·rw [if_pos h2, if_pos h2]
  ·rw [if_neg h2, if_neg h2, if_neg h1]
def recApp (E : Rec) (k : Nat) : Option Value → Rec
 | none => E
 | some v => recSet E k v
theorem recApp_comm (E : Rec) {i j : Nat} (u u' : Option Value) (h : i ≠ j) : recApp (recApp E i u) j u' = recApp (recApp E j u') i u := by
 cases u with
 | none => rfl
 | some x => cases u' with
  | none => rfl
  | some y => exact recSet_comm E x y h
theorem recApp_ne {E : Rec} {k j : Nat} {u : Option Value} (h : j ≠ k) : recApp E k u j = E j := by
 cases u with
 | none => rfl
 | some x => exact recSet_ne h
structure InvW (I : Rec → World → Prop) where
 s : Rec
 W : World
 h : I s W
abbrev clsI (I : Rec → World → Prop) : World → Prop := fun w' => ∃ x : InvW I, w' = x.W
def invUpon (P : Program) (W : World) (R : Value → World → Prop) : Result Next → Prop
 | .ok (.value u) w' => R u w'
 | .ok .skip w' => R undef w'
 | .ok (.enter f args) w' => w' = W ∧ Calls P f args W (fun e w'' => ∃ v, e = .returned v ∧ R v w'')
 | _ => False
section
variable {P : Program} {md : Region.Mode} {ops : Array Oper} (I : Rec → World → Prop) (ch : List (List Nat)) (sp : List Nat) (RR : Nat → Value → Prop)
def OkI (P : Program) (ops : Array Oper) (k : Nat) (o : Oper) (E : Rec) (a : Act) : Prop :=
 Region.wanted o (yielded ops a.tmps) = true →
  if sp.contains k then (∃ v, RR k v) ∧ ∀ s W, I s W → s k = none → (∀ j ∈ ch.getD k [], s j = E j) → invUpon P W (fun v W' => RR k v ∧ I (recSet s k v) W') ((execOp a.eval o).run P W)
  else calmB o = true ∧ ∃ v, ∀ W, clsI I W → o.quietAt P a (clsI I) W v
def OutI (P : Program) (ops : Array Oper) (k : Nat) (o : Oper) (a : Act) (v : Value) (u : Option Value) : Prop :=
 (Region.wanted o (yielded ops a.tmps) = false ∧ v = undef ∧ u = none) ∨
 (Region.wanted o (yielded ops a.tmps) = true ∧ if sp.contains k then RR k v ∧ u = some v else u = none ∧ ∀ W, clsI I W → o.quietAt P a (clsI I) W v)
def gI (P : Program) (ops : Array Oper) (k : Nat) (o : Oper) (E : Rec) (K : Rec → Act → Prop) (a : Act) : Prop :=
 OkI I ch sp RR P ops k o E a ∧ ∀ v u, OutI I sp RR P ops k o a v u → K (recApp E k u) (a.put o.dst v)
def walkI (P : Program) (ops : Array Oper) (Q : Rec → Act → Prop) : List Nat → Rec → Act → Prop
 | [], E, a => Q E a
 | k :: l, E, a => match ops[k]? with
  | none => False
  | some o => gI I ch sp RR P ops k o E (walkI P ops Q l) a
variable {I ch sp RR}
theorem gI_mono {k : Nat} {o : Oper} {E : Rec} {a : Act} {K K' : Rec → Act → Prop} (h : ∀ E a, K E a → K' E a) (hh : gI I ch sp RR P ops k o E K a) : gI I ch sp RR P ops k o E K' a := ⟨hh.1, fun v u hu => h _ _ (hh.2 v u hu)⟩
theorem outI_some {k : Nat} {o : Oper} {E : Rec} {a : Act} (h : OkI I ch sp RR P ops k o E a) : ∃ v u, OutI I sp RR P ops k o a v u := by
 by_cases hw : Region.wanted o (yielded ops a.tmps) = true
 ·have h := h hw
  by_cases hs : sp.contains k = true
  ·rw [if_pos hs] at h
   obtain ⟨⟨v, hv⟩, _⟩ := h
   exact ⟨v, some v, .inr ⟨hw, by rw [if_pos hs]; exact ⟨hv, rfl⟩⟩⟩
  ·rw [if_neg hs] at h
   obtain ⟨_, v, hv⟩ := h
   exact ⟨v, none, .inr ⟨hw, by rw [if_neg hs]; exact ⟨rfl, hv⟩⟩⟩
 ·exact ⟨undef, none, .inl ⟨by simpa using hw, rfl, rfl⟩⟩
structure IndI (ch : List (List Nat)) (ops : Array Oper) (i j : Nat) (oi oj : Oper) : Prop where
 ne : i ≠ j
 ap : oi.apart ops oj = true
 si : ∀ cs b, oi.op ≠ .select cs b
 sj : ∀ cs b, oj.op ≠ .select cs b
 c1 : i ∉ ch.getD j []
 c2 : j ∉ ch.getD i []
theorem okI_put {j : Nat} {oj : Oper} {E : Rec} {a : Act} {d : Option Tmp} {v : Value} (hj : ∀ cs b, oj.op ≠ .select cs b) (h : ∀ x, d = some x → x ∉ oj.looksAt ops) :
  OkI I ch sp RR P ops j oj E (a.put d v) ↔ OkI I ch sp RR P ops j oj E a := by
 unfold OkI Oper.quietAt
 rw [wanted_put oj a d v h, execOp_put oj hj a d v h]
theorem outI_put {j : Nat} {oj : Oper} {a : Act} {d : Option Tmp} {v x : Value} {u : Option Value} (hj : ∀ cs b, oj.op ≠ .select cs b) (h : ∀ x, d = some x → x ∉ oj.looksAt ops) :
  OutI I sp RR P ops j oj (a.put d v) x u ↔ OutI I sp RR P ops j oj a x u := by
 unfold OutI Oper.quietAt
 rw [wanted_put oj a d v h, execOp_put oj hj a d v h]
theorem okI_app {i j : Nat} {oj : Oper} {E : Rec} {a : Act} {u : Option Value} (hc : i ∉ ch.getD j []) : OkI I ch sp RR P ops j oj (recApp E i u) a ↔ OkI I ch sp RR P ops j oj E a := by
 have e : ∀ t ∈ ch.getD j [], recApp E i u t = E t := fun t ht => recApp_ne (fun e => hc (e ▸ ht))
 unfold OkI
 constructor
 ·intro h hw
  have h := h hw
  split at h
  ·rename_i hs
   rw [if_pos hs]
   exact ⟨h.1, fun s W a1 a2 a3 => h.2 s W a1 a2 (fun t ht => (a3 t ht).trans (e t ht).symm)⟩
  ·rename_i hs
   rw [if_neg hs]
   exact h
 ·intro h hw
  have h := h hw
  split at h
  ·rename_i hs
   rw [if_pos hs]
   exact ⟨h.1, fun s W a1 a2 a3 => h.2 s W a1 a2 (fun t ht => (a3 t ht).trans (e t ht))⟩
  ·rename_i hs
   rw [if_neg hs]
   exact h
theorem gI_swap {i j : Nat} {oi oj : Oper} (hI : IndI ch ops i j oi oj) {K : Rec → Act → Prop} {E : Rec} {a : Act}
  (h : gI I ch sp RR P ops i oi E (fun E' a' => gI I ch sp RR P ops j oj E' K a') a) : gI I ch sp RR P ops j oj E (fun E' a' => gI I ch sp RR P ops i oi E' K a') a := by
 obtain ⟨h1, h2, h3⟩ := Oper.apart_spec hI.ap
 obtain ⟨hok, hall⟩ := h
 obtain ⟨v0, u0, ho0⟩ := outI_some hok
 have hj0 := (hall v0 u0 ho0).1
 rw [okI_app hI.c1, okI_put hI.sj h1] at hj0
 refine ⟨hj0, fun x uj hoj => ⟨?_, fun v ui hoi => ?_⟩⟩
 ·rw [okI_app hI.c2, okI_put hI.si h3]
  exact hok
 ·rw [outI_put hI.si h3] at hoi
  have := (hall v ui hoi).2 x uj (by rw [outI_put hI.sj h1]; exact hoj)
  rw [recApp_comm E ui uj hI.ne, Act.put_comm a v x h2] at this
  exact this
theorem walkI_pull {Q : Rec → Act → Prop} {j : Nat} {oj : Oper} (hj : ops[j]? = some oj) (l2 : List Nat) : ∀ (l1 : List Nat) (E : Rec) (a : Act), (∀ i ∈ l1, ∃ oi, ops[i]? = some oi ∧ IndI ch ops i j oi oj) →
  walkI I ch sp RR P ops Q (l1 ++ j :: l2) E a → gI I ch sp RR P ops j oj E (walkI I ch sp RR P ops Q (l1 ++ l2)) a
 | [], E, a, _, h => by
  simp only [List.nil_append, walkI, hj] at h
  exact h
 | i :: l1, E, a, hI, h => by
  obtain ⟨oi, hoi, hI1⟩ := hI i List.mem_cons_self
  simp only [List.cons_append, walkI, hoi] at h ⊢
  refine gI_swap hI1 (gI_mono (fun E' a' h' => ?_) h)
  exact walkI_pull hj l2 l1 E' a' (fun i hi => hI i (List.mem_cons_of_mem _ hi)) h'
def indIB (ch : List (List Nat)) (ops : Array Oper) (i j : Nat) : Bool :=
 match ops[i]?, ops[j]? with
 | some oi, some oj => oi.apart ops oj && !((ch.getD j []).contains i) && !((ch.getD i []).contains j)
 | _, _ => false
def friB (md : Region.Mode) (ops : Array Oper) (ch : List (List Nat)) : Bool :=
 Region.noSelect ops && (List.range ops.size).all fun j => ((ops[j]?).map fun oj => oj.after.all fun e => !Region.binds md e || decide (e.on < j)).getD false &&
  (List.range j).all fun i => anc2 md ops i 6 j || indIB ch ops i j
theorem wpAny_of_walkI {Q : Rec → Act → Prop} {Q' : Exit → Act → World → Prop} (hB : friB md ops ch = true) (hQ : ∀ E a W, I E W → Q E a → Q' .normal a W) :
  ∀ (n : Nat) (l : List Nat) (seen : Array Bool) (E : Rec) (a : Act) (W : World), l.length = n → l.Pairwise (· < ·) → (∀ k, k ∈ l ↔ seen.getD k true = false) → Closed md ops seen → I E W → (∀ k ∈ l, E k = none) → walkI I ch sp RR P ops Q l E a → wpAny P md ops Q' n seen a W := by
 simp only [friB, Bool.and_eq_true] at hB
 obtain ⟨hsel, hall⟩ := hB
 have hpre : ∀ j oj, ops[j]? = some oj → ∀ e ∈ oj.after, Region.binds md e = true → e.on < j := fun j oj hj e he hb => by
  have h1 := List.all_eq_true.1 hall j (List.mem_range.2 (Array.getElem?_eq_some_iff.1 hj).1)
  simp only [Bool.and_eq_true, hj, Option.map_some, Option.getD_some] at h1
  have := Array.all_eq_true'.1 h1.1 e he
  simpa [hb] using this
 have hrdy : ∀ (l : List Nat) (seen : Array Bool), (∀ k, k ∈ l ↔ seen.getD k true = false) → l.Pairwise (· < ·) → Closed md ops seen → Region.ready md ops seen = [] → l = [] := by
  intro l seen hm hp hc hr
  cases l with
  | nil => rfl
  | cons k l =>
   exfalso
   have hk := (hm k).1 List.mem_cons_self
   have hlt : k < ops.size := by
    rw [← hc.1]
    rcases Nat.lt_or_ge k seen.size with h | h
    ·exact h
    ·rw [Array.getD_eq_getD_getElem?, Array.getElem?_eq_none h] at hk; cases hk
   have : k ∈ Region.ready md ops seen := mem_ready.2 ⟨hk, ops[k], Array.getElem?_eq_getElem hlt, fun e he hb => by
    have h1 := hpre k _ (Array.getElem?_eq_getElem hlt) e he hb
    cases hse : seen.getD e.on false with
    | true => rfl
    | false =>
     have hnot : e.on ∉ k :: l := fun hin => by
      rcases List.mem_cons.1 hin with h | h
      ·omega
      ·have := (List.pairwise_cons.1 hp).1 _ h; omega
     have := mt (hm e.on).2 hnot
     exfalso
     apply this
     have hlt2 : e.on < seen.size := by rw [hc.1]; omega
     rw [Array.getD_eq_getD_getElem?, Array.getElem?_eq_getElem hlt2] at hse ⊢
     exact hse⟩
   rw [hr] at this
   cases this
 intro n
 induction n with
 | zero =>
  intro l seen E a W hl hp hm hc hR hE h
  obtain rfl := List.eq_nil_of_length_eq_zero hl
  refine ⟨?_, hQ _ _ _ hR h⟩
  cases hr : Region.ready md ops seen with
  | nil => rfl
  | cons j r =>
   have hj : j ∈ Region.ready md ops seen := by rw [hr]; exact List.mem_cons_self
   exact absurd ((hm j).2 (mem_ready.1 hj).1) (by simp)
 | succ n ih =>
  intro l seen E a W hl hp hm hc hR hE h
  refine ⟨fun hr => ?_, fun j hj => ?_⟩
  ·obtain rfl := hrdy l seen hm hp hc hr
   simp at hl
  ·obtain ⟨hun, oj, hoj, hpred⟩ := mem_ready.1 hj
   obtain ⟨l1, l2, rfl⟩ := List.append_of_mem ((hm j).2 hun)
   have hl1 : ∀ i ∈ l1, i < j := fun i hi => (List.pairwise_append.1 hp).2.2 i hi j List.mem_cons_self
   have hjlt := (Array.getElem?_eq_some_iff.1 hoj).1
   have h1 := List.all_eq_true.1 hall j (List.mem_range.2 hjlt)
   simp only [Bool.and_eq_true] at h1
   have hind : ∀ i ∈ l1, ∃ oi, ops[i]? = some oi ∧ IndI ch ops i j oi oj := fun i hi => by
    have h2 := List.all_eq_true.1 h1.2 i (List.mem_range.2 (hl1 i hi))
    have hiun : seen.getD i true = false := (hm i).1 (List.mem_append_left _ hi)
    have hna : anc2 md ops i 6 j = false := by
     cases hh : anc2 md ops i 6 j with
     | false => rfl
     | true =>
      have := anc_seen hc i 6 j oj hoj hpred (anc2_anc _ _ hh)
      rw [getD_both hiun] at this
      cases this
    rw [hna, Bool.false_or] at h2
    have hilt : i < ops.size := Nat.lt_trans (hl1 i hi) hjlt
    have hoi := Array.getElem?_eq_getElem hilt
    refine ⟨_, hoi, ?_⟩
    unfold indIB at h2
    rw [hoi, hoj] at h2
    simp only [Bool.and_eq_true, Bool.not_eq_true', List.contains_eq_mem, decide_eq_false_iff_not] at h2
    obtain ⟨⟨a1, a3⟩, a4⟩ := h2
    have hs := Region.noSelect_spec hsel
    exact ⟨by have := hl1 i hi; omega, a1, fun cs b => hs _ _ cs b hoi, fun cs b => hs _ _ cs b hoj, a3, a4⟩
   have hg := walkI_pull hoj l2 l1 E a hind h
   have hjn1 : j ∉ l1 := fun h => absurd (hl1 j h) (Nat.lt_irrefl _)
   have hjn2 : j ∉ l2 := fun h => by
    rw [List.pairwise_append, List.pairwise_cons] at hp
    exact absurd (hp.2.1.1 j h) (Nat.lt_irrefl _)
   have hnext : ∀ u a' W', I (recApp E j u) W' → walkI I ch sp RR P ops Q (l1 ++ l2) (recApp E j u) a' → wpAny P md ops Q' n (seen.setIfInBounds j true) a' W' := fun u a' W' hR' h' => by
    refine ih (l1 ++ l2) _ (recApp E j u) a' W' (by simp at hl ⊢; omega) ?_ (fun k => ?_) (hc.set hj) hR' (fun k hk => ?_) h'
    ·rw [List.pairwise_append, List.pairwise_cons] at hp
     rw [List.pairwise_append]
     exact ⟨hp.1, hp.2.1.2, fun x hx y hy => hp.2.2 x hx y (List.mem_cons_of_mem _ hy)⟩
    ·by_cases hkj : k = j
     ·subst hkj
      constructor
      ·intro h
       rcases List.mem_append.1 h with h | h
       ·exact absurd h hjn1
       ·exact absurd h hjn2
      ·intro h
       rw [Array.getD_eq_getD_getElem?, Array.getElem?_setIfInBounds_self_of_lt (by rw [hc.1]; exact hjlt)] at h
       cases h
     ·rw [getD_set_ne true (Ne.symm hkj), ← hm k]
      simp only [List.mem_append, List.mem_cons]
      constructor
      ·rintro (h | h)
       ·exact .inl h
       ·exact .inr (.inr h)
      ·rintro (h | h | h)
       ·exact .inl h
       ·exact absurd h hkj
       ·exact .inr h
    ·have hkj : k ≠ j := by
      rintro rfl
      rcases List.mem_append.1 hk with h | h
      ·exact hjn1 h
      ·exact hjn2 h
     rw [recApp_ne hkj]
     refine hE k ?_
     rcases List.mem_append.1 hk with h | h
     ·exact List.mem_append_left _ h
     ·exact List.mem_append_right _ (List.mem_cons_of_mem _ h)
   unfold wpOp
   simp only [hoj]
   obtain ⟨hok, hout⟩ := hg
   split
   ·rename_i hw
    refine .inl ?_
    have hok := hok hw
    by_cases hs : sp.contains j = true
    ·rw [if_pos hs] at hok
     have hgr := hok.2 E W hR (hE j (List.mem_append_right _ List.mem_cons_self)) (fun _ _ => rfl)
     have fin : ∀ v z, RR j v ∧ I (recSet E j v) z → wpAny P md ops Q' n (seen.setIfInBounds j true) (a.put oj.dst v) z := fun v z hb =>
      hnext (some v) _ _ hb.2 (hout v (some v) (.inr ⟨hw, by rw [if_pos hs]; exact ⟨hb.1, rfl⟩⟩))
     unfold invUpon at hgr
     unfold Oper.wp
     generalize (execOp a.eval oj).run P W = r at *
     split at hgr
     ·exact fin _ _ hgr
     ·exact fin _ _ hgr
     ·obtain ⟨rfl, hcall⟩ := hgr
      refine hcall.mono fun e w'' ⟨v, he, hr⟩ => ?_
      subst he
      exact fin v w'' hr
     ·exact hgr.elim
    ·rw [if_neg hs] at hok
     obtain ⟨hcalm, v, hv⟩ := hok
     have hq := hv W ⟨⟨E, W, hR⟩, rfl⟩
     have hn := hnext none _ W hR (hout v none (.inr ⟨hw, by rw [if_neg hs]; exact ⟨rfl, hv⟩⟩))
     unfold Oper.quietAt at hq
     unfold Oper.wp
     have hne := calm_spec P W
     cases hr : (execOp a.eval oj).run P W with
     | halt h w'' => rw [hr] at hq; simp [Oper.quietUpon] at hq
     | ok m w'' =>
      rw [hr] at hq
      cases m with
      | value x =>
       obtain ⟨rfl, rfl⟩ := hq
       exact hn
      | skip =>
       obtain ⟨rfl, rfl⟩ := hq
       exact hn
      | enter f args => exact absurd hr (hne w'' f args hcalm _)
      | _ => simp [Oper.quietUpon] at hq
   ·rename_i hw
    exact hnext none _ W hR (hout undef none (.inl ⟨by simpa using hw, rfl, rfl⟩))
def walkJ (I : Rec → World → Prop) (ch : List (List Nat)) (sp : List Nat) (RR : Nat → Value → Prop) (P : Program) (ops : Array Oper) (Q : Rec → Act → Prop) : List Oper → Nat → Rec → Act → Prop
 | [], _, E, a => Q E a
 | o :: l, k, E, a => gI I ch sp RR P ops k o E (walkJ I ch sp RR P ops Q l (k + 1)) a
theorem walkI_of_J {Q : Rec → Act → Prop} : ∀ (l : List Oper) (k : Nat) (E : Rec) (a : Act), (∀ j, j < l.length → ops[k + j]? = l[j]?) → walkJ I ch sp RR P ops Q l k E a → walkI I ch sp RR P ops Q (List.range' k l.length) E a
 | [], _, _, _, _, h => h
 | o :: l, k, E, a, hl, h => by
  have h0 : ops[k]? = some o := by simpa using hl 0 (by simp)
  simp only [List.length_cons, List.range'_succ, walkI, h0]
  exact ⟨h.1, fun v u hu => walkI_of_J l (k + 1) _ _ (fun j hj => by have := hl (j + 1) (by simp; omega); simpa [Nat.add_assoc, Nat.add_comm 1 j] using this) (h.2 v u hu)⟩
theorem wp_region_inv {w : World} {id : Nat} {Q : Exit → Act → World → Prop} {a : Act} {l : List Oper} (I : Rec → World → Prop) (ch : List (List Nat)) (sp : List Nat) (RR : Nat → Value → Prop) (hm : P.follows .mixedOrders = true) (hB : friB .any l.toArray ch = true)
  (h0 : I (fun _ => none) w.drew)
  (h : walkJ I ch sp RR P l.toArray (fun E a' => ∀ W, I E W → Q .normal a' W) l 0 (fun _ => none) a) : (Code.region id l.toArray true).wp P Q a w := by
 refine wp_region_any hm ?_
 have hG := walkI_of_J (ops := l.toArray) l 0 _ a (fun j _ => by simp) h
 have := wpAny_of_walkI (Q' := Q) hB (fun E a W hR hq => hq W hR) l.length (List.range' 0 l.length) (Array.replicate l.toArray.size false) (fun _ => none) a { w with drawn := w.drawn + 1 } (by simp) List.pairwise_lt_range' (fun k => by
  rw [List.mem_range']
  constructor
  ·rintro ⟨i, hi, rfl⟩
   rw [Array.getD_eq_getD_getElem?, Array.getElem?_replicate]
   simp at hi ⊢
   simp [hi]
  ·intro hk
   rw [Array.getD_eq_getD_getElem?, Array.getElem?_replicate] at hk
   by_cases hlt : k < l.toArray.size
   ·exact ⟨k, by simpa using hlt, by simp⟩
   ·rw [if_neg hlt] at hk; cases hk) ⟨by simp, fun j oj _ hl => (by rw [getD_replicate_false] at hl; cases hl)⟩ h0 (fun _ _ => rfl) hG
 simpa using this
theorem walkJ_end {Q : Rec → Act → Prop} {E : Rec} {k : Nat} {a : Act} (h : Q E a) : walkJ I ch sp RR P ops Q [] k E a := h
theorem walkJ_one {Q : Rec → Act → Prop} {E : Rec} {o : Oper} {l : List Oper} {k : Nat} {a : Act} [Nonempty (InvW I)] (hs : sp.contains k = false) (hc : calmB o = true)
  (h : wpQuiet P ops (clsI I) (walkJ I ch sp RR P ops Q l (k + 1) E) [o] a) : walkJ I ch sp RR P ops Q (o :: l) k E a := by
 unfold wpQuiet at h
 by_cases hw : Region.wanted o (yielded ops a.tmps) = true
 ·rw [if_pos hw] at h
  obtain ⟨v, hv, hk⟩ := h
  refine ⟨fun _ => by rw [if_neg (by rw [hs]; decide)]; exact ⟨hc, v, hv⟩, fun x u hu => ?_⟩
  rcases hu with ⟨h0, _⟩ | ⟨_, hu⟩
  ·rw [hw] at h0; cases h0
  ·rw [if_neg (by rw [hs]; decide)] at hu
   obtain ⟨rfl, hx⟩ := hu
   obtain ⟨y⟩ := ‹Nonempty (InvW I)›
   have hy : clsI I y.W := ⟨y, rfl⟩
   obtain rfl : x = v := quiet_one hy hc (hx _ hy) (hv _ hy)
   exact hk
 ·have hw' : Region.wanted o (yielded ops a.tmps) = false := by simpa using hw
  rw [if_neg hw] at h
  refine ⟨fun h0 => absurd h0 hw, fun x u hu => ?_⟩
  rcases hu with ⟨_, rfl, rfl⟩ | ⟨h0, _⟩
  ·exact h
  ·rw [hw'] at h0; cases h0
theorem walkJ_turn {Q : Rec → Act → Prop} {E : Rec} {o : Oper} {l : List Oper} {k : Nat} {a : Act} (hs : sp.contains k = true) (hw : Region.wanted o (yielded ops a.tmps) = true) (hv : ∃ v, RR k v)
  (h1 : ∀ s W, I s W → s k = none → (∀ j ∈ ch.getD k [], s j = E j) → invUpon P W (fun v W' => RR k v ∧ I (recSet s k v) W') ((execOp a.eval o).run P W))
  (h2 : ∀ v, RR k v → walkJ I ch sp RR P ops Q l (k + 1) (recSet E k v) (a.put o.dst v)) : walkJ I ch sp RR P ops Q (o :: l) k E a := by
 refine ⟨fun _ => by rw [if_pos hs]; exact ⟨hv, h1⟩, fun x u hu => ?_⟩
 rcases hu with ⟨h0, _⟩ | ⟨_, hu⟩
 ·rw [hw] at h0; cases h0
 ·rw [if_pos hs] at hu
  obtain ⟨hx, rfl⟩ := hu
  exact h2 x hx
theorem walkJ_off {Q : Rec → Act → Prop} {E : Rec} {o : Oper} {l : List Oper} {k : Nat} {a : Act} (hw : Region.wanted o (yielded ops a.tmps) = false)
  (h2 : walkJ I ch sp RR P ops Q l (k + 1) E (a.put o.dst undef)) : walkJ I ch sp RR P ops Q (o :: l) k E a := by
 refine ⟨fun h0 => absurd (hw.symm.trans h0) (by decide), fun x u hu => ?_⟩
 rcases hu with ⟨_, rfl, rfl⟩ | ⟨h0, _⟩
 ·exact h2
 ·rw [hw] at h0; cases h0
end
theorem inv_call {P : Program} {W : World} {f : FuncId} {args : Array Value} {R : Value → World → Prop} {r : Result Next} (h : r = .ok (.enter f args) W) (hc : Calls P f args W (fun e w'' => ∃ v, e = .returned v ∧ R v w'')) : invUpon P W R r := by
 subst h; exact ⟨rfl, hc⟩
theorem inv_val {P : Program} {W W' : World} {v : Value} {R : Value → World → Prop} {r : Result Next} (h : r = .ok (.value v) W') (hR : R v W') : invUpon P W R r := by
 subst h; exact hR
end Go.Proofs.YtmcdollkmlcpbaaGreatDoor
