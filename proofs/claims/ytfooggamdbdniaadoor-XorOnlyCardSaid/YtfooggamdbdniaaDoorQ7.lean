/- Joined: Frs, Frt, AppR, Tail. -/
import Derived.Test.YtfooggamdbdniaaDoorQ6
import Derived.StillTail
set_option linter.unusedSimpArgs false
set_option linter.unusedVariables false
/-
  A region that draws its order, some of whose operations make memory (calls above all) and hand back values that nobody can name ahead; all others read and compute. One walk in the order of the text serves every order: an operation that reads only what the world held when the region began is walked from there, one that reads what a call made from the world behind that call.
-/
namespace Go.Proofs.YtfooggamdbdniaaDoor
open Go.RowKit

/-- operations that call nothing -/
def calmB (o : Oper) : Bool := match o.op with
  | .call c => match c.callee with
    | .builtin .len | .builtin .cap | .builtin .min | .builtin .max => true
    | _ => false
  | .go _ | .defer _ | .panic _ | .send .. | .recv .. | .select .. | .nilCheck _ => false
  | _ => true

section
variable (P : Program) (w w' : World) (f : FuncId) (args : Array Value)
theorem not_enter_v (s : Sem Value) : (do pure (Next.value (← s)) : Sem Next).run P w ≠ .ok (.enter f args) w' := by
  intro h
  simp only [Sem.run_bind] at h
  cases hs : s.run P w <;> simp [hs, Result.andThen, Sem.run_pure] at h
theorem not_enter_u (s : Sem Unit) : (do s; pure Next.skip : Sem Next).run P w ≠ .ok (.enter f args) w' := by
  intro h
  simp only [Sem.run_bind] at h
  cases hs : s.run P w <;> simp [hs, Result.andThen, Sem.run_pure] at h
theorem not_enter_p (s : Sem Bool) (x y : Value) : (do pure (Next.value (if ← s then x else y)) : Sem Next).run P w ≠ .ok (.enter f args) w' := by
  intro h
  simp only [Sem.run_bind] at h
  cases hs : s.run P w <;> simp [hs, Result.andThen, Sem.run_pure] at h
theorem calm_spec {o : Oper} (h : calmB o = true) (ρ : Operand → Value) : (execOp ρ o).run P w ≠ .ok (.enter f args) w' := by
  intro hr
  unfold calmB at h
  cases ho : o.op
  all_goals (simp only [ho] at h; unfold execOp at hr; simp only [ho] at hr)
  all_goals try (exact not_enter_v P w w' f args _ hr)
  all_goals try (exact not_enter_u P w w' f args _ hr)
  all_goals try (exact not_enter_p P w w' f args _ _ _ hr)
  all_goals try (cases hr; done)
  all_goals try (cases h; done)
  case call c =>
    cases hc : c.callee with
    | builtin b =>
      simp only [hc] at h
      cases b <;> simp only at h <;> try (cases h; done)
      all_goals
        simp [resolve, hc, Result.andThen, invoke, builtin] at hr
        (split at hr <;> cases hr)
    | invoke r n => simp [hc] at h
    | value f => simp [hc] at h
end

/-- what an operation that may make memory leaves -/
def growUpon (P : Program) (w : World) (R : Value → World → Prop) : Result Next → Prop
  | .ok (.value u) w' => Below w.heap.size w w' ∧ R u w'
  | .ok (.enter f args) w' => w' = w ∧ Calls P f args w (fun e w'' => ∃ v, e = .returned v ∧ Below w.heap.size w w'' ∧ R v w'')
  | _ => False

theorem calls_some {P : Program} {f : FuncId} {args : Array Value} {w : World} {R : Ending → World → Prop} (h : Calls P f args w R) : ∃ e w', R e w' := by
  obtain ⟨e, w', _, hr, _⟩ := h []
  exact ⟨e, w', hr⟩
theorem growUpon_some {P : Program} {w : World} {R : Value → World → Prop} {r : Result Next} (h : growUpon P w R r) : ∃ v w', Below w.heap.size w w' ∧ R v w' := by
  unfold growUpon at h
  split at h
  · exact ⟨_, _, h⟩
  · obtain ⟨_, hc⟩ := h
    obtain ⟨e, w', v, _, h1, h2⟩ := calls_some hc
    exact ⟨v, w', h1, h2⟩
  · exact h.elim

def upd (E : Nat → World) (k : Nat) (z : World) : Nat → World := fun j => if j = k then z else E j
theorem upd_same (E : Nat → World) (k : Nat) (z : World) : upd E k z k = z := if_pos rfl
theorem upd_ne {E : Nat → World} {k j : Nat} {z : World} (h : j ≠ k) : upd E k z j = E j := if_neg h
theorem upd_comm (E : Nat → World) {i j : Nat} (x y : World) (h : i ≠ j) : upd (upd E i x) j y = upd (upd E j y) i x := by
  funext k
  unfold upd
  by_cases h1 : k = j
  · subst h1
    rw [if_pos rfl, if_neg (fun e => h e.symm), if_pos rfl]
  · rw [if_neg h1]
    by_cases h2 : k = i
    · rw [if_pos h2, if_pos h2]
    · rw [if_neg h2, if_neg h2, if_neg h1]

abbrev cls (W : World) : World → Prop := fun w' => ∃ x, w' = plus W x
theorem cls_self (W : World) : cls W W := ⟨⟨#[], W.drawn⟩, by simp [plus]⟩

section
variable {P : Program} {md : Region.Mode} {ops : Array Oper} (ch : List (Option Nat)) (sp : List Nat) (RR : Nat → Value → World → Prop) (w : World)

/-- the world from which operation k is walked -/
def from_ (E : Nat → World) (k : Nat) : World := match ch.getD k none with
  | none => w
  | some i => E i

/-- operation k comes up -/
def fOp (P : Program) (ops : Array Oper) (k : Nat) (E : Nat → World) (K : (Nat → World) → Act → Prop) (a : Act) : Prop :=
  match ops[k]? with
  | none => K E a
  | some o => if Region.wanted o (yielded ops a.tmps) then
      (if sp.contains k then (∀ w', cls (from_ ch w E k) w' → growUpon P w' (RR k) ((execOp a.eval o).run P w')) ∧ ∀ v z, RR k v z → Below (from_ ch w E k).heap.size (from_ ch w E k) z → K (upd E k z) (a.put o.dst v)
       else o.quiet P a (cls (from_ ch w E k)) (K E))
    else K E (a.put o.dst undef)

def wpAnyF (P : Program) (md : Region.Mode) (ops : Array Oper) (Q : (Nat → World) → Act → Prop) : Nat → Array Bool → (Nat → World) → Act → Prop
  | 0, seen, E, a => Region.ready md ops seen = [] ∧ Q E a
  | f + 1, seen, E, a => (Region.ready md ops seen = [] → Q E a) ∧ ∀ i ∈ Region.ready md ops seen, fOp ch sp RR w P ops i E (wpAnyF P md ops Q f (seen.setIfInBounds i true)) a

/-- the walk in the order of the text -/
def walkF (P : Program) (ops : Array Oper) (Q : (Nat → World) → Act → Prop) : List Oper → Nat → (Nat → World) → Act → Prop
  | [], _, E, a => Q E a
  | o :: l, k, E, a => if Region.wanted o (yielded ops a.tmps) then
      (if sp.contains k then (∀ w', cls (from_ ch w E k) w' → growUpon P w' (RR k) ((execOp a.eval o).run P w')) ∧ ∀ v z, RR k v z → Below (from_ ch w E k).heap.size (from_ ch w E k) z → walkF P ops Q l (k + 1) (upd E k z) (a.put o.dst v)
       else o.quiet P a (cls (from_ ch w E k)) (walkF P ops Q l (k + 1) E))
    else walkF P ops Q l (k + 1) E (a.put o.dst undef)
variable {ch sp RR w}

theorem fOp_mono {k : Nat} {E : Nat → World} {a : Act} {K K' : (Nat → World) → Act → Prop} (h : ∀ E a, K E a → K' E a) (hh : fOp ch sp RR w P ops k E K a) : fOp ch sp RR w P ops k E K' a := by
  unfold fOp at *
  split
  · rename_i ho; simp only [ho] at hh; exact h _ _ hh
  · rename_i o ho
    simp only [ho] at hh
    split
    · rename_i hw
      simp only [hw, if_true] at hh
      split
      · rename_i hs
        rw [if_pos hs] at hh
        exact ⟨hh.1, fun v z h1 h2 => h _ _ (hh.2 v z h1 h2)⟩
      · rename_i hs
        rw [if_neg hs] at hh
        exact Oper.quiet_mono (h E) hh
    · rename_i hw
      simp only [hw] at hh
      exact h _ _ hh

/-- closed facts about a region: each world that an operation is walked from stands behind an operation that it waits for; what is no maker of memory is calm -/
def ancB (md : Region.Mode) (ops : Array Oper) (i : Nat) : Nat → Nat → Bool
  | 0, _ => false
  | f + 1, j => match ops[j]? with
    | none => false
    | some oj => oj.after.any fun e => Region.binds md e && (e.on == i || ancB md ops i f e.on)
def freshB (md : Region.Mode) (ops : Array Oper) (ch : List (Option Nat)) (sp : List Nat) : Bool :=
  (List.range ops.size).all fun j => (match ch.getD j none with
    | none => true
    | some i => ancB md ops i 4 j) && (sp.contains j || match ops[j]? with
    | none => true
    | some o => calmB o)

def Closed (md : Region.Mode) (ops : Array Oper) (seen : Array Bool) : Prop :=
  seen.size = ops.size ∧ ∀ j oj, ops[j]? = some oj → seen.getD j false = true → ∀ e ∈ oj.after, Region.binds md e = true → seen.getD e.on false = true
theorem Closed.set {seen : Array Bool} {i : Nat} (h : Closed md ops seen) (hi : i ∈ Region.ready md ops seen) : Closed md ops (seen.setIfInBounds i true) := by
  obtain ⟨_, oi, hoi, hall⟩ := mem_ready.1 hi
  refine ⟨by simp [h.1], fun j oj hj hl e he hb => ?_⟩
  by_cases hij : i = j
  · subst hij
    have : oj = oi := Option.some.inj (hj.symm.trans hoi)
    subst this
    exact getD_set_true (hall e he hb)
  · rw [getD_set_ne false hij] at hl
    exact getD_set_true (h.2 j oj hj hl e he hb)
theorem anc_seen {seen : Array Bool} (h : Closed md ops seen) (i : Nat) : ∀ (f j : Nat) (oj : Oper), ops[j]? = some oj → (∀ e ∈ oj.after, Region.binds md e = true → seen.getD e.on false = true) → ancB md ops i f j = true → seen.getD i false = true := by
  intro f
  induction f with
  | zero => intro j oj _ _ h; simp [ancB] at h
  | succ f ih =>
    intro j oj hoj hall hB
    unfold ancB at hB
    rw [hoj] at hB
    obtain ⟨e, he, hb⟩ := Array.any_eq_true'.1 hB
    simp only [Bool.and_eq_true, Bool.or_eq_true, beq_iff_eq] at hb
    have hs := hall e he hb.1
    rcases hb.2 with h1 | h1
    · rw [← h1]; exact hs
    · have hlt : e.on < ops.size := by
        rcases Nat.lt_or_ge e.on ops.size with h | h
        · exact h
        · unfold ancB at h1
          cases f with
          | zero => simp at h1
          | succ f => simp [Array.getElem?_eq_none h] at h1
      exact ih e.on (ops[e.on]) (Array.getElem?_eq_getElem hlt) (h.2 _ _ (Array.getElem?_eq_getElem hlt) hs) h1
theorem fresh_ch (hB : freshB md ops ch sp = true) {seen : Array Bool} (hc : Closed md ops seen) {i j : Nat} (hj : j ∈ Region.ready md ops seen) (hi : seen.getD i true = false) : ch.getD j none ≠ some i := by
  intro he
  obtain ⟨_, oj, hoj, hall⟩ := mem_ready.1 hj
  have h1 := List.all_eq_true.1 hB j (List.mem_range.2 (Array.getElem?_eq_some_iff.1 hoj).1)
  simp only [he, Bool.and_eq_true] at h1
  have := anc_seen hc i _ j oj hoj hall h1.1
  rw [getD_both hi] at this
  cases this
theorem fresh_calm (hB : freshB md ops ch sp = true) {j : Nat} {o : Oper} (hj : ops[j]? = some o) (hs : sp.contains j = false) : calmB o = true := by
  have h1 := List.all_eq_true.1 hB j (List.mem_range.2 (Array.getElem?_eq_some_iff.1 hj).1)
  simp only [Bool.and_eq_true, hs, Bool.false_or, hj] at h1
  exact h1.2
theorem from_upd {E : Nat → World} {i j : Nat} {z : World} (h : ch.getD j none ≠ some i) : from_ ch w (upd E i z) j = from_ ch w E j := by
  unfold from_
  split
  · rfl
  · rename_i k hk
    exact upd_ne fun e => h (by rw [hk, e])

/-- in one world of a class a calm operation yields one value -/
theorem quiet_one {o : Oper} {a : Act} {C : World → Prop} {u v : Value} {w : World} (hw : C w) (hcalm : calmB o = true) (hu : o.quietAt P a C w u) (hv : o.quietAt P a C w v) : u = v := by
  unfold Oper.quietAt at hu hv
  have hne := calm_spec P w
  cases hr : (execOp a.eval o).run P w with
  | halt h w' => rw [hr] at hu; simp [Oper.quietUpon] at hu
  | ok n w' =>
    rw [hr] at hu hv
    cases n with
    | value x => simp only [Oper.quietUpon] at hu hv; rw [← hu.2, ← hv.2]
    | skip => simp only [Oper.quietUpon] at hu hv; rw [hu.2, hv.2]
    | enter f args => exact absurd hr (hne w' f args hcalm _)
    | _ => simp [Oper.quietUpon] at hu

/-- what operation i does in state a, as the walk shows it -/
def Shows (ch : List (Option Nat)) (sp : List Nat) (RR : Nat → Value → World → Prop) (w : World) (P : Program) (ops : Array Oper) (i : Nat) (oi : Oper) (E : Nat → World) (a : Act) (G : (Nat → World) → Value → Prop) : Prop :=
  (Region.wanted oi (yielded ops a.tmps) = true ∧ sp.contains i = true ∧ (∀ w', cls (from_ ch w E i) w' → growUpon P w' (RR i) ((execOp a.eval oi).run P w')) ∧
      (∃ v z, RR i v z ∧ Below (from_ ch w E i).heap.size (from_ ch w E i) z) ∧ ∀ v z, RR i v z → Below (from_ ch w E i).heap.size (from_ ch w E i) z → G (upd E i z) v) ∨
  (Region.wanted oi (yielded ops a.tmps) = true ∧ sp.contains i = false ∧ ∃ v, (∀ w', cls (from_ ch w E i) w' → oi.quietAt P a (cls (from_ ch w E i)) w' v) ∧ G E v) ∨
  (Region.wanted oi (yielded ops a.tmps) = false ∧ G E undef)

theorem shows_iff {i : Nat} {oi : Oper} {E : Nat → World} {a : Act} {K : (Nat → World) → Act → Prop} (hi : ops[i]? = some oi) :
    fOp ch sp RR w P ops i E K a ↔ Shows ch sp RR w P ops i oi E a fun E' v => K E' (a.put oi.dst v) := by
  unfold fOp Shows
  simp only [hi]
  by_cases hw : Region.wanted oi (yielded ops a.tmps) = true
  · simp only [hw, if_true, true_and, Bool.true_eq_false, false_and, or_false]
    by_cases hs : sp.contains i = true
    · simp only [hs, if_true, true_and, Bool.true_eq_false, false_and, or_false]
      constructor
      · rintro ⟨h1, h2⟩
        obtain ⟨v, z, hb, hr⟩ := growUpon_some (h1 _ (cls_self _))
        exact ⟨h1, ⟨v, z, hr, hb⟩, h2⟩
      · rintro ⟨h1, _, h2⟩
        exact ⟨h1, h2⟩
    · have hs' : sp.contains i = false := by simpa using hs
      simp only [hs', Bool.false_eq_true, if_false, false_and, true_and, false_or]
      rfl
  · have hw' : Region.wanted oi (yielded ops a.tmps) = false := by simpa using hw
    simp only [hw', Bool.false_eq_true, if_false, false_and, true_and, false_or]

/-- i's showing stays when j's value is put, and the other way round -/
theorem fOp_put {i j : Nat} {oi oj : Oper} (hj : ops[j]? = some oj) (hap : oi.apart ops oj = true) (hij : j ≠ i) (hci : ch.getD i none ≠ some j) (hcj : ch.getD j none ≠ some i)
    (hsi : ∀ cs b, oi.op ≠ .select cs b) (hsj : ∀ cs b, oj.op ≠ .select cs b) (hcalm : sp.contains j = false → calmB oj = true) {K : (Nat → World) → Act → Prop} {E : Nat → World} {a : Act}
    (h : Shows ch sp RR w P ops i oi E a fun E' v => fOp ch sp RR w P ops j E' K (a.put oi.dst v)) :
    fOp ch sp RR w P ops j E (fun E' a' => Shows ch sp RR w P ops i oi E' a' fun E'' v => K E'' (a'.put oi.dst v)) a := by
  obtain ⟨h1, h2, h3⟩ := Oper.apart_spec hap
  have kw : ∀ (u : Value), Region.wanted oi (yielded ops (a.put oj.dst u).tmps) = Region.wanted oi (yielded ops a.tmps) := fun u => wanted_put oi a oj.dst u h3
  have ke : ∀ (u : Value), execOp (a.put oj.dst u).eval oi = execOp a.eval oi := fun u => execOp_put oi hsi a oj.dst u h3
  have kwj : ∀ (v : Value), Region.wanted oj (yielded ops (a.put oi.dst v).tmps) = Region.wanted oj (yielded ops a.tmps) := fun v => wanted_put oj a oi.dst v h1
  have kej : ∀ (v : Value), execOp (a.put oi.dst v).eval oj = execOp a.eval oj := fun v => execOp_put oj hsj a oi.dst v h1
  have comm : ∀ (v u : Value), (a.put oi.dst v).put oj.dst u = (a.put oj.dst u).put oi.dst v := fun v u => Act.put_comm a v u h2
  rw [shows_iff hj]
  have fj : ∀ z, from_ ch w (upd E i z) j = from_ ch w E j := fun z => from_upd hcj
  have fi : ∀ z, from_ ch w (upd E j z) i = from_ ch w E i := fun z => from_upd hci
  rcases h with ⟨hw, hs, hgrow, ⟨v0, z0, hr0, hb0⟩, hall⟩ | ⟨hw, hs, v, hq, hv⟩ | ⟨hw, hv⟩
  · -- i makes memory
    simp only at hall
    have h0 := hall v0 z0 hr0 hb0
    rw [shows_iff hj] at h0
    unfold Shows at h0 ⊢
    simp only [kwj, kej, fj] at h0
    rcases h0 with ⟨wj, sj, gj, ej, _⟩ | ⟨wj, sj, u, qj, _⟩ | ⟨wj, _⟩
    · refine .inl ⟨wj, sj, gj, ej, fun u zj hru hbu => .inl ⟨by rw [kw]; exact hw, hs, by rw [fi, ke]; exact hgrow, ⟨v0, z0, hr0, by rw [fi]; exact hb0⟩, fun v z hr hb => ?_⟩⟩
      rw [fi] at hb
      have hx := hall v z hr hb
      rw [shows_iff hj] at hx
      unfold Shows at hx
      simp only [kwj, kej, fj, wj, sj] at hx
      simp only [true_and, Bool.true_eq_false, false_and, or_false] at hx
      have := hx.2.2 u zj hru hbu
      rw [upd_comm E z zj (Ne.symm hij), comm] at this
      exact this
    · refine .inr (.inl ⟨wj, sj, u, fun w' hw' => by have := qj w' hw'; unfold Oper.quietAt at this ⊢; rwa [kej] at this, .inl ⟨by rw [kw]; exact hw, hs, by rw [ke]; exact hgrow, ⟨v0, z0, hr0, hb0⟩, fun v z hr hb => ?_⟩⟩)
      have hx := hall v z hr hb
      rw [shows_iff hj] at hx
      unfold Shows at hx
      simp only [kwj, fj, wj, sj] at hx
      simp only [true_and, Bool.false_eq_true, Bool.true_eq_false, false_and, or_false, false_or] at hx
      obtain ⟨u', qj', hx⟩ := hx
      have e : u' = u := by
        have x1 := qj' _ (cls_self _)
        have x2 := qj _ (cls_self _)
        unfold Oper.quietAt at x1 x2
        rw [kej] at x1 x2
        exact quiet_one (a := a) (cls_self _) (hcalm sj) x1 x2
      subst e
      rw [comm] at hx
      exact hx
    · refine .inr (.inr ⟨wj, .inl ⟨by rw [kw]; exact hw, hs, by rw [ke]; exact hgrow, ⟨v0, z0, hr0, hb0⟩, fun v z hr hb => ?_⟩⟩)
      have hx := hall v z hr hb
      rw [shows_iff hj] at hx
      unfold Shows at hx
      simp only [kwj, wj] at hx
      simp only [Bool.false_eq_true, false_and, false_or, true_and] at hx
      rw [comm] at hx
      exact hx
  · -- i is quiet
    rw [shows_iff hj] at hv
    unfold Shows at hv ⊢
    simp only [kwj, kej] at hv
    have qi : ∀ u w', cls (from_ ch w E i) w' → oi.quietAt P (a.put oj.dst u) (cls (from_ ch w E i)) w' v := fun u w' hw' => by
      have := hq w' hw'; unfold Oper.quietAt at this ⊢; rwa [ke]
    rcases hv with ⟨wj, sj, gj, ej, hk⟩ | ⟨wj, sj, u, qj, hk⟩ | ⟨wj, hk⟩
    · refine .inl ⟨wj, sj, gj, ej, fun u zj hru hbu => .inr (.inl ⟨by rw [kw]; exact hw, hs, v, by rw [fi]; exact qi u, ?_⟩)⟩
      have := hk u zj hru hbu
      rw [comm] at this; exact this
    · refine .inr (.inl ⟨wj, sj, u, fun w' hw' => by have := qj w' hw'; unfold Oper.quietAt at this ⊢; rwa [kej] at this, .inr (.inl ⟨by rw [kw]; exact hw, hs, v, qi u, ?_⟩)⟩)
      rw [comm] at hk; exact hk
    · refine .inr (.inr ⟨wj, .inr (.inl ⟨by rw [kw]; exact hw, hs, v, qi undef, ?_⟩)⟩)
      rw [comm] at hk; exact hk
  · -- i is passed over
    rw [shows_iff hj] at hv
    unfold Shows at hv ⊢
    simp only [kwj, kej] at hv
    rcases hv with ⟨wj, sj, gj, ej, hk⟩ | ⟨wj, sj, u, qj, hk⟩ | ⟨wj, hk⟩
    · refine .inl ⟨wj, sj, gj, ej, fun u zj hru hbu => .inr (.inr ⟨by rw [kw]; exact hw, ?_⟩)⟩
      have := hk u zj hru hbu
      rw [comm] at this; exact this
    · refine .inr (.inl ⟨wj, sj, u, fun w' hw' => by have := qj w' hw'; unfold Oper.quietAt at this ⊢; rwa [kej] at this, .inr (.inr ⟨by rw [kw]; exact hw, ?_⟩)⟩)
      rw [comm] at hk; exact hk
    · refine .inr (.inr ⟨wj, .inr (.inr ⟨by rw [kw]; exact hw, ?_⟩)⟩)
      rw [comm] at hk; exact hk

/-- an operation that may come up may be taken first -/
theorem wpAnyF_first {Q : (Nat → World) → Act → Prop} {i : Nat} {oi : Oper} (hi : ops[i]? = some oi) (hsel : ∀ (j : Nat) (o : Oper) cs b, ops[j]? = some o → o.op ≠ .select cs b) (hB : freshB md ops ch sp = true) :
    ∀ (f : Nat) (seen : Array Bool) (E : Nat → World) (a : Act), Closed md ops seen →
      (∀ j oj, ops[j]? = some oj → j ≠ i → seen.getD j true = false → (∀ e ∈ oj.after, Region.binds md e = true → e.on ≠ i) → oi.apart ops oj = true) →
      i ∈ Region.ready md ops seen → Shows ch sp RR w P ops i oi E a (fun E' v => wpAnyF ch sp RR w P md ops Q f (seen.setIfInBounds i true) E' (a.put oi.dst v)) →
      wpAnyF ch sp RR w P md ops Q (f + 1) seen E a := by
  have some_of : ∀ {E a} {G : (Nat → World) → Value → Prop}, Shows ch sp RR w P ops i oi E a G → ∃ E' v, G E' v := by
    rintro E a G (⟨_, _, _, ⟨v, z, h1, h2⟩, h⟩ | ⟨_, _, v, _, h⟩ | ⟨_, h⟩)
    · exact ⟨_, _, h v z h1 h2⟩
    · exact ⟨_, _, h⟩
    · exact ⟨_, _, h⟩
  have shows_mono : ∀ {E a} {G G' : (Nat → World) → Value → Prop}, (∀ E v, G E v → G' E v) → Shows ch sp RR w P ops i oi E a G → Shows ch sp RR w P ops i oi E a G' := by
    rintro E a G G' hg (⟨h1, h2, h3, h4, h⟩ | ⟨h1, h2, v, h3, h⟩ | ⟨h1, h⟩)
    · exact .inl ⟨h1, h2, h3, h4, fun v z x y => hg _ _ (h v z x y)⟩
    · exact .inr (.inl ⟨h1, h2, v, h3, hg _ _ h⟩)
    · exact .inr (.inr ⟨h1, hg _ _ h⟩)
  intro f
  induction f with
  | zero =>
    intro seen E a hc _ hr H
    refine ⟨fun h => (by rw [h] at hr; cases hr), fun j hj => ?_⟩
    by_cases hji : j = i
    · subst hji; rw [shows_iff hi]; exact H
    · obtain ⟨E', v, h⟩ := some_of H
      have := ready_mono hj hji
      rw [h.1] at this
      cases this
  | succ f ih =>
    intro seen E a hc hfree hr H
    refine ⟨fun h => (by rw [h] at hr; cases hr), fun j hj => ?_⟩
    by_cases hji : j = i
    · subst hji; rw [shows_iff hi]; exact H
    · obtain ⟨hjun, oj, hoj, hall⟩ := mem_ready.1 hj
      have hiun := (mem_ready.1 hr).1
      have hnot : ∀ e ∈ oj.after, Region.binds md e = true → e.on ≠ i := fun e he hb heq => by
        have h1 := hall e he hb
        rw [heq, getD_both hiun] at h1
        cases h1
      have H2 := shows_mono (fun E' v h => h.2 j (ready_mono hj hji)) H
      have h2 := fOp_put hoj (hfree j oj hoj hji hjun hnot) hji (fresh_ch hB hc hr hjun) (fresh_ch hB hc hj hiun) (fun cs b => hsel i oi cs b hi) (fun cs b => hsel j oj cs b hoj) (fun hs => fresh_calm hB hoj hs) H2
      have hfree' : ∀ k ok, ops[k]? = some ok → k ≠ i → (seen.setIfInBounds j true).getD k true = false →
          (∀ e ∈ ok.after, Region.binds md e = true → e.on ≠ i) → oi.apart ops ok = true := fun k ok hk hki hun hno => by
        refine hfree k ok hk hki ?_ hno
        by_cases hjk : j = k
        · subst hjk; exact hjun
        · rw [getD_set_ne true hjk] at hun; exact hun
      refine fOp_mono (fun E' a' h3 => ih (seen.setIfInBounds j true) E' a' (hc.set hj) hfree' (ready_mono hr (Ne.symm hji)) ?_) h2
      rw [Array.setIfInBounds_comm _ _ hji]
      exact h3

theorem wpAnyF_lex {Q : (Nat → World) → Act → Prop} (hs : Region.noSelect ops = true) (hB : freshB md ops ch sp = true) : ∀ (l : List Oper) (k : Nat) (seen : Array Bool) (E : Nat → World) (a : Act), (∀ j, l[j]? = ops[k + j]?) → Closed md ops seen →
    Region.lexFrom md ops l.length k seen = true → walkF ch sp RR w P ops Q l k E a → wpAnyF ch sp RR w P md ops Q l.length seen E a
  | [], _, _, _, _, _, _, hL, h => ⟨by simpa [Region.lexFrom] using hL, h⟩
  | o :: l, k, seen, E, a, hl, hc, hL, h => by
    have h0 : ops[k]? = some o := by simpa using (hl 0).symm
    simp only [List.length_cons, Region.lexFrom, Bool.and_eq_true] at hL
    obtain ⟨⟨hr, hf⟩, hL'⟩ := hL
    have hr' : k ∈ Region.ready md ops seen := by simpa using hr
    have hst : fOp ch sp RR w P ops k E (walkF ch sp RR w P ops Q l (k + 1)) a := by unfold fOp; simp only [h0]; exact h
    refine wpAnyF_first h0 (Region.noSelect_spec hs) hB l.length seen E a hc (Region.free_spec h0 hf) hr' ?_
    rw [shows_iff h0] at hst
    have ih := fun (E' : Nat → World) (v : Value) => wpAnyF_lex (Q := Q) hs hB l (k + 1) (seen.setIfInBounds k true) E' (a.put o.dst v) (fun j => by have := hl (j + 1); simpa [Nat.add_assoc, Nat.add_comm 1 j] using this) (hc.set hr') hL'
    rcases hst with ⟨h1, h2, h3, h4, h⟩ | ⟨h1, h2, v, h3, h⟩ | ⟨h1, h⟩
    · exact .inl ⟨h1, h2, h3, h4, fun v z x y => ih _ _ (h v z x y)⟩
    · exact .inr (.inl ⟨h1, h2, v, h3, ih _ _ h⟩)
    · exact .inr (.inr ⟨h1, ih _ _ h⟩)

def Gr (A B : World) : Prop := Below A.heap.size A B
theorem Gr.trans {A B C : World} (h : Gr A B) (k : Gr B C) : Gr A C := Below.trans h (Below.mono k h.size)

theorem wpAny_of_F {Q : (Nat → World) → Act → Prop} {Q' : Exit → Act → World → Prop} (hB : freshB md ops ch sp = true) (hQ : ∀ E a w', Gr w w' → (∀ i, Gr (E i) w') → Q E a → Q' .normal a w') :
    ∀ (f : Nat) (seen : Array Bool) (E : Nat → World) (a : Act) (w' : World), Gr w w' → (∀ i, Gr (E i) w') → wpAnyF ch sp RR w P md ops Q f seen E a → wpAny P md ops Q' f seen a w'
  | 0, _, E, a, w', h0, hE, h => ⟨h.1, hQ _ _ _ h0 hE h.2⟩
  | f + 1, seen, E, a, w', h0, hE, h => by
    refine ⟨fun hr => hQ _ _ _ h0 hE (h.1 hr), fun k hk => ?_⟩
    have hk' := h.2 k hk
    have ih := fun E' a' w'' (x : Gr w w'') (y : ∀ i, Gr (E' i) w'') => wpAny_of_F (Q' := Q') hB hQ f (seen.setIfInBounds k true) E' a' w'' x y
    have hcls : cls (from_ ch w E k) w' := by
      unfold from_
      split
      · exact below_plus h0
      · exact below_plus (hE _)
    obtain ⟨_, o, ho, _⟩ := mem_ready.1 hk
    unfold fOp at hk'
    unfold wpOp
    simp only [ho] at hk' ⊢
    split
    · rename_i hw
      simp only [hw, if_true] at hk'
      refine .inl ?_
      by_cases hs : sp.contains k = true
      · rw [if_pos hs] at hk'
        obtain ⟨hg, hn⟩ := hk'
        have hg := hg w' hcls
        have hfb : Gr (from_ ch w E k) w' := by
          unfold from_
          split
          · exact h0
          · exact hE _
        have fin : ∀ v z, Below w'.heap.size w' z → RR k v z → wpAny P md ops Q' f (seen.setIfInBounds k true) (a.put o.dst v) z := fun v z hb hr => by
          have hg : Gr w' z := hb
          refine ih _ _ z (h0.trans hg) (fun i => ?_) (hn v z hr (hfb.trans hg))
          unfold upd
          split
          · exact Below.refl _ _
          · exact (hE i).trans hg
        unfold growUpon at hg
        unfold Oper.wp
        generalize (execOp a.eval o).run P w' = r at *
        split at hg
        · exact fin _ _ hg.1 hg.2
        · obtain ⟨rfl, hcall⟩ := hg
          refine hcall.mono fun e w'' ⟨v, he, hb, hr⟩ => ?_
          subst he
          exact fin v w'' hb hr
        · exact hg.elim
      · rw [if_neg hs] at hk'
        obtain ⟨v, hq, hn⟩ := hk'
        have hq := hq w' hcls
        have hcalm := fresh_calm hB ho (by simpa using hs)
        unfold Oper.quietAt at hq
        unfold Oper.wp
        have hne := calm_spec P w'
        cases hr : (execOp a.eval o).run P w' with
        | halt h w'' => rw [hr] at hq; simp [Oper.quietUpon] at hq
        | ok n w'' =>
          rw [hr] at hq
          cases n with
          | value x =>
            obtain ⟨rfl, rfl⟩ := hq
            exact ih _ _ _ h0 hE hn
          | skip =>
            obtain ⟨rfl, rfl⟩ := hq
            exact ih _ _ _ h0 hE hn
          | enter f args => exact absurd hr (hne w'' f args hcalm _)
          | _ => simp [Oper.quietUpon] at hq
    · rename_i hw
      simp only [hw] at hk'
      exact ih _ _ _ h0 hE hk'

/-- one walk serves every order -/
theorem wp_region_fresh {id : Nat} {Q : Exit → Act → World → Prop} {a : Act} {l : List Oper} (ch : List (Option Nat)) (sp : List Nat) (RR : Nat → Value → World → Prop) (hm : P.follows .mixedOrders = true) (hL : Region.lexB .any l.toArray = true) (hB : freshB .any l.toArray ch sp = true)
    (h : walkF ch sp RR w P l.toArray (fun E a' => ∀ w', Gr w w' → (∀ i, Gr (E i) w') → Q .normal a' w') l 0 (fun _ => w) a) : (Code.region id l.toArray true).wp P Q a w := by
  simp only [Region.lexB, Bool.and_eq_true] at hL
  refine wp_region_any hm ?_
  have hgr : Gr w { w with drawn := w.drawn + 1 } := ⟨rfl, rfl, rfl, Nat.le_refl _, fun _ _ => rfl⟩
  have := wpAnyF_lex (ch := ch) (sp := sp) (RR := RR) (w := w) (P := P) (md := .any) (ops := l.toArray) hL.1 hB l 0 (Array.replicate l.toArray.size false) (fun _ => w) a (by simp) ⟨by simp, fun j oj _ hl => (by rw [getD_replicate_false] at hl; cases hl)⟩ (by simpa using hL.2) h
  have := wpAny_of_F (Q' := Q) hB (fun E a w' h0 hE hq => hq w' h0 hE) _ _ _ a { w with drawn := w.drawn + 1 } hgr (fun _ => hgr) this
  simpa using this

/-! the walk, piece by piece -/
def segB (ch : List (Option Nat)) (sp : List Nat) (c : Option Nat) (k : Nat) : Nat → Bool
  | 0 => true
  | n + 1 => (match ch.getD k none, c with
    | none, none => true
    | some i, some j => i == j
    | _, _ => false) && !sp.contains k && segB ch sp c (k + 1) n

theorem walkF_seg {Q : (Nat → World) → Act → Prop} {E : Nat → World} (c : Option Nat) (W : World) (hW : (match c with | none => w | some i => E i) = W) : ∀ (n : Nat) (l : List Oper) (k : Nat) (a : Act), segB ch sp c k n = true →
    wpQuiet P ops (cls W) (walkF ch sp RR w P ops Q (l.drop n) (k + n) E) (l.take n) a → walkF ch sp RR w P ops Q l k E a := by
  intro n
  induction n with
  | zero => intro l k a _ h; simpa [wpQuiet] using h
  | succ n ih =>
    intro l k a hB h
    cases l with
    | nil =>
      have : walkF ch sp RR w P ops Q [] (k + (n + 1)) E a := by simpa [wpQuiet] using h
      exact this
    | cons o l =>
      unfold segB at hB
      simp only [Bool.and_eq_true, Bool.not_eq_true'] at hB
      obtain ⟨⟨h1, h2⟩, h3⟩ := hB
      have hf : from_ ch w E k = W := by
        unfold from_
        rw [← hW]
        cases hk : ch.getD k none <;> cases c <;> simp only [hk] at h1
        · rfl
        · cases h1
        · cases h1
        · rename_i i j
          have : i = j := by simpa using h1
          rw [this]
      rw [List.take_succ_cons, List.drop_succ_cons] at h
      unfold walkF
      rw [if_neg (show ¬ (sp.contains k = true) by rw [h2]; decide), hf]
      unfold wpQuiet at h
      have e : k + (n + 1) = k + 1 + n := by omega
      rw [e] at h
      split
      · rename_i hw
        rw [if_pos hw] at h
        exact Oper.quiet_mono (fun a' h' => ih l (k + 1) a' h3 h') h
      · rename_i hw
        rw [if_neg hw] at h
        exact ih l (k + 1) _ h3 h

theorem walkF_one {Q : (Nat → World) → Act → Prop} {E : Nat → World} {o : Oper} {l : List Oper} {k : Nat} {a : Act} (c : Option Nat) (W : World) (hW : (match c with | none => w | some i => E i) = W) (hB : segB ch sp c k 1 = true)
    (h : wpQuiet P ops (cls W) (walkF ch sp RR w P ops Q l (k + 1) E) [o] a) : walkF ch sp RR w P ops Q (o :: l) k E a := walkF_seg c W hW 1 (o :: l) k a hB h
theorem walkF_end {Q : (Nat → World) → Act → Prop} {E : Nat → World} {k : Nat} {a : Act} (h : Q E a) : walkF ch sp RR w P ops Q [] k E a := h

/-- an operation that makes memory -/
theorem walkF_make {Q : (Nat → World) → Act → Prop} {E : Nat → World} {o : Oper} {l : List Oper} {k : Nat} {a : Act} (c : Option Nat) (W : World) (hW : (match c with | none => w | some i => E i) = W) (hc : ch.getD k none = c) (hs : sp.contains k = true) (hw : Region.wanted o (yielded ops a.tmps) = true)
    (h1 : ∀ x, growUpon P (plus W x) (RR k) ((execOp a.eval o).run P (plus W x)))
    (h2 : ∀ v z, RR k v z → Gr W z → walkF ch sp RR w P ops Q l (k + 1) (upd E k z) (a.put o.dst v)) : walkF ch sp RR w P ops Q (o :: l) k E a := by
  have hf : from_ ch w E k = W := by unfold from_; rw [hc]; exact hW
  unfold walkF
  rw [if_pos hw, if_pos hs, hf]
  exact ⟨fun w' ⟨x, hx⟩ => by rw [hx]; exact h1 x, h2⟩
/-- passed over -/
theorem walkF_skip {Q : (Nat → World) → Act → Prop} {E : Nat → World} {o : Oper} {l : List Oper} {k : Nat} {a : Act} (hw : Region.wanted o (yielded ops a.tmps) = false)
    (h2 : walkF ch sp RR w P ops Q l (k + 1) E (a.put o.dst undef)) : walkF ch sp RR w P ops Q (o :: l) k E a := by
  unfold walkF
  rw [if_neg (by rw [hw]; decide)]
  exact h2
theorem grow_call {f : FuncId} {args : Array Value} {W : World} {R : Value → World → Prop} {r : Result Next} (hr : r = .ok (.enter f args) W) (h : Calls P f args W (fun e w'' => ∃ v, e = .returned v ∧ Below W.heap.size W w'' ∧ R v w'')) : growUpon P W R r := by
  subst hr; exact ⟨rfl, h⟩
end
end Go.Proofs.YtfooggamdbdniaaDoor

/-
  A region that draws its order: a head in which operations may make memory (Frs), behind it a tail in one forced order that may do whatever it likes (stores above all).
-/
namespace Go.Proofs.YtfooggamdbdniaaDoor
open Go.RowKit

section
variable {P : Program} {md : Region.Mode} {ops : Array Oper} (ch : List (Option Nat)) (sp : List Nat) (RR : Nat → Value → World → Prop) (w : World)

def headF (P : Program) (md : Region.Mode) (ops : Array Oper) (n : Nat) (L : Array Bool → (Nat → World) → Act → Prop) : Nat → Array Bool → (Nat → World) → Act → Prop
  | 0, seen, E, a => L seen E a
  | f + 1, seen, E, a => Region.ready md ops seen ≠ [] ∧ ∀ i ∈ Region.ready md ops seen, i < n ∧ fOp ch sp RR w P ops i E (headF P md ops n L f (seen.setIfInBounds i true)) a
variable {ch sp RR w}

theorem closed_of {n : Nat} {seen : Array Bool} (h : HeadInv md ops n seen) : Closed md ops seen := ⟨h.size, h.closed⟩

theorem headF_first {n i : Nat} {oi : Oper} {L : Array Bool → (Nat → World) → Act → Prop} (hi : ops[i]? = some oi) (hsel : ∀ (j : Nat) (o : Oper) cs b, ops[j]? = some o → o.op ≠ .select cs b) (hB : freshB md ops ch sp = true)
    (hs : Region.sinkB md ops n = true) (hc : Region.chainB md ops n = true) (hn : n < ops.size) (hin : i < n)
    (hdone : ∀ seen E a, L seen E a → ∀ j ∈ Region.ready md ops seen, n ≤ j) (f : Nat) :
    ∀ (seen : Array Bool) (E : Nat → World) (a : Act), HeadInv md ops n seen →
      (∀ j oj, ops[j]? = some oj → j ≠ i → seen.getD j true = false → (∀ e ∈ oj.after, Region.binds md e = true → e.on ≠ i) → oi.apart ops oj = true) →
      i ∈ Region.ready md ops seen → Shows ch sp RR w P ops i oi E a (fun E' v => headF ch sp RR w P md ops n L f (seen.setIfInBounds i true) E' (a.put oi.dst v)) →
      headF ch sp RR w P md ops n L (f + 1) seen E a := by
  have some_of : ∀ {E a} {G : (Nat → World) → Value → Prop}, Shows ch sp RR w P ops i oi E a G → ∃ E' v, G E' v := by
    rintro E a G (⟨_, _, _, ⟨v, z, h1, h2⟩, h⟩ | ⟨_, _, v, _, h⟩ | ⟨_, h⟩)
    · exact ⟨_, _, h v z h1 h2⟩
    · exact ⟨_, _, h⟩
    · exact ⟨_, _, h⟩
  have shows_mono : ∀ {E a} {G G' : (Nat → World) → Value → Prop}, (∀ E v, G E v → G' E v) → Shows ch sp RR w P ops i oi E a G → Shows ch sp RR w P ops i oi E a G' := by
    rintro E a G G' hg (⟨h1, h2, h3, h4, h⟩ | ⟨h1, h2, v, h3, h⟩ | ⟨h1, h⟩)
    · exact .inl ⟨h1, h2, h3, h4, fun v z x y => hg _ _ (h v z x y)⟩
    · exact .inr (.inl ⟨h1, h2, v, h3, hg _ _ h⟩)
    · exact .inr (.inr ⟨h1, hg _ _ h⟩)
  induction f with
  | zero =>
    intro seen E a inv _ hr H
    have hun := (mem_ready.1 hr).1
    refine ⟨fun h => (by rw [h] at hr; cases hr), fun j hj => ?_⟩
    have hjn : j < n := by
      apply Classical.byContradiction
      intro h
      exact tail_waits hs hc hn inv _ i rfl hin hun j (by omega) hj
    refine ⟨hjn, ?_⟩
    by_cases hji : j = i
    · subst hji; rw [shows_iff hi]; exact H
    · obtain ⟨E', v, h⟩ := some_of H
      have := hdone _ _ _ h j (ready_mono hj hji)
      omega
  | succ f ih =>
    intro seen E a inv hfree hr H
    have hiun := (mem_ready.1 hr).1
    refine ⟨fun h => (by rw [h] at hr; cases hr), fun j hj => ?_⟩
    have hjn : j < n := by
      apply Classical.byContradiction
      intro h
      exact tail_waits hs hc hn inv _ i rfl hin hiun j (by omega) hj
    refine ⟨hjn, ?_⟩
    by_cases hji : j = i
    · subst hji; rw [shows_iff hi]; exact H
    · obtain ⟨hjun, oj, hoj, hall⟩ := mem_ready.1 hj
      have hnot : ∀ e ∈ oj.after, Region.binds md e = true → e.on ≠ i := fun e he hb heq => by
        have h1 := hall e he hb
        rw [heq, getD_both hiun] at h1
        cases h1
      have H2 := shows_mono (fun E' v h => (h.2 j (ready_mono hj hji)).2) H
      have h2 := fOp_put hoj (hfree j oj hoj hji hjun hnot) hji (fresh_ch hB (closed_of inv) hr hjun) (fresh_ch hB (closed_of inv) hj hiun) (fun cs b => hsel i oi cs b hi) (fun cs b => hsel j oj cs b hoj) (fun hs => fresh_calm hB hoj hs) H2
      have hfree' : ∀ k ok, ops[k]? = some ok → k ≠ i → (seen.setIfInBounds j true).getD k true = false →
          (∀ e ∈ ok.after, Region.binds md e = true → e.on ≠ i) → oi.apart ops ok = true := fun k ok hk hki hun hno => by
        refine hfree k ok hk hki ?_ hno
        by_cases hjk : j = k
        · subst hjk; exact hjun
        · rw [getD_set_ne true hjk] at hun; exact hun
      refine fOp_mono (fun E' a' h3 => ih (seen.setIfInBounds j true) E' a' (inv.set hj hjn) hfree' (ready_mono hr (Ne.symm hji)) ?_) h2
      rw [Array.setIfInBounds_comm _ _ hji]
      exact h3

theorem headF_lex {n g : Nat} {Lq : (Nat → World) → Act → Prop} (hsel : Region.noSelect ops = true) (hB : freshB md ops ch sp = true) (hs : Region.sinkB md ops n = true) (hc : Region.chainB md ops n = true) (hn : n < ops.size) (l : List Oper) :
    ∀ (k : Nat) (seen : Array Bool) (E : Nat → World) (a : Act), (∀ j, j < l.length → l[j]? = ops[k + j]?) → k + l.length = n → HeadInv md ops n seen →
    Region.lexHead md ops g l.length k seen = true → walkF ch sp RR w P ops Lq l k E a →
    headF ch sp RR w P md ops n (fun seen' E' a' => Region.seqB md ops g n seen' = true ∧ Lq E' a') l.length seen E a := by
  induction l with
  | nil =>
    intro k seen E a _ hk _ hL h
    have : k = n := by simpa using hk
    subst this
    exact ⟨by simpa [Region.lexHead] using hL, h⟩
  | cons o l ih =>
    intro k seen E a hl hk inv hL h
    have h0 : ops[k]? = some o := by simpa using (hl 0 (by simp)).symm
    simp only [List.length_cons, Region.lexHead, Bool.and_eq_true] at hL
    obtain ⟨⟨hr, hf⟩, hL'⟩ := hL
    have hkn : k < n := by simp only [List.length_cons] at hk; omega
    have hr' : k ∈ Region.ready md ops seen := by simpa using hr
    have hst : fOp ch sp RR w P ops k E (walkF ch sp RR w P ops Lq l (k + 1)) a := by unfold fOp; simp only [h0]; exact h
    refine headF_first h0 (Region.noSelect_spec hsel) hB hs hc hn hkn (fun seen' E' a' hL => seqB_ready hL.1) l.length seen E a inv (Region.free_spec h0 hf) hr' ?_
    rw [shows_iff h0] at hst
    have ihh := fun (E' : Nat → World) (v : Value) => ih (k + 1) (seen.setIfInBounds k true) E' (a.put o.dst v) (fun j hj => by have := hl (j + 1) (by simp; omega); simpa [Nat.add_assoc, Nat.add_comm 1 j] using this) (by simp only [List.length_cons] at hk; omega) (inv.set hr' hkn) hL'
    rcases hst with ⟨h1, h2, h3, h4, h⟩ | ⟨h1, h2, v, h3, h⟩ | ⟨h1, h⟩
    · exact .inl ⟨h1, h2, h3, h4, fun v z x y => ihh _ _ (h v z x y)⟩
    · exact .inr (.inl ⟨h1, h2, v, h3, ihh _ _ h⟩)
    · exact .inr (.inr ⟨h1, ihh _ _ h⟩)

theorem wpAny_of_headF {n g : Nat} {L : Array Bool → (Nat → World) → Act → Prop} {Q' : Exit → Act → World → Prop} (hB : freshB md ops ch sp = true) (hL : ∀ seen E a w', Gr w w' → (∀ i, Gr (E i) w') → L seen E a → wpAny P md ops Q' g seen a w') :
    ∀ (f : Nat) (seen : Array Bool) (E : Nat → World) (a : Act) (w' : World), Gr w w' → (∀ i, Gr (E i) w') → headF ch sp RR w P md ops n L f seen E a → wpAny P md ops Q' (f + g) seen a w'
  | 0, seen, E, a, w', h0, hE, h => by rw [Nat.zero_add]; exact hL _ _ _ _ h0 hE h
  | f + 1, seen, E, a, w', h0, hE, h => by
    rw [show f + 1 + g = (f + g) + 1 by omega]
    refine ⟨fun hr => absurd hr h.1, fun k hk => ?_⟩
    have hk' := (h.2 k hk).2
    have ih := fun E' a' w'' (x : Gr w w'') (y : ∀ i, Gr (E' i) w'') => wpAny_of_headF (n := n) (Q' := Q') hB hL f (seen.setIfInBounds k true) E' a' w'' x y
    have hcls : cls (from_ ch w E k) w' := by
      unfold from_
      split
      · exact below_plus h0
      · exact below_plus (hE _)
    obtain ⟨_, o, ho, _⟩ := mem_ready.1 hk
    unfold fOp at hk'
    unfold wpOp
    simp only [ho] at hk' ⊢
    split
    · rename_i hw
      simp only [hw, if_true] at hk'
      refine .inl ?_
      by_cases hs : sp.contains k = true
      · rw [if_pos hs] at hk'
        obtain ⟨hg, hn⟩ := hk'
        have hg := hg w' hcls
        have hfb : Gr (from_ ch w E k) w' := by
          unfold from_
          split
          · exact h0
          · exact hE _
        have fin : ∀ v z, Below w'.heap.size w' z → RR k v z → wpAny P md ops Q' (f + g) (seen.setIfInBounds k true) (a.put o.dst v) z := fun v z hb hr => by
          have hg : Gr w' z := hb
          refine ih _ _ z (h0.trans hg) (fun i => ?_) (hn v z hr (hfb.trans hg))
          unfold upd
          split
          · exact Below.refl _ _
          · exact (hE i).trans hg
        unfold growUpon at hg
        unfold Oper.wp
        generalize (execOp a.eval o).run P w' = r at *
        split at hg
        · exact fin _ _ hg.1 hg.2
        · obtain ⟨rfl, hcall⟩ := hg
          refine hcall.mono fun e w'' ⟨v, he, hb, hr⟩ => ?_
          subst he
          exact fin v w'' hb hr
        · exact hg.elim
      · rw [if_neg hs] at hk'
        obtain ⟨v, hq, hn⟩ := hk'
        have hq := hq w' hcls
        have hcalm := fresh_calm hB ho (by simpa using hs)
        unfold Oper.quietAt at hq
        unfold Oper.wp
        have hne := calm_spec P w'
        cases hr : (execOp a.eval o).run P w' with
        | halt h w'' => rw [hr] at hq; simp [Oper.quietUpon] at hq
        | ok n w'' =>
          rw [hr] at hq
          cases n with
          | value x =>
            obtain ⟨rfl, rfl⟩ := hq
            exact ih _ _ _ h0 hE hn
          | skip =>
            obtain ⟨rfl, rfl⟩ := hq
            exact ih _ _ _ h0 hE hn
          | enter f args => exact absurd hr (hne w'' f args hcalm _)
          | _ => simp [Oper.quietUpon] at hq
    · rename_i hw
      simp only [hw] at hk'
      exact ih _ _ _ h0 hE hk'

/-- one walk of the head serves every order; behind it the tail -/
theorem wp_region_fresh_tail {id : Nat} {Q : Exit → Act → World → Prop} {a : Act} {l : List Oper} (n : Nat) (ch : List (Option Nat)) (sp : List Nat) (RR : Nat → Value → World → Prop) (hm : P.follows .mixedOrders = true) (hL : Region.lexTailB .any l.toArray n = true) (hB : freshB .any l.toArray ch sp = true)
    (h : walkF ch sp RR w P l.toArray (fun E a' => ∀ w', Gr w w' → (∀ i, Gr (E i) w') → wpList P l.toArray Q (l.drop n) a' w') (l.take n) 0 (fun _ => w) a) : (Code.region id l.toArray true).wp P Q a w := by
  simp only [Region.lexTailB, Bool.and_eq_true, decide_eq_true_eq] at hL
  obtain ⟨⟨⟨⟨hsel, hn⟩, hs⟩, hc⟩, hlex⟩ := hL
  have hn' : n < l.length := by simpa using hn
  have htl : (l.take n).length = n := by simp; omega
  have hdl : (l.drop n).length = l.toArray.size - n := by simp
  have inv0 : HeadInv .any l.toArray n (Array.replicate l.toArray.size false) :=
    ⟨by simp, fun j oj _ hl => (by rw [getD_replicate_false] at hl; cases hl), fun t _ ht => getD_in (by simpa using ht) (getD_replicate_false _ _)⟩
  have hgr : Gr w { w with drawn := w.drawn + 1 } := ⟨rfl, rfl, rfl, Nat.le_refl _, fun _ _ => rfl⟩
  have H := headF_lex (P := P) (ch := ch) (sp := sp) (RR := RR) (w := w) (md := .any) (g := l.toArray.size - n) hsel hB hs hc hn (l.take n) 0 _ (fun _ => w) a (fun j hj => by
    have hj' : j < n := by rw [htl] at hj; exact hj
    simp [hj']) (by simpa using htl) inv0 (by rw [htl]; exact hlex) h
  refine wp_region_any hm ?_
  have := wpAny_of_headF (Q' := Q) (g := l.toArray.size - n) hB (fun seen E a' w' h0 hE hL => by
    have h1 := wpAny_of_seq (P := P) (md := .any) (ops := l.toArray) (Q' := Q) (l.drop n) n seen a' w' (fun j => by simp) (by rw [hdl]; exact hL.1) (hL.2 w' h0 hE)
    rwa [hdl] at h1) _ _ _ a { w with drawn := w.drawn + 1 } hgr (fun _ => hgr) H
  rw [htl, show n + (l.toArray.size - n) = l.toArray.size by omega] at this
  exact this
end
end Go.Proofs.YtfooggamdbdniaaDoor

/- Appends as operations that make memory. -/
namespace Go.Proofs.YtfooggamdbdniaaDoor
open Go.RowKit
set_option maxRecDepth 100000

/-- all of x behind what v owns: the builtin's run -/
theorem run_appA (w : World) (ty : TypeId) (base : Nat) (v : Value) (L : List UInt8) (hown : OwnB w base v L) (A : Option Addr) (c : Nat) (l : List UInt8) (hb : Bs w A l) (hlen : L.length + l.length ≤ 140737488355328) (hbase : base ≤ w.heap.size) :
    ∃ v' w', (Builtin.append_ #[27, 27] ty #[v, .slice A l.length c]).run Tryd.prog w = .ok v' w' ∧ OwnB w' base v' (L ++ l) ∧ w.grownBy w' v.ownBlock := by
  obtain ⟨i, hi, hz, hsz, hby⟩ := info_parts Tryd.info_u8
  rcases A with _ | ad
  · have h0 : l = [] := by
      cases l with
      | nil => rfl
      | cons b l => obtain ⟨p, o, hA, _⟩ := hb 0 b rfl; cases hA
    subst h0
    exact ⟨v, w, run_app_nil w base 27 ty 5 i 1 Tryd.underlying27 hi _ _ _ hown c, by rw [List.append_nil]; exact hown, ⟨rfl, rfl, rfl, Nat.le_refl _, fun _ _ _ => rfl⟩⟩
  · obtain ⟨v', w', hrun, r1, r2, r3⟩ := run_append_own (P := Tryd.prog) w base 27 ty 5 i (.int .u8 0) 1 1 Tryd.underlying27 hi hz hsz hby rfl (by decide) v L.length (L.map bv) hown ad l.length c (l.map bv) (by simp)
      (fun j u hj => by
        rw [List.getElem?_map] at hj
        obtain ⟨b, hjb, rfl⟩ := Option.map_eq_some_iff.1 hj
        obtain ⟨p, o, hA, hc⟩ := hb j b hjb
        injection hA with e
        subst e
        unfold Addr.add
        split
        · rename_i h0; subst h0; simpa using hc
        · exact hc)
      (fun u hu => by
        obtain ⟨b, _, rfl⟩ := List.mem_map.1 hu
        rfl) (by unfold maxLen; omega) (by omega) hbase
    exact ⟨v', w', hrun, by unfold OwnB; rw [List.length_append, List.map_append]; exact r1, r2⟩

/-- 'append([]byte(nil), x...)' as an operation of a region that makes memory -/
theorem grow_appNil {o : Oper} {a : Act} {W : World} (s x : Operand) (ho : o.op = .call { callee := .builtin .append, args := #[s, x], argTypes := #[27, 27] })
    (hs : a.eval s = .slice none 0 0) (A : Option Addr) (n c : Nat) (l : List UInt8) (hx : a.eval x = .slice A n c) (hn : n = l.length) (hb : Bs W A l) (hlen : l.length ≤ 140737488355328) (base : Nat) (hbase : base ≤ W.heap.size) :
    growUpon Tryd.prog W (fun v z => ∃ A' c', v = .slice A' l.length c' ∧ OwnB z base v l) ((execOp a.eval o).run Tryd.prog W) := by
  subst hn
  obtain ⟨v', w', hrun, h1, h2⟩ := run_appA W o.type W.heap.size (.slice none 0 0) [] (OwnB.nil _ _) A c l hb (by simpa using hlen) (Nat.le_refl _)
  rw [List.nil_append] at h1
  have hB : Below W.heap.size W w' := own_grown (OwnB.nil W W.heap.size) h2 (Nat.le_refl _)
  obtain ⟨A', c', hv, _⟩ := h1.isB
  have hr : (execOp a.eval o).run Tryd.prog W = .ok (.value v') w' := by
    simp [execOp, ho, resolve, invoke, builtin, hs, hx, hrun, Result.andThen]
  rw [hr]
  exact ⟨hB, A', c', hv, h1.mono hbase⟩

/-- an operation whose run is known -/
theorem grow_val {P : Program} {o : Oper} {a : Act} {W w' : World} {R : Value → World → Prop} {v : Value} (hr : (execOp a.eval o).run P W = .ok (.value v) w') (hb : Below W.heap.size W w') (hR : R v w') : growUpon P W R ((execOp a.eval o).run P W) := by
  rw [hr]
  exact ⟨hb, hR⟩
/-- '[]byte{..}' as an operation of a region that makes memory -/
theorem grow_bytes {o : Oper} {a : Act} {W : World} (R : Value → World → Prop) (cs : List UInt8) (t : TypeId)
    (hr : (execOp a.eval o).run Tryd.prog W = .ok (.value (.slice (some ⟨W.heap.size, 0, none⟩) cs.length cs.length)) (W.alloc (.cells (cs.map bv).toArray t)))
    (hR : ∀ g z, Blk z g t (cs.map bv).toArray → R (.slice (some ⟨g, 0, none⟩) cs.length cs.length) z) : growUpon Tryd.prog W R ((execOp a.eval o).run Tryd.prog W) := by
  rw [hr]
  exact ⟨below_alloc _ _, hR _ _ (Blk.new W t _)⟩
theorem Blk.bs {w : World} {g : Nat} {t : TypeId} {l : List UInt8} (h : Blk w g t (l.map bv).toArray) : Bs w (some ⟨g, 0, none⟩) l := fun i b hi => by
  refine ⟨_, _, rfl, ?_⟩
  rw [Nat.zero_add, h.cell i]
  simp [hi]

end Go.Proofs.YtfooggamdbdniaaDoor

/-
  A region that draws its order: a head of operations that read, compute, and call functions that make memory of their own and hand back plain values; behind it a tail in one forced order that may do whatever it likes. One walk in the order of the text serves every order.
-/
namespace Go.Proofs.YtfooggamdbdniaaDoor
open Go.RowKit

section
variable {P : Program} {md : Region.Mode} {ops : Array Oper} {C : World → Prop}

/-- so many operations of the head, each quiet in the class, in whatever order; then L -/
def headIn (P : Program) (md : Region.Mode) (ops : Array Oper) (C : World → Prop) (n : Nat) (L : Array Bool → Act → Prop) : Nat → Array Bool → Act → Prop
  | 0, seen, a => L seen a
  | f + 1, seen, a => Region.ready md ops seen ≠ [] ∧ ∀ i ∈ Region.ready md ops seen, i < n ∧ qOp P ops C i (headIn P md ops C n L f (seen.setIfInBounds i true)) a

theorem any_of_headIn {n g : Nat} {L : Array Bool → Act → Prop} {Q' : Exit → Act → World → Prop} (hL : ∀ seen a w, C w → L seen a → wpAny P md ops Q' g seen a w) (f : Nat) :
    ∀ (seen : Array Bool) (a : Act) (w : World), C w → headIn P md ops C n L f seen a → wpAny P md ops Q' (f + g) seen a w := by
  induction f with
  | zero => intro seen a w hw h; rw [Nat.zero_add]; exact hL seen a w hw h
  | succ f ih =>
    intro seen a w hw h
    rw [show f + 1 + g = (f + g) + 1 by omega]
    exact ⟨fun h0 => absurd h0 h.1, fun i hi => wpOp_of_qOp hw (fun a' w' hw' h' => ih _ a' w' hw' h') (h.2 i hi).2⟩

/-- one that may come up may be taken first -/
theorem headIn_first {n i : Nat} {oi : Oper} {v : Value} {L : Array Bool → Act → Prop} (hi : ops[i]? = some oi) (hsel : ∀ (j : Nat) (o : Oper) cs b, ops[j]? = some o → o.op ≠ .select cs b)
    (hs : Region.sinkB md ops n = true) (hc : Region.chainB md ops n = true) (hn : n < ops.size) (hin : i < n)
    (hdone : ∀ seen a, L seen a → ∀ j ∈ Region.ready md ops seen, n ≤ j) (f : Nat) :
    ∀ (seen : Array Bool) (a : Act), HeadInv md ops n seen →
      (∀ j oj, ops[j]? = some oj → j ≠ i → seen.getD j true = false → (∀ e ∈ oj.after, Region.binds md e = true → e.on ≠ i) → oi.apart ops oj = true) →
      i ∈ Region.ready md ops seen → YieldsIn P ops C oi v a →
      headIn P md ops C n L f (seen.setIfInBounds i true) (a.put oi.dst v) → headIn P md ops C n L (f + 1) seen a := by
  induction f with
  | zero =>
    intro seen a inv _ hr hy H
    have hun := (mem_ready.1 hr).1
    refine ⟨fun h => (by rw [h] at hr; cases hr), fun j hj => ?_⟩
    have hjn : j < n := by
      apply Classical.byContradiction
      intro h
      exact tail_waits hs hc hn inv _ i rfl hin hun j (by omega) hj
    refine ⟨hjn, ?_⟩
    rcases Classical.em (j = i) with hji | hji
    · subst hji; exact hy.qOp hi H
    · have := hdone _ _ H j (ready_mono hj hji)
      omega
  | succ f ih =>
    intro seen a inv hfree hr hy H
    have hun := (mem_ready.1 hr).1
    refine ⟨fun h => (by rw [h] at hr; cases hr), fun j hj => ?_⟩
    have hjn : j < n := by
      apply Classical.byContradiction
      intro h
      exact tail_waits hs hc hn inv _ i rfl hin hun j (by omega) hj
    refine ⟨hjn, ?_⟩
    rcases Classical.em (j = i) with hji | hji
    · subst hji; exact hy.qOp hi H
    · have h1 := (H.2 j (ready_mono hj hji)).2
      obtain ⟨hjun, oj, hoj, hall⟩ := mem_ready.1 hj
      have hnot : ∀ e ∈ oj.after, Region.binds md e = true → e.on ≠ i := fun e he hb heq => by
        have h1 := hall e he hb
        rw [heq, getD_both hun] at h1
        cases h1
      have h2 := qOp_put hoj (hfree j oj hoj hji hjun hnot) (fun cs b => hsel i oi cs b hi) (fun cs b => hsel j oj cs b hoj) hy h1
      refine qOp_mono (fun a' h3 => ih (seen.setIfInBounds j true) a' (inv.set hj hjn) (fun k ok hk hki hun' hno => hfree k ok hk hki ?_ hno) (ready_mono hr (Ne.symm hji)) h3.1 ?_) h2
      · rcases Classical.em (j = k) with hjk | hjk
        · subst hjk; exact hjun
        · rw [getD_set_ne true hjk] at hun'; exact hun'
      · rw [Array.setIfInBounds_comm _ _ hji]
        exact h3.2

theorem headIn_lex {n g : Nat} {Lq : Act → Prop} (hsel : Region.noSelect ops = true) (hs : Region.sinkB md ops n = true) (hc : Region.chainB md ops n = true) (hn : n < ops.size) (l : List Oper) :
    ∀ (k : Nat) (seen : Array Bool) (a : Act), (∀ j, j < l.length → l[j]? = ops[k + j]?) → k + l.length = n → HeadInv md ops n seen →
    Region.lexHead md ops g l.length k seen = true → wpQuiet P ops C Lq l a →
    headIn P md ops C n (fun seen' a' => Region.seqB md ops g n seen' = true ∧ Lq a') l.length seen a := by
  induction l with
  | nil =>
    intro k seen a _ hk _ hB h
    have : k = n := by simpa using hk
    subst this
    exact ⟨by simpa [Region.lexHead] using hB, h⟩
  | cons o l ih =>
    intro k seen a hl hk inv hB h
    have h0 : ops[k]? = some o := by simpa using (hl 0 (by simp)).symm
    simp only [List.length_cons, Region.lexHead, Bool.and_eq_true] at hB
    obtain ⟨⟨hr, hf⟩, hB'⟩ := hB
    have hkn : k < n := by simp only [List.length_cons] at hk; omega
    have hr' : k ∈ Region.ready md ops seen := by simpa using hr
    have hst : qOp P ops C k (wpQuiet P ops C Lq l) a := by unfold qOp; simp only [h0]; exact h
    obtain ⟨v, hy, hK⟩ := yieldsIn_of_qOp h0 hst
    exact headIn_first h0 (Region.noSelect_spec hsel) hs hc hn hkn (fun seen' a' hL => seqB_ready hL.1) l.length seen a inv (Region.free_spec h0 hf) hr' hy
      (ih (k + 1) _ _ (fun j hj => by have := hl (j + 1) (by simp; omega); simpa [Nat.add_assoc, Nat.add_comm 1 j] using this) (by simp only [List.length_cons] at hk; omega) (inv.set hr' hkn) hB' hK)

theorem wp_region_tail {id : Nat} {Q : Exit → Act → World → Prop} {a : Act} {w : World} {l : List Oper} (n : Nat) (hm : P.follows .mixedOrders = true) (hB : Region.lexTailB .any l.toArray n = true) (hC : C { w with drawn := w.drawn + 1 })
    (h : wpQuiet P l.toArray C (fun a' => ∀ w', C w' → wpList P l.toArray Q (l.drop n) a' w') (l.take n) a) : (Code.region id l.toArray true).wp P Q a w := by
  simp only [Region.lexTailB, Bool.and_eq_true, decide_eq_true_eq] at hB
  obtain ⟨⟨⟨⟨hsel, hn⟩, hs⟩, hc⟩, hlex⟩ := hB
  have hn' : n < l.length := by simpa using hn
  have htl : (l.take n).length = n := by simp; omega
  have hdl : (l.drop n).length = l.toArray.size - n := by simp
  have inv0 : HeadInv .any l.toArray n (Array.replicate l.toArray.size false) :=
    ⟨by simp, fun j oj _ hl => (by rw [getD_replicate_false] at hl; cases hl), fun t _ ht => getD_in (by simpa using ht) (getD_replicate_false _ _)⟩
  have H := headIn_lex (P := P) (C := C) (md := .any) (g := l.toArray.size - n) hsel hs hc hn (l.take n) 0 _ a (fun j hj => by
    have hj' : j < n := by rw [htl] at hj; exact hj
    simp [hj']) (by simpa using htl) inv0 (by rw [htl]; exact hlex) h
  refine wp_region_any hm ?_
  have := any_of_headIn (Q' := Q) (g := l.toArray.size - n) (fun seen a' w' hw' hL => by
    have h1 := wpAny_of_seq (P := P) (md := .any) (ops := l.toArray) (Q' := Q) (l.drop n) n seen a' w' (fun j => by simp) (by rw [hdl]; exact hL.1) (hL.2 w' hw')
    rwa [hdl] at h1) _ _ _ _ hC H
  rw [htl, show n + (l.toArray.size - n) = l.toArray.size by omega] at this
  exact this
end

/-- the class: the world with more blocks -/
theorem wp_region_tail_ext {P : Program} {id : Nat} {Q : Exit → Act → World → Prop} {a : Act} {w : World} {l : List Oper} (n : Nat) (hm : P.follows .mixedOrders = true) (hB : Region.lexTailB .any l.toArray n = true)
    (h : wpQuiet P l.toArray (fun w' => ∃ x, w' = plus w x) (fun a' => ∀ w', (∃ x, w' = plus w x) → wpList P l.toArray Q (l.drop n) a' w') (l.take n) a) : (Code.region id l.toArray true).wp P Q a w :=
  wp_region_tail (C := fun w' => ∃ x, w' = plus w x) n hm hB ⟨⟨#[], w.drawn + 1⟩, by simp [plus]⟩ h

end Go.Proofs.YtfooggamdbdniaaDoor
