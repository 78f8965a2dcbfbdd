/-
  A region that draws its order, some of whose operations make memory (calls above all) and hand back values that nobody can name ahead; all others read and compute. One walk in the order of the text serves every order: an operation that reads only what the world held when the region began is walked from there, one that reads what a call made from the world behind that call.
-/
import Derived.Test.YtgadedpcekiljaaUp
import Derived.StillTail
namespace Go.Proofs.Ytgadedpcekiljaa
open Go.RowKit

/-- operations that call nothing -/
def calmB (o : Oper) : Bool := match o.op with
  | .call c => match c.callee with
    | .builtin .len | .builtin .cap | .builtin .min | .builtin .max => true
    | _ => false
  | .go _ | .defer _ | .panic _ | .send .. | .recv .. | .select .. | .nilCheck _ => false
  | _ => true

section
variable (P : Program) (w w' : World) (f : FuncId) (args : Array Value)
theorem not_enter_v (s : Sem Value) : (do pure (Next.value (← s)) : Sem Next).run P w ≠ .ok (.enter f args) w' := by
  intro h
  simp only [Sem.run_bind] at h
  cases hs : s.run P w <;> simp [hs, Result.andThen, Sem.run_pure] at h
theorem not_enter_u (s : Sem Unit) : (do s; pure Next.skip : Sem Next).run P w ≠ .ok (.enter f args) w' := by
  intro h
  simp only [Sem.run_bind] at h
  cases hs : s.run P w <;> simp [hs, Result.andThen, Sem.run_pure] at h
theorem not_enter_p (s : Sem Bool) (x y : Value) : (do pure (Next.value (if ← s then x else y)) : Sem Next).run P w ≠ .ok (.enter f args) w' := by
  intro h
  simp only [Sem.run_bind] at h
  cases hs : s.run P w <;> simp [hs, Result.andThen, Sem.run_pure] at h
theorem calm_spec {o : Oper} (h : calmB o = true) (ρ : Operand → Value) : (execOp ρ o).run P w ≠ .ok (.enter f args) w' := by
  intro hr
  unfold calmB at h
  cases ho : o.op
  all_goals (simp only [ho] at h; unfold execOp at hr; simp only [ho] at hr)
  all_goals try (exact not_enter_v P w w' f args _ hr)
  all_goals try (exact not_enter_u P w w' f args _ hr)
  all_goals try (exact not_enter_p P w w' f args _ _ _ hr)
  all_goals try (cases hr; done)
  all_goals try (cases h; done)
  case call c =>
    cases hc : c.callee with
    | builtin b =>
      simp only [hc] at h
      cases b <;> simp only at h <;> try (cases h; done)
      all_goals
        simp [resolve, hc, Result.andThen, invoke, builtin] at hr
        (split at hr <;> cases hr)
    | invoke r n => simp [hc] at h
    | value f => simp [hc] at h
end

/-- what an operation that may make memory leaves -/
def growUpon (P : Program) (w : World) (R : Value → World → Prop) : Result Next → Prop
  | .ok (.value u) w' => Below w.heap.size w w' ∧ R u w'
  | .ok (.enter f args) w' => w' = w ∧ Calls P f args w (fun e w'' => ∃ v, e = .returned v ∧ Below w.heap.size w w'' ∧ R v w'')
  | _ => False

theorem calls_some {P : Program} {f : FuncId} {args : Array Value} {w : World} {R : Ending → World → Prop} (h : Calls P f args w R) : ∃ e w', R e w' := by
  obtain ⟨e, w', _, hr, _⟩ := h []
  exact ⟨e, w', hr⟩
theorem growUpon_some {P : Program} {w : World} {R : Value → World → Prop} {r : Result Next} (h : growUpon P w R r) : ∃ v w', Below w.heap.size w w' ∧ R v w' := by
  unfold growUpon at h
  split at h
  · exact ⟨_, _, h⟩
  · obtain ⟨_, hc⟩ := h
    obtain ⟨e, w', v, _, h1, h2⟩ := calls_some hc
    exact ⟨v, w', h1, h2⟩
  · exact h.elim

def upd (E : Nat → World) (k : Nat) (z : World) : Nat → World := fun j => if j = k then z else E j
theorem upd_same (E : Nat → World) (k : Nat) (z : World) : upd E k z k = z := if_pos rfl
theorem upd_ne {E : Nat → World} {k j : Nat} {z : World} (h : j ≠ k) : upd E k z j = E j := if_neg h
theorem upd_comm (E : Nat → World) {i j : Nat} (x y : World) (h : i ≠ j) : upd (upd E i x) j y = upd (upd E j y) i x := by
  funext k
  unfold upd
  by_cases h1 : k = j
  · subst h1
    rw [if_pos rfl, if_neg (fun e => h e.symm), if_pos rfl]
  · rw [if_neg h1]
    by_cases h2 : k = i
    · rw [if_pos h2, if_pos h2]
    · rw [if_neg h2, if_neg h2, if_neg h1]

abbrev cls (W : World) : World → Prop := fun w' => ∃ x, w' = plus W x
theorem cls_self (W : World) : cls W W := ⟨⟨#[], W.drawn⟩, by simp [plus]⟩

section
variable {P : Program} {md : Region.Mode} {ops : Array Oper} (ch : List (Option Nat)) (sp : List Nat) (RR : Nat → Value → World → Prop) (w : World)

/-- the world from which operation k is walked -/
def from_ (E : Nat → World) (k : Nat) : World := match ch.getD k none with
  | none => w
  | some i => E i

/-- operation k comes up -/
def fOp (P : Program) (ops : Array Oper) (k : Nat) (E : Nat → World) (K : (Nat → World) → Act → Prop) (a : Act) : Prop :=
  match ops[k]? with
  | none => K E a
  | some o => if Region.wanted o (yielded ops a.tmps) then
      (if sp.contains k then (∀ w', cls (from_ ch w E k) w' → growUpon P w' (RR k) ((execOp a.eval o).run P w')) ∧ ∀ v z, RR k v z → Below (from_ ch w E k).heap.size (from_ ch w E k) z → K (upd E k z) (a.put o.dst v)
       else o.quiet P a (cls (from_ ch w E k)) (K E))
    else K E (a.put o.dst undef)

def wpAnyF (P : Program) (md : Region.Mode) (ops : Array Oper) (Q : (Nat → World) → Act → Prop) : Nat → Array Bool → (Nat → World) → Act → Prop
  | 0, seen, E, a => Region.ready md ops seen = [] ∧ Q E a
  | f + 1, seen, E, a => (Region.ready md ops seen = [] → Q E a) ∧ ∀ i ∈ Region.ready md ops seen, fOp ch sp RR w P ops i E (wpAnyF P md ops Q f (seen.setIfInBounds i true)) a

/-- the walk in the order of the text -/
def walkF (P : Program) (ops : Array Oper) (Q : (Nat → World) → Act → Prop) : List Oper → Nat → (Nat → World) → Act → Prop
  | [], _, E, a => Q E a
  | o :: l, k, E, a => if Region.wanted o (yielded ops a.tmps) then
      (if sp.contains k then (∀ w', cls (from_ ch w E k) w' → growUpon P w' (RR k) ((execOp a.eval o).run P w')) ∧ ∀ v z, RR k v z → Below (from_ ch w E k).heap.size (from_ ch w E k) z → walkF P ops Q l (k + 1) (upd E k z) (a.put o.dst v)
       else o.quiet P a (cls (from_ ch w E k)) (walkF P ops Q l (k + 1) E))
    else walkF P ops Q l (k + 1) E (a.put o.dst undef)
variable {ch sp RR w}

theorem fOp_mono {k : Nat} {E : Nat → World} {a : Act} {K K' : (Nat → World) → Act → Prop} (h : ∀ E a, K E a → K' E a) (hh : fOp ch sp RR w P ops k E K a) : fOp ch sp RR w P ops k E K' a := by
  unfold fOp at *
  split
  · rename_i ho; simp only [ho] at hh; exact h _ _ hh
  · rename_i o ho
    simp only [ho] at hh
    split
    · rename_i hw
      simp only [hw, if_true] at hh
      split
      · rename_i hs
        rw [if_pos hs] at hh
        exact ⟨hh.1, fun v z h1 h2 => h _ _ (hh.2 v z h1 h2)⟩
      · rename_i hs
        rw [if_neg hs] at hh
        exact Oper.quiet_mono (h E) hh
    · rename_i hw
      simp only [hw] at hh
      exact h _ _ hh

/-- closed facts about a region: each world that an operation is walked from stands behind an operation that it waits for; what is no maker of memory is calm -/
def ancB (md : Region.Mode) (ops : Array Oper) (i : Nat) : Nat → Nat → Bool
  | 0, _ => false
  | f + 1, j => match ops[j]? with
    | none => false
    | some oj => oj.after.any fun e => Region.binds md e && (e.on == i || ancB md ops i f e.on)
def freshB (md : Region.Mode) (ops : Array Oper) (ch : List (Option Nat)) (sp : List Nat) : Bool :=
  (List.range ops.size).all fun j => (match ch.getD j none with
    | none => true
    | some i => ancB md ops i 4 j) && (sp.contains j || match ops[j]? with
    | none => true
    | some o => calmB o)

def Closed (md : Region.Mode) (ops : Array Oper) (seen : Array Bool) : Prop :=
  seen.size = ops.size ∧ ∀ j oj, ops[j]? = some oj → seen.getD j false = true → ∀ e ∈ oj.after, Region.binds md e = true → seen.getD e.on false = true
theorem Closed.set {seen : Array Bool} {i : Nat} (h : Closed md ops seen) (hi : i ∈ Region.ready md ops seen) : Closed md ops (seen.setIfInBounds i true) := by
  obtain ⟨_, oi, hoi, hall⟩ := mem_ready.1 hi
  refine ⟨by simp [h.1], fun j oj hj hl e he hb => ?_⟩
  by_cases hij : i = j
  · subst hij
    have : oj = oi := Option.some.inj (hj.symm.trans hoi)
    subst this
    exact getD_set_true (hall e he hb)
  · rw [getD_set_ne false hij] at hl
    exact getD_set_true (h.2 j oj hj hl e he hb)
theorem anc_seen {seen : Array Bool} (h : Closed md ops seen) (i : Nat) : ∀ (f j : Nat) (oj : Oper), ops[j]? = some oj → (∀ e ∈ oj.after, Region.binds md e = true → seen.getD e.on false = true) → ancB md ops i f j = true → seen.getD i false = true := by
  intro f
  induction f with
  | zero => intro j oj _ _ h; simp [ancB] at h
  | succ f ih =>
    intro j oj hoj hall hB
    unfold ancB at hB
    rw [hoj] at hB
    obtain ⟨e, he, hb⟩ := Array.any_eq_true'.1 hB
    simp only [Bool.and_eq_true, Bool.or_eq_true, beq_iff_eq] at hb
    have hs := hall e he hb.1
    rcases hb.2 with h1 | h1
    · rw [← h1]; exact hs
    · have hlt : e.on < ops.size := by
        rcases Nat.lt_or_ge e.on ops.size with h | h
        · exact h
        · unfold ancB at h1
          cases f with
          | zero => simp at h1
          | succ f => simp [Array.getElem?_eq_none h] at h1
      exact ih e.on (ops[e.on]) (Array.getElem?_eq_getElem hlt) (h.2 _ _ (Array.getElem?_eq_getElem hlt) hs) h1
theorem fresh_ch (hB : freshB md ops ch sp = true) {seen : Array Bool} (hc : Closed md ops seen) {i j : Nat} (hj : j ∈ Region.ready md ops seen) (hi : seen.getD i true = false) : ch.getD j none ≠ some i := by
  intro he
  obtain ⟨_, oj, hoj, hall⟩ := mem_ready.1 hj
  have h1 := List.all_eq_true.1 hB j (List.mem_range.2 (Array.getElem?_eq_some_iff.1 hoj).1)
  simp only [he, Bool.and_eq_true] at h1
  have := anc_seen hc i _ j oj hoj hall h1.1
  rw [getD_both hi] at this
  cases this
theorem fresh_calm (hB : freshB md ops ch sp = true) {j : Nat} {o : Oper} (hj : ops[j]? = some o) (hs : sp.contains j = false) : calmB o = true := by
  have h1 := List.all_eq_true.1 hB j (List.mem_range.2 (Array.getElem?_eq_some_iff.1 hj).1)
  simp only [Bool.and_eq_true, hs, Bool.false_or, hj] at h1
  exact h1.2
theorem from_upd {E : Nat → World} {i j : Nat} {z : World} (h : ch.getD j none ≠ some i) : from_ ch w (upd E i z) j = from_ ch w E j := by
  unfold from_
  split
  · rfl
  · rename_i k hk
    exact upd_ne fun e => h (by rw [hk, e])

/-- in one world of a class a calm operation yields one value -/
theorem quiet_one {o : Oper} {a : Act} {C : World → Prop} {u v : Value} {w : World} (hw : C w) (hcalm : calmB o = true) (hu : o.quietAt P a C w u) (hv : o.quietAt P a C w v) : u = v := by
  unfold Oper.quietAt at hu hv
  have hne := calm_spec P w
  cases hr : (execOp a.eval o).run P w with
  | halt h w' => rw [hr] at hu; simp [Oper.quietUpon] at hu
  | ok n w' =>
    rw [hr] at hu hv
    cases n with
    | value x => simp only [Oper.quietUpon] at hu hv; rw [← hu.2, ← hv.2]
    | skip => simp only [Oper.quietUpon] at hu hv; rw [hu.2, hv.2]
    | enter f args => exact absurd hr (hne w' f args hcalm _)
    | _ => simp [Oper.quietUpon] at hu

/-- what operation i does in state a, as the walk shows it -/
def Shows (ch : List (Option Nat)) (sp : List Nat) (RR : Nat → Value → World → Prop) (w : World) (P : Program) (ops : Array Oper) (i : Nat) (oi : Oper) (E : Nat → World) (a : Act) (G : (Nat → World) → Value → Prop) : Prop :=
  (Region.wanted oi (yielded ops a.tmps) = true ∧ sp.contains i = true ∧ (∀ w', cls (from_ ch w E i) w' → growUpon P w' (RR i) ((execOp a.eval oi).run P w')) ∧
      (∃ v z, RR i v z ∧ Below (from_ ch w E i).heap.size (from_ ch w E i) z) ∧ ∀ v z, RR i v z → Below (from_ ch w E i).heap.size (from_ ch w E i) z → G (upd E i z) v) ∨
  (Region.wanted oi (yielded ops a.tmps) = true ∧ sp.contains i = false ∧ ∃ v, (∀ w', cls (from_ ch w E i) w' → oi.quietAt P a (cls (from_ ch w E i)) w' v) ∧ G E v) ∨
  (Region.wanted oi (yielded ops a.tmps) = false ∧ G E undef)

theorem shows_iff {i : Nat} {oi : Oper} {E : Nat → World} {a : Act} {K : (Nat → World) → Act → Prop} (hi : ops[i]? = some oi) :
    fOp ch sp RR w P ops i E K a ↔ Shows ch sp RR w P ops i oi E a fun E' v => K E' (a.put oi.dst v) := by
  unfold fOp Shows
  simp only [hi]
  by_cases hw : Region.wanted oi (yielded ops a.tmps) = true
  · simp only [hw, if_true, true_and, Bool.true_eq_false, false_and, or_false]
    by_cases hs : sp.contains i = true
    · simp only [hs, if_true, true_and, Bool.true_eq_false, false_and, or_false]
      constructor
      · rintro ⟨h1, h2⟩
        obtain ⟨v, z, hb, hr⟩ := growUpon_some (h1 _ (cls_self _))
        exact ⟨h1, ⟨v, z, hr, hb⟩, h2⟩
      · rintro ⟨h1, _, h2⟩
        exact ⟨h1, h2⟩
    · have hs' : sp.contains i = false := by simpa using hs
      simp only [hs', Bool.false_eq_true, if_false, false_and, true_and, false_or]
      rfl
  · have hw' : Region.wanted oi (yielded ops a.tmps) = false := by simpa using hw
    simp only [hw', Bool.false_eq_true, if_false, false_and, true_and, false_or]

/-- i's showing stays when j's value is put, and the other way round -/
theorem fOp_put {i j : Nat} {oi oj : Oper} (hj : ops[j]? = some oj) (hap : oi.apart ops oj = true) (hij : j ≠ i) (hci : ch.getD i none ≠ some j) (hcj : ch.getD j none ≠ some i)
    (hsi : ∀ cs b, oi.op ≠ .select cs b) (hsj : ∀ cs b, oj.op ≠ .select cs b) (hcalm : sp.contains j = false → calmB oj = true) {K : (Nat → World) → Act → Prop} {E : Nat → World} {a : Act}
    (h : Shows ch sp RR w P ops i oi E a fun E' v => fOp ch sp RR w P ops j E' K (a.put oi.dst v)) :
    fOp ch sp RR w P ops j E (fun E' a' => Shows ch sp RR w P ops i oi E' a' fun E'' v => K E'' (a'.put oi.dst v)) a := by
  obtain ⟨h1, h2, h3⟩ := Oper.apart_spec hap
  have kw : ∀ (u : Value), Region.wanted oi (yielded ops (a.put oj.dst u).tmps) = Region.wanted oi (yielded ops a.tmps) := fun u => wanted_put oi a oj.dst u h3
  have ke : ∀ (u : Value), execOp (a.put oj.dst u).eval oi = execOp a.eval oi := fun u => execOp_put oi hsi a oj.dst u h3
  have kwj : ∀ (v : Value), Region.wanted oj (yielded ops (a.put oi.dst v).tmps) = Region.wanted oj (yielded ops a.tmps) := fun v => wanted_put oj a oi.dst v h1
  have kej : ∀ (v : Value), execOp (a.put oi.dst v).eval oj = execOp a.eval oj := fun v => execOp_put oj hsj a oi.dst v h1
  have comm : ∀ (v u : Value), (a.put oi.dst v).put oj.dst u = (a.put oj.dst u).put oi.dst v := fun v u => Act.put_comm a v u h2
  rw [shows_iff hj]
  have fj : ∀ z, from_ ch w (upd E i z) j = from_ ch w E j := fun z => from_upd hcj
  have fi : ∀ z, from_ ch w (upd E j z) i = from_ ch w E i := fun z => from_upd hci
  rcases h with ⟨hw, hs, hgrow, ⟨v0, z0, hr0, hb0⟩, hall⟩ | ⟨hw, hs, v, hq, hv⟩ | ⟨hw, hv⟩
  · -- i makes memory
    simp only at hall
    have h0 := hall v0 z0 hr0 hb0
    rw [shows_iff hj] at h0
    unfold Shows at h0 ⊢
    simp only [kwj, kej, fj] at h0
    rcases h0 with ⟨wj, sj, gj, ej, _⟩ | ⟨wj, sj, u, qj, _⟩ | ⟨wj, _⟩
    · refine .inl ⟨wj, sj, gj, ej, fun u zj hru hbu => .inl ⟨by rw [kw]; exact hw, hs, by rw [fi, ke]; exact hgrow, ⟨v0, z0, hr0, by rw [fi]; exact hb0⟩, fun v z hr hb => ?_⟩⟩
      rw [fi] at hb
      have hx := hall v z hr hb
      rw [shows_iff hj] at hx
      unfold Shows at hx
      simp only [kwj, kej, fj, wj, sj] at hx
      simp only [true_and, Bool.true_eq_false, false_and, or_false] at hx
      have := hx.2.2 u zj hru hbu
      rw [upd_comm E z zj (Ne.symm hij), comm] at this
      exact this
    · refine .inr (.inl ⟨wj, sj, u, fun w' hw' => by have := qj w' hw'; unfold Oper.quietAt at this ⊢; rwa [kej] at this, .inl ⟨by rw [kw]; exact hw, hs, by rw [ke]; exact hgrow, ⟨v0, z0, hr0, hb0⟩, fun v z hr hb => ?_⟩⟩)
      have hx := hall v z hr hb
      rw [shows_iff hj] at hx
      unfold Shows at hx
      simp only [kwj, fj, wj, sj] at hx
      simp only [true_and, Bool.false_eq_true, Bool.true_eq_false, false_and, or_false, false_or] at hx
      obtain ⟨u', qj', hx⟩ := hx
      have e : u' = u := by
        have x1 := qj' _ (cls_self _)
        have x2 := qj _ (cls_self _)
        unfold Oper.quietAt at x1 x2
        rw [kej] at x1 x2
        exact quiet_one (a := a) (cls_self _) (hcalm sj) x1 x2
      subst e
      rw [comm] at hx
      exact hx
    · refine .inr (.inr ⟨wj, .inl ⟨by rw [kw]; exact hw, hs, by rw [ke]; exact hgrow, ⟨v0, z0, hr0, hb0⟩, fun v z hr hb => ?_⟩⟩)
      have hx := hall v z hr hb
      rw [shows_iff hj] at hx
      unfold Shows at hx
      simp only [kwj, wj] at hx
      simp only [Bool.false_eq_true, false_and, false_or, true_and] at hx
      rw [comm] at hx
      exact hx
  · -- i is quiet
    rw [shows_iff hj] at hv
    unfold Shows at hv ⊢
    simp only [kwj, kej] at hv
    have qi : ∀ u w', cls (from_ ch w E i) w' → oi.quietAt P (a.put oj.dst u) (cls (from_ ch w E i)) w' v := fun u w' hw' => by
      have := hq w' hw'; unfold Oper.quietAt at this ⊢; rwa [ke]
    rcases hv with ⟨wj, sj, gj, ej, hk⟩ | ⟨wj, sj, u, qj, hk⟩ | ⟨wj, hk⟩
    · refine .inl ⟨wj, sj, gj, ej, fun u zj hru hbu => .inr (.inl ⟨by rw [kw]; exact hw, hs, v, by rw [fi]; exact qi u, ?_⟩)⟩
      have := hk u zj hru hbu
      rw [comm] at this; exact this
    · refine .inr (.inl ⟨wj, sj, u, fun w' hw' => by have := qj w' hw'; unfold Oper.quietAt at this ⊢; rwa [kej] at this, .inr (.inl ⟨by rw [kw]; exact hw, hs, v, qi u, ?_⟩)⟩)
      rw [comm] at hk; exact hk
    · refine .inr (.inr ⟨wj, .inr (.inl ⟨by rw [kw]; exact hw, hs, v, qi undef, ?_⟩)⟩)
      rw [comm] at hk; exact hk
  · -- i is passed over
    rw [shows_iff hj] at hv
    unfold Shows at hv ⊢
    simp only [kwj, kej] at hv
    rcases hv with ⟨wj, sj, gj, ej, hk⟩ | ⟨wj, sj, u, qj, hk⟩ | ⟨wj, hk⟩
    · refine .inl ⟨wj, sj, gj, ej, fun u zj hru hbu => .inr (.inr ⟨by rw [kw]; exact hw, ?_⟩)⟩
      have := hk u zj hru hbu
      rw [comm] at this; exact this
    · refine .inr (.inl ⟨wj, sj, u, fun w' hw' => by have := qj w' hw'; unfold Oper.quietAt at this ⊢; rwa [kej] at this, .inr (.inr ⟨by rw [kw]; exact hw, ?_⟩)⟩)
      rw [comm] at hk; exact hk
    · refine .inr (.inr ⟨wj, .inr (.inr ⟨by rw [kw]; exact hw, ?_⟩)⟩)
      rw [comm] at hk; exact hk

/-- an operation that may come up may be taken first -/
theorem wpAnyF_first {Q : (Nat → World) → Act → Prop} {i : Nat} {oi : Oper} (hi : ops[i]? = some oi) (hsel : ∀ (j : Nat) (o : Oper) cs b, ops[j]? = some o → o.op ≠ .select cs b) (hB : freshB md ops ch sp = true) :
    ∀ (f : Nat) (seen : Array Bool) (E : Nat → World) (a : Act), Closed md ops seen →
      (∀ j oj, ops[j]? = some oj → j ≠ i → seen.getD j true = false → (∀ e ∈ oj.after, Region.binds md e = true → e.on ≠ i) → oi.apart ops oj = true) →
      i ∈ Region.ready md ops seen → Shows ch sp RR w P ops i oi E a (fun E' v => wpAnyF ch sp RR w P md ops Q f (seen.setIfInBounds i true) E' (a.put oi.dst v)) →
      wpAnyF ch sp RR w P md ops Q (f + 1) seen E a := by
  have some_of : ∀ {E a} {G : (Nat → World) → Value → Prop}, Shows ch sp RR w P ops i oi E a G → ∃ E' v, G E' v := by
    rintro E a G (⟨_, _, _, ⟨v, z, h1, h2⟩, h⟩ | ⟨_, _, v, _, h⟩ | ⟨_, h⟩)
    · exact ⟨_, _, h v z h1 h2⟩
    · exact ⟨_, _, h⟩
    · exact ⟨_, _, h⟩
  have shows_mono : ∀ {E a} {G G' : (Nat → World) → Value → Prop}, (∀ E v, G E v → G' E v) → Shows ch sp RR w P ops i oi E a G → Shows ch sp RR w P ops i oi E a G' := by
    rintro E a G G' hg (⟨h1, h2, h3, h4, h⟩ | ⟨h1, h2, v, h3, h⟩ | ⟨h1, h⟩)
    · exact .inl ⟨h1, h2, h3, h4, fun v z x y => hg _ _ (h v z x y)⟩
    · exact .inr (.inl ⟨h1, h2, v, h3, hg _ _ h⟩)
    · exact .inr (.inr ⟨h1, hg _ _ h⟩)
  intro f
  induction f with
  | zero =>
    intro seen E a hc _ hr H
    refine ⟨fun h => (by rw [h] at hr; cases hr), fun j hj => ?_⟩
    by_cases hji : j = i
    · subst hji; rw [shows_iff hi]; exact H
    · obtain ⟨E', v, h⟩ := some_of H
      have := ready_mono hj hji
      rw [h.1] at this
      cases this
  | succ f ih =>
    intro seen E a hc hfree hr H
    refine ⟨fun h => (by rw [h] at hr; cases hr), fun j hj => ?_⟩
    by_cases hji : j = i
    · subst hji; rw [shows_iff hi]; exact H
    · obtain ⟨hjun, oj, hoj, hall⟩ := mem_ready.1 hj
      have hiun := (mem_ready.1 hr).1
      have hnot : ∀ e ∈ oj.after, Region.binds md e = true → e.on ≠ i := fun e he hb heq => by
        have h1 := hall e he hb
        rw [heq, getD_both hiun] at h1
        cases h1
      have H2 := shows_mono (fun E' v h => h.2 j (ready_mono hj hji)) H
      have h2 := fOp_put hoj (hfree j oj hoj hji hjun hnot) hji (fresh_ch hB hc hr hjun) (fresh_ch hB hc hj hiun) (fun cs b => hsel i oi cs b hi) (fun cs b => hsel j oj cs b hoj) (fun hs => fresh_calm hB hoj hs) H2
      have hfree' : ∀ k ok, ops[k]? = some ok → k ≠ i → (seen.setIfInBounds j true).getD k true = false →
          (∀ e ∈ ok.after, Region.binds md e = true → e.on ≠ i) → oi.apart ops ok = true := fun k ok hk hki hun hno => by
        refine hfree k ok hk hki ?_ hno
        by_cases hjk : j = k
        · subst hjk; exact hjun
        · rw [getD_set_ne true hjk] at hun; exact hun
      refine fOp_mono (fun E' a' h3 => ih (seen.setIfInBounds j true) E' a' (hc.set hj) hfree' (ready_mono hr (Ne.symm hji)) ?_) h2
      rw [Array.setIfInBounds_comm _ _ hji]
      exact h3

theorem wpAnyF_lex {Q : (Nat → World) → Act → Prop} (hs : Region.noSelect ops = true) (hB : freshB md ops ch sp = true) : ∀ (l : List Oper) (k : Nat) (seen : Array Bool) (E : Nat → World) (a : Act), (∀ j, l[j]? = ops[k + j]?) → Closed md ops seen →
    Region.lexFrom md ops l.length k seen = true → walkF ch sp RR w P ops Q l k E a → wpAnyF ch sp RR w P md ops Q l.length seen E a
  | [], _, _, _, _, _, _, hL, h => ⟨by simpa [Region.lexFrom] using hL, h⟩
  | o :: l, k, seen, E, a, hl, hc, hL, h => by
    have h0 : ops[k]? = some o := by simpa using (hl 0).symm
    simp only [List.length_cons, Region.lexFrom, Bool.and_eq_true] at hL
    obtain ⟨⟨hr, hf⟩, hL'⟩ := hL
    have hr' : k ∈ Region.ready md ops seen := by simpa using hr
    have hst : fOp ch sp RR w P ops k E (walkF ch sp RR w P ops Q l (k + 1)) a := by unfold fOp; simp only [h0]; exact h
    refine wpAnyF_first h0 (Region.noSelect_spec hs) hB l.length seen E a hc (Region.free_spec h0 hf) hr' ?_
    rw [shows_iff h0] at hst
    have ih := fun (E' : Nat → World) (v : Value) => wpAnyF_lex (Q := Q) hs hB l (k + 1) (seen.setIfInBounds k true) E' (a.put o.dst v) (fun j => by have := hl (j + 1); simpa [Nat.add_assoc, Nat.add_comm 1 j] using this) (hc.set hr') hL'
    rcases hst with ⟨h1, h2, h3, h4, h⟩ | ⟨h1, h2, v, h3, h⟩ | ⟨h1, h⟩
    · exact .inl ⟨h1, h2, h3, h4, fun v z x y => ih _ _ (h v z x y)⟩
    · exact .inr (.inl ⟨h1, h2, v, h3, ih _ _ h⟩)
    · exact .inr (.inr ⟨h1, ih _ _ h⟩)

def Gr (A B : World) : Prop := Below A.heap.size A B
theorem Gr.trans {A B C : World} (h : Gr A B) (k : Gr B C) : Gr A C := Below.trans h (Below.mono k h.size)

theorem wpAny_of_F {Q : (Nat → World) → Act → Prop} {Q' : Exit → Act → World → Prop} (hB : freshB md ops ch sp = true) (hQ : ∀ E a w', Gr w w' → (∀ i, Gr (E i) w') → Q E a → Q' .normal a w') :
    ∀ (f : Nat) (seen : Array Bool) (E : Nat → World) (a : Act) (w' : World), Gr w w' → (∀ i, Gr (E i) w') → wpAnyF ch sp RR w P md ops Q f seen E a → wpAny P md ops Q' f seen a w'
  | 0, _, E, a, w', h0, hE, h => ⟨h.1, hQ _ _ _ h0 hE h.2⟩
  | f + 1, seen, E, a, w', h0, hE, h => by
    refine ⟨fun hr => hQ _ _ _ h0 hE (h.1 hr), fun k hk => ?_⟩
    have hk' := h.2 k hk
    have ih := fun E' a' w'' (x : Gr w w'') (y : ∀ i, Gr (E' i) w'') => wpAny_of_F (Q' := Q') hB hQ f (seen.setIfInBounds k true) E' a' w'' x y
    have hcls : cls (from_ ch w E k) w' := by
      unfold from_
      split
      · exact below_plus h0
      · exact below_plus (hE _)
    obtain ⟨_, o, ho, _⟩ := mem_ready.1 hk
    unfold fOp at hk'
    unfold wpOp
    simp only [ho] at hk' ⊢
    split
    · rename_i hw
      simp only [hw, if_true] at hk'
      refine .inl ?_
      by_cases hs : sp.contains k = true
      · rw [if_pos hs] at hk'
        obtain ⟨hg, hn⟩ := hk'
        have hg := hg w' hcls
        have hfb : Gr (from_ ch w E k) w' := by
          unfold from_
          split
          · exact h0
          · exact hE _
        have fin : ∀ v z, Below w'.heap.size w' z → RR k v z → wpAny P md ops Q' f (seen.setIfInBounds k true) (a.put o.dst v) z := fun v z hb hr => by
          have hg : Gr w' z := hb
          refine ih _ _ z (h0.trans hg) (fun i => ?_) (hn v z hr (hfb.trans hg))
          unfold upd
          split
          · exact Below.refl _ _
          · exact (hE i).trans hg
        unfold growUpon at hg
        unfold Oper.wp
        generalize (execOp a.eval o).run P w' = r at *
        split at hg
        · exact fin _ _ hg.1 hg.2
        · obtain ⟨rfl, hcall⟩ := hg
          refine hcall.mono fun e w'' ⟨v, he, hb, hr⟩ => ?_
          subst he
          exact fin v w'' hb hr
        · exact hg.elim
      · rw [if_neg hs] at hk'
        obtain ⟨v, hq, hn⟩ := hk'
        have hq := hq w' hcls
        have hcalm := fresh_calm hB ho (by simpa using hs)
        unfold Oper.quietAt at hq
        unfold Oper.wp
        have hne := calm_spec P w'
        cases hr : (execOp a.eval o).run P w' with
        | halt h w'' => rw [hr] at hq; simp [Oper.quietUpon] at hq
        | ok n w'' =>
          rw [hr] at hq
          cases n with
          | value x =>
            obtain ⟨rfl, rfl⟩ := hq
            exact ih _ _ _ h0 hE hn
          | skip =>
            obtain ⟨rfl, rfl⟩ := hq
            exact ih _ _ _ h0 hE hn
          | enter f args => exact absurd hr (hne w'' f args hcalm _)
          | _ => simp [Oper.quietUpon] at hq
    · rename_i hw
      simp only [hw] at hk'
      exact ih _ _ _ h0 hE hk'

/-- one walk serves every order -/
theorem wp_region_fresh {id : Nat} {Q : Exit → Act → World → Prop} {a : Act} {l : List Oper} (ch : List (Option Nat)) (sp : List Nat) (RR : Nat → Value → World → Prop) (hm : P.follows .mixedOrders = true) (hL : Region.lexB .any l.toArray = true) (hB : freshB .any l.toArray ch sp = true)
    (h : walkF ch sp RR w P l.toArray (fun E a' => ∀ w', Gr w w' → (∀ i, Gr (E i) w') → Q .normal a' w') l 0 (fun _ => w) a) : (Code.region id l.toArray true).wp P Q a w := by
  simp only [Region.lexB, Bool.and_eq_true] at hL
  refine wp_region_any hm ?_
  have hgr : Gr w { w with drawn := w.drawn + 1 } := ⟨rfl, rfl, rfl, Nat.le_refl _, fun _ _ => rfl⟩
  have := wpAnyF_lex (ch := ch) (sp := sp) (RR := RR) (w := w) (P := P) (md := .any) (ops := l.toArray) hL.1 hB l 0 (Array.replicate l.toArray.size false) (fun _ => w) a (by simp) ⟨by simp, fun j oj _ hl => (by rw [getD_replicate_false] at hl; cases hl)⟩ (by simpa using hL.2) h
  have := wpAny_of_F (Q' := Q) hB (fun E a w' h0 hE hq => hq w' h0 hE) _ _ _ a { w with drawn := w.drawn + 1 } hgr (fun _ => hgr) this
  simpa using this

/-! the walk, piece by piece -/
def segB (ch : List (Option Nat)) (sp : List Nat) (c : Option Nat) (k : Nat) : Nat → Bool
  | 0 => true
  | n + 1 => (match ch.getD k none, c with
    | none, none => true
    | some i, some j => i == j
    | _, _ => false) && !sp.contains k && segB ch sp c (k + 1) n

theorem walkF_seg {Q : (Nat → World) → Act → Prop} {E : Nat → World} (c : Option Nat) (W : World) (hW : (match c with | none => w | some i => E i) = W) : ∀ (n : Nat) (l : List Oper) (k : Nat) (a : Act), segB ch sp c k n = true →
    wpQuiet P ops (cls W) (walkF ch sp RR w P ops Q (l.drop n) (k + n) E) (l.take n) a → walkF ch sp RR w P ops Q l k E a := by
  intro n
  induction n with
  | zero => intro l k a _ h; simpa [wpQuiet] using h
  | succ n ih =>
    intro l k a hB h
    cases l with
    | nil =>
      have : walkF ch sp RR w P ops Q [] (k + (n + 1)) E a := by simpa [wpQuiet] using h
      exact this
    | cons o l =>
      unfold segB at hB
      simp only [Bool.and_eq_true, Bool.not_eq_true'] at hB
      obtain ⟨⟨h1, h2⟩, h3⟩ := hB
      have hf : from_ ch w E k = W := by
        unfold from_
        rw [← hW]
        cases hk : ch.getD k none <;> cases c <;> simp only [hk] at h1
        · rfl
        · cases h1
        · cases h1
        · rename_i i j
          have : i = j := by simpa using h1
          rw [this]
      rw [List.take_succ_cons, List.drop_succ_cons] at h
      unfold walkF
      rw [if_neg (show ¬ (sp.contains k = true) by rw [h2]; decide), hf]
      unfold wpQuiet at h
      have e : k + (n + 1) = k + 1 + n := by omega
      rw [e] at h
      split
      · rename_i hw
        rw [if_pos hw] at h
        exact Oper.quiet_mono (fun a' h' => ih l (k + 1) a' h3 h') h
      · rename_i hw
        rw [if_neg hw] at h
        exact ih l (k + 1) _ h3 h

theorem walkF_one {Q : (Nat → World) → Act → Prop} {E : Nat → World} {o : Oper} {l : List Oper} {k : Nat} {a : Act} (c : Option Nat) (W : World) (hW : (match c with | none => w | some i => E i) = W) (hB : segB ch sp c k 1 = true)
    (h : wpQuiet P ops (cls W) (walkF ch sp RR w P ops Q l (k + 1) E) [o] a) : walkF ch sp RR w P ops Q (o :: l) k E a := walkF_seg c W hW 1 (o :: l) k a hB h
theorem walkF_end {Q : (Nat → World) → Act → Prop} {E : Nat → World} {k : Nat} {a : Act} (h : Q E a) : walkF ch sp RR w P ops Q [] k E a := h

/-- an operation that makes memory -/
theorem walkF_make {Q : (Nat → World) → Act → Prop} {E : Nat → World} {o : Oper} {l : List Oper} {k : Nat} {a : Act} (c : Option Nat) (W : World) (hW : (match c with | none => w | some i => E i) = W) (hc : ch.getD k none = c) (hs : sp.contains k = true) (hw : Region.wanted o (yielded ops a.tmps) = true)
    (h1 : ∀ x, growUpon P (plus W x) (RR k) ((execOp a.eval o).run P (plus W x)))
    (h2 : ∀ v z, RR k v z → Gr W z → walkF ch sp RR w P ops Q l (k + 1) (upd E k z) (a.put o.dst v)) : walkF ch sp RR w P ops Q (o :: l) k E a := by
  have hf : from_ ch w E k = W := by unfold from_; rw [hc]; exact hW
  unfold walkF
  rw [if_pos hw, if_pos hs, hf]
  exact ⟨fun w' ⟨x, hx⟩ => by rw [hx]; exact h1 x, h2⟩
/-- passed over -/
theorem walkF_skip {Q : (Nat → World) → Act → Prop} {E : Nat → World} {o : Oper} {l : List Oper} {k : Nat} {a : Act} (hw : Region.wanted o (yielded ops a.tmps) = false)
    (h2 : walkF ch sp RR w P ops Q l (k + 1) E (a.put o.dst undef)) : walkF ch sp RR w P ops Q (o :: l) k E a := by
  unfold walkF
  rw [if_neg (by rw [hw]; decide)]
  exact h2
theorem grow_call {f : FuncId} {args : Array Value} {W : World} {R : Value → World → Prop} {r : Result Next} (hr : r = .ok (.enter f args) W) (h : Calls P f args W (fun e w'' => ∃ v, e = .returned v ∧ Below W.heap.size W w'' ∧ R v w'')) : growUpon P W R r := by
  subst hr; exact ⟨rfl, h⟩
end
end Go.Proofs.Ytgadedpcekiljaa
