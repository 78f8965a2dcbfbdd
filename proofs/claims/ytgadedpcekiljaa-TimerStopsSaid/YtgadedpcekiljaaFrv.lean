/-
  A region that draws its order, whose calls TURN what stood ahead of it (each its own part, so that the orders come to the same). One walk in the order of the text serves every order. What stands in the world is said by a predicate I over a record of what the turning operations have handed out; each turning operation is shown from EVERY world of which I says that it has not come up yet; all others are shown once, from every world of which I says anything.
-/
import Derived.Test.YtgadedpcekiljaaFrw
set_option linter.unusedSimpArgs false
set_option linter.unusedVariables false
namespace Go.Proofs.Ytgadedpcekiljaa
open Go.RowKit

/-- what the turning operations have handed out -/
abbrev Rec := Nat → Option Value
def recSet (E : Rec) (k : Nat) (v : Value) : Rec := fun j => if j = k then some v else E j
theorem recSet_same (E : Rec) (k : Nat) (v : Value) : recSet E k v k = some v := if_pos rfl
theorem recSet_ne {E : Rec} {k j : Nat} {v : Value} (h : j ≠ k) : recSet E k v j = E j := if_neg h
theorem recSet_comm (E : Rec) {i j : Nat} (x y : Value) (h : i ≠ j) : recSet (recSet E i x) j y = recSet (recSet E j y) i x := by
  funext k
  unfold recSet
  by_cases h1 : k = j
  · subst h1
    rw [if_pos rfl, if_neg (fun e => h e.symm), if_pos rfl]
  · rw [if_neg h1]
    by_cases h2 : k = i
    · rw [if_pos h2, if_pos h2]
    · rw [if_neg h2, if_neg h2, if_neg h1]
def recApp (E : Rec) (k : Nat) : Option Value → Rec
  | none => E
  | some v => recSet E k v
theorem recApp_comm (E : Rec) {i j : Nat} (u u' : Option Value) (h : i ≠ j) : recApp (recApp E i u) j u' = recApp (recApp E j u') i u := by
  cases u with
  | none => rfl
  | some x => cases u' with
    | none => rfl
    | some y => exact recSet_comm E x y h
theorem recApp_ne {E : Rec} {k j : Nat} {u : Option Value} (h : j ≠ k) : recApp E k u j = E j := by
  cases u with
  | none => rfl
  | some x => exact recSet_ne h

/-- a world of which I says something -/
structure InvW (I : Rec → World → Prop) where
  s : Rec
  W : World
  h : I s W
abbrev clsI (I : Rec → World → Prop) : World → Prop := fun w' => ∃ x : InvW I, w' = x.W

/-- what an operation that turns something leaves -/
def invUpon (P : Program) (W : World) (R : Value → World → Prop) : Result Next → Prop
  | .ok (.value u) w' => R u w'
  | .ok .skip w' => R undef w'
  | .ok (.enter f args) w' => w' = W ∧ Calls P f args W (fun e w'' => ∃ v, e = .returned v ∧ R v w'')
  | _ => False

section
variable {P : Program} {md : Region.Mode} {ops : Array Oper} (I : Rec → World → Prop) (ch : List (List Nat)) (sp : List Nat) (RR : Nat → Value → Prop)

def OkI (P : Program) (ops : Array Oper) (k : Nat) (o : Oper) (E : Rec) (a : Act) : Prop :=
  Region.wanted o (yielded ops a.tmps) = true →
    if sp.contains k then (∃ v, RR k v) ∧ ∀ s W, I s W → s k = none → (∀ j ∈ ch.getD k [], s j = E j) → invUpon P W (fun v W' => RR k v ∧ I (recSet s k v) W') ((execOp a.eval o).run P W)
    else calmB o = true ∧ ∃ v, ∀ W, clsI I W → o.quietAt P a (clsI I) W v
def OutI (P : Program) (ops : Array Oper) (k : Nat) (o : Oper) (a : Act) (v : Value) (u : Option Value) : Prop :=
  (Region.wanted o (yielded ops a.tmps) = false ∧ v = undef ∧ u = none) ∨
  (Region.wanted o (yielded ops a.tmps) = true ∧ if sp.contains k then RR k v ∧ u = some v else u = none ∧ ∀ W, clsI I W → o.quietAt P a (clsI I) W v)
def gI (P : Program) (ops : Array Oper) (k : Nat) (o : Oper) (E : Rec) (K : Rec → Act → Prop) (a : Act) : Prop :=
  OkI I ch sp RR P ops k o E a ∧ ∀ v u, OutI I sp RR P ops k o a v u → K (recApp E k u) (a.put o.dst v)
def walkI (P : Program) (ops : Array Oper) (Q : Rec → Act → Prop) : List Nat → Rec → Act → Prop
  | [], E, a => Q E a
  | k :: l, E, a => match ops[k]? with
    | none => False
    | some o => gI I ch sp RR P ops k o E (walkI P ops Q l) a
variable {I ch sp RR}

theorem gI_mono {k : Nat} {o : Oper} {E : Rec} {a : Act} {K K' : Rec → Act → Prop} (h : ∀ E a, K E a → K' E a) (hh : gI I ch sp RR P ops k o E K a) : gI I ch sp RR P ops k o E K' a := ⟨hh.1, fun v u hu => h _ _ (hh.2 v u hu)⟩
theorem outI_some {k : Nat} {o : Oper} {E : Rec} {a : Act} (h : OkI I ch sp RR P ops k o E a) : ∃ v u, OutI I sp RR P ops k o a v u := by
  by_cases hw : Region.wanted o (yielded ops a.tmps) = true
  · have h := h hw
    by_cases hs : sp.contains k = true
    · rw [if_pos hs] at h
      obtain ⟨⟨v, hv⟩, _⟩ := h
      exact ⟨v, some v, .inr ⟨hw, by rw [if_pos hs]; exact ⟨hv, rfl⟩⟩⟩
    · rw [if_neg hs] at h
      obtain ⟨_, v, hv⟩ := h
      exact ⟨v, none, .inr ⟨hw, by rw [if_neg hs]; exact ⟨rfl, hv⟩⟩⟩
  · exact ⟨undef, none, .inl ⟨by simpa using hw, rfl, rfl⟩⟩
structure IndI (ch : List (List Nat)) (ops : Array Oper) (i j : Nat) (oi oj : Oper) : Prop where
  ne : i ≠ j
  ap : oi.apart ops oj = true
  si : ∀ cs b, oi.op ≠ .select cs b
  sj : ∀ cs b, oj.op ≠ .select cs b
  c1 : i ∉ ch.getD j []
  c2 : j ∉ ch.getD i []
theorem okI_put {j : Nat} {oj : Oper} {E : Rec} {a : Act} {d : Option Tmp} {v : Value} (hj : ∀ cs b, oj.op ≠ .select cs b) (h : ∀ x, d = some x → x ∉ oj.looksAt ops) :
    OkI I ch sp RR P ops j oj E (a.put d v) ↔ OkI I ch sp RR P ops j oj E a := by
  unfold OkI Oper.quietAt
  rw [wanted_put oj a d v h, execOp_put oj hj a d v h]
theorem outI_put {j : Nat} {oj : Oper} {a : Act} {d : Option Tmp} {v x : Value} {u : Option Value} (hj : ∀ cs b, oj.op ≠ .select cs b) (h : ∀ x, d = some x → x ∉ oj.looksAt ops) :
    OutI I sp RR P ops j oj (a.put d v) x u ↔ OutI I sp RR P ops j oj a x u := by
  unfold OutI Oper.quietAt
  rw [wanted_put oj a d v h, execOp_put oj hj a d v h]
theorem okI_app {i j : Nat} {oj : Oper} {E : Rec} {a : Act} {u : Option Value} (hc : i ∉ ch.getD j []) : OkI I ch sp RR P ops j oj (recApp E i u) a ↔ OkI I ch sp RR P ops j oj E a := by
  have e : ∀ t ∈ ch.getD j [], recApp E i u t = E t := fun t ht => recApp_ne (fun e => hc (e ▸ ht))
  unfold OkI
  constructor
  · intro h hw
    have h := h hw
    split at h
    · rename_i hs
      rw [if_pos hs]
      exact ⟨h.1, fun s W a1 a2 a3 => h.2 s W a1 a2 (fun t ht => (a3 t ht).trans (e t ht).symm)⟩
    · rename_i hs
      rw [if_neg hs]
      exact h
  · intro h hw
    have h := h hw
    split at h
    · rename_i hs
      rw [if_pos hs]
      exact ⟨h.1, fun s W a1 a2 a3 => h.2 s W a1 a2 (fun t ht => (a3 t ht).trans (e t ht))⟩
    · rename_i hs
      rw [if_neg hs]
      exact h
theorem gI_swap {i j : Nat} {oi oj : Oper} (hI : IndI ch ops i j oi oj) {K : Rec → Act → Prop} {E : Rec} {a : Act}
    (h : gI I ch sp RR P ops i oi E (fun E' a' => gI I ch sp RR P ops j oj E' K a') a) : gI I ch sp RR P ops j oj E (fun E' a' => gI I ch sp RR P ops i oi E' K a') a := by
  obtain ⟨h1, h2, h3⟩ := Oper.apart_spec hI.ap
  obtain ⟨hok, hall⟩ := h
  obtain ⟨v0, u0, ho0⟩ := outI_some hok
  have hj0 := (hall v0 u0 ho0).1
  rw [okI_app hI.c1, okI_put hI.sj h1] at hj0
  refine ⟨hj0, fun x uj hoj => ⟨?_, fun v ui hoi => ?_⟩⟩
  · rw [okI_app hI.c2, okI_put hI.si h3]
    exact hok
  · rw [outI_put hI.si h3] at hoi
    have := (hall v ui hoi).2 x uj (by rw [outI_put hI.sj h1]; exact hoj)
    rw [recApp_comm E ui uj hI.ne, Act.put_comm a v x h2] at this
    exact this
theorem walkI_pull {Q : Rec → Act → Prop} {j : Nat} {oj : Oper} (hj : ops[j]? = some oj) (l2 : List Nat) : ∀ (l1 : List Nat) (E : Rec) (a : Act), (∀ i ∈ l1, ∃ oi, ops[i]? = some oi ∧ IndI ch ops i j oi oj) →
    walkI I ch sp RR P ops Q (l1 ++ j :: l2) E a → gI I ch sp RR P ops j oj E (walkI I ch sp RR P ops Q (l1 ++ l2)) a
  | [], E, a, _, h => by
    simp only [List.nil_append, walkI, hj] at h
    exact h
  | i :: l1, E, a, hI, h => by
    obtain ⟨oi, hoi, hI1⟩ := hI i List.mem_cons_self
    simp only [List.cons_append, walkI, hoi] at h ⊢
    refine gI_swap hI1 (gI_mono (fun E' a' h' => ?_) h)
    exact walkI_pull hj l2 l1 E' a' (fun i hi => hI i (List.mem_cons_of_mem _ hi)) h'

/-- closed facts about a region: whatever stands ahead of an operation in the text is waited for by it, or goes in either order with it -/
def indIB (ch : List (List Nat)) (ops : Array Oper) (i j : Nat) : Bool :=
  match ops[i]?, ops[j]? with
  | some oi, some oj => oi.apart ops oj && !((ch.getD j []).contains i) && !((ch.getD i []).contains j)
  | _, _ => false
def friB (md : Region.Mode) (ops : Array Oper) (ch : List (List Nat)) : Bool :=
  Region.noSelect ops && (List.range ops.size).all fun j => ((ops[j]?).map fun oj => oj.after.all fun e => !Region.binds md e || decide (e.on < j)).getD false &&
    (List.range j).all fun i => anc2 md ops i 6 j || indIB ch ops i j

theorem wpAny_of_walkI {Q : Rec → Act → Prop} {Q' : Exit → Act → World → Prop} (hB : friB md ops ch = true) (hQ : ∀ E a W, I E W → Q E a → Q' .normal a W) :
    ∀ (n : Nat) (l : List Nat) (seen : Array Bool) (E : Rec) (a : Act) (W : World), l.length = n → l.Pairwise (· < ·) → (∀ k, k ∈ l ↔ seen.getD k true = false) → Closed md ops seen → I E W → (∀ k ∈ l, E k = none) → walkI I ch sp RR P ops Q l E a → wpAny P md ops Q' n seen a W := by
  simp only [friB, Bool.and_eq_true] at hB
  obtain ⟨hsel, hall⟩ := hB
  have hpre : ∀ j oj, ops[j]? = some oj → ∀ e ∈ oj.after, Region.binds md e = true → e.on < j := fun j oj hj e he hb => by
    have h1 := List.all_eq_true.1 hall j (List.mem_range.2 (Array.getElem?_eq_some_iff.1 hj).1)
    simp only [Bool.and_eq_true, hj, Option.map_some, Option.getD_some] at h1
    have := Array.all_eq_true'.1 h1.1 e he
    simpa [hb] using this
  have hrdy : ∀ (l : List Nat) (seen : Array Bool), (∀ k, k ∈ l ↔ seen.getD k true = false) → l.Pairwise (· < ·) → Closed md ops seen → Region.ready md ops seen = [] → l = [] := by
    intro l seen hm hp hc hr
    cases l with
    | nil => rfl
    | cons k l =>
      exfalso
      have hk := (hm k).1 List.mem_cons_self
      have hlt : k < ops.size := by
        rw [← hc.1]
        rcases Nat.lt_or_ge k seen.size with h | h
        · exact h
        · rw [Array.getD_eq_getD_getElem?, Array.getElem?_eq_none h] at hk; cases hk
      have : k ∈ Region.ready md ops seen := mem_ready.2 ⟨hk, ops[k], Array.getElem?_eq_getElem hlt, fun e he hb => by
        have h1 := hpre k _ (Array.getElem?_eq_getElem hlt) e he hb
        cases hse : seen.getD e.on false with
        | true => rfl
        | false =>
          have hnot : e.on ∉ k :: l := fun hin => by
            rcases List.mem_cons.1 hin with h | h
            · omega
            · have := (List.pairwise_cons.1 hp).1 _ h; omega
          have := mt (hm e.on).2 hnot
          exfalso
          apply this
          have hlt2 : e.on < seen.size := by rw [hc.1]; omega
          rw [Array.getD_eq_getD_getElem?, Array.getElem?_eq_getElem hlt2] at hse ⊢
          exact hse⟩
      rw [hr] at this
      cases this
  intro n
  induction n with
  | zero =>
    intro l seen E a W hl hp hm hc hR hE h
    obtain rfl := List.eq_nil_of_length_eq_zero hl
    refine ⟨?_, hQ _ _ _ hR h⟩
    cases hr : Region.ready md ops seen with
    | nil => rfl
    | cons j r =>
      have hj : j ∈ Region.ready md ops seen := by rw [hr]; exact List.mem_cons_self
      exact absurd ((hm j).2 (mem_ready.1 hj).1) (by simp)
  | succ n ih =>
    intro l seen E a W hl hp hm hc hR hE h
    refine ⟨fun hr => ?_, fun j hj => ?_⟩
    · obtain rfl := hrdy l seen hm hp hc hr
      simp at hl
    · obtain ⟨hun, oj, hoj, hpred⟩ := mem_ready.1 hj
      obtain ⟨l1, l2, rfl⟩ := List.append_of_mem ((hm j).2 hun)
      have hl1 : ∀ i ∈ l1, i < j := fun i hi => (List.pairwise_append.1 hp).2.2 i hi j List.mem_cons_self
      have hjlt := (Array.getElem?_eq_some_iff.1 hoj).1
      have h1 := List.all_eq_true.1 hall j (List.mem_range.2 hjlt)
      simp only [Bool.and_eq_true] at h1
      have hind : ∀ i ∈ l1, ∃ oi, ops[i]? = some oi ∧ IndI ch ops i j oi oj := fun i hi => by
        have h2 := List.all_eq_true.1 h1.2 i (List.mem_range.2 (hl1 i hi))
        have hiun : seen.getD i true = false := (hm i).1 (List.mem_append_left _ hi)
        have hna : anc2 md ops i 6 j = false := by
          cases hh : anc2 md ops i 6 j with
          | false => rfl
          | true =>
            have := anc_seen hc i 6 j oj hoj hpred (anc2_anc _ _ hh)
            rw [getD_both hiun] at this
            cases this
        rw [hna, Bool.false_or] at h2
        have hilt : i < ops.size := Nat.lt_trans (hl1 i hi) hjlt
        have hoi := Array.getElem?_eq_getElem hilt
        refine ⟨_, hoi, ?_⟩
        unfold indIB at h2
        rw [hoi, hoj] at h2
        simp only [Bool.and_eq_true, Bool.not_eq_true', List.contains_eq_mem, decide_eq_false_iff_not] at h2
        obtain ⟨⟨a1, a3⟩, a4⟩ := h2
        have hs := Region.noSelect_spec hsel
        exact ⟨by have := hl1 i hi; omega, a1, fun cs b => hs _ _ cs b hoi, fun cs b => hs _ _ cs b hoj, a3, a4⟩
      have hg := walkI_pull hoj l2 l1 E a hind h
      have hjn1 : j ∉ l1 := fun h => absurd (hl1 j h) (Nat.lt_irrefl _)
      have hjn2 : j ∉ l2 := fun h => by
        rw [List.pairwise_append, List.pairwise_cons] at hp
        exact absurd (hp.2.1.1 j h) (Nat.lt_irrefl _)
      have hnext : ∀ u a' W', I (recApp E j u) W' → walkI I ch sp RR P ops Q (l1 ++ l2) (recApp E j u) a' → wpAny P md ops Q' n (seen.setIfInBounds j true) a' W' := fun u a' W' hR' h' => by
        refine ih (l1 ++ l2) _ (recApp E j u) a' W' (by simp at hl ⊢; omega) ?_ (fun k => ?_) (hc.set hj) hR' (fun k hk => ?_) h'
        · rw [List.pairwise_append, List.pairwise_cons] at hp
          rw [List.pairwise_append]
          exact ⟨hp.1, hp.2.1.2, fun x hx y hy => hp.2.2 x hx y (List.mem_cons_of_mem _ hy)⟩
        · by_cases hkj : k = j
          · subst hkj
            constructor
            · intro h
              rcases List.mem_append.1 h with h | h
              · exact absurd h hjn1
              · exact absurd h hjn2
            · intro h
              rw [Array.getD_eq_getD_getElem?, Array.getElem?_setIfInBounds_self_of_lt (by rw [hc.1]; exact hjlt)] at h
              cases h
          · rw [getD_set_ne true (Ne.symm hkj), ← hm k]
            simp only [List.mem_append, List.mem_cons]
            constructor
            · rintro (h | h)
              · exact .inl h
              · exact .inr (.inr h)
            · rintro (h | h | h)
              · exact .inl h
              · exact absurd h hkj
              · exact .inr h
        · have hkj : k ≠ j := by
            rintro rfl
            rcases List.mem_append.1 hk with h | h
            · exact hjn1 h
            · exact hjn2 h
          rw [recApp_ne hkj]
          refine hE k ?_
          rcases List.mem_append.1 hk with h | h
          · exact List.mem_append_left _ h
          · exact List.mem_append_right _ (List.mem_cons_of_mem _ h)
      unfold wpOp
      simp only [hoj]
      obtain ⟨hok, hout⟩ := hg
      split
      · rename_i hw
        refine .inl ?_
        have hok := hok hw
        by_cases hs : sp.contains j = true
        · rw [if_pos hs] at hok
          have hgr := hok.2 E W hR (hE j (List.mem_append_right _ List.mem_cons_self)) (fun _ _ => rfl)
          have fin : ∀ v z, RR j v ∧ I (recSet E j v) z → wpAny P md ops Q' n (seen.setIfInBounds j true) (a.put oj.dst v) z := fun v z hb =>
            hnext (some v) _ _ hb.2 (hout v (some v) (.inr ⟨hw, by rw [if_pos hs]; exact ⟨hb.1, rfl⟩⟩))
          unfold invUpon at hgr
          unfold Oper.wp
          generalize (execOp a.eval oj).run P W = r at *
          split at hgr
          · exact fin _ _ hgr
          · exact fin _ _ hgr
          · obtain ⟨rfl, hcall⟩ := hgr
            refine hcall.mono fun e w'' ⟨v, he, hr⟩ => ?_
            subst he
            exact fin v w'' hr
          · exact hgr.elim
        · rw [if_neg hs] at hok
          obtain ⟨hcalm, v, hv⟩ := hok
          have hq := hv W ⟨⟨E, W, hR⟩, rfl⟩
          have hn := hnext none _ W hR (hout v none (.inr ⟨hw, by rw [if_neg hs]; exact ⟨rfl, hv⟩⟩))
          unfold Oper.quietAt at hq
          unfold Oper.wp
          have hne := calm_spec P W
          cases hr : (execOp a.eval oj).run P W with
          | halt h w'' => rw [hr] at hq; simp [Oper.quietUpon] at hq
          | ok m w'' =>
            rw [hr] at hq
            cases m with
            | value x =>
              obtain ⟨rfl, rfl⟩ := hq
              exact hn
            | skip =>
              obtain ⟨rfl, rfl⟩ := hq
              exact hn
            | enter f args => exact absurd hr (hne w'' f args hcalm _)
            | _ => simp [Oper.quietUpon] at hq
      · rename_i hw
        exact hnext none _ W hR (hout undef none (.inl ⟨by simpa using hw, rfl, rfl⟩))

/-! the walk, operation by operation -/
def walkJ (I : Rec → World → Prop) (ch : List (List Nat)) (sp : List Nat) (RR : Nat → Value → Prop) (P : Program) (ops : Array Oper) (Q : Rec → Act → Prop) : List Oper → Nat → Rec → Act → Prop
  | [], _, E, a => Q E a
  | o :: l, k, E, a => gI I ch sp RR P ops k o E (walkJ I ch sp RR P ops Q l (k + 1)) a

theorem walkI_of_J {Q : Rec → Act → Prop} : ∀ (l : List Oper) (k : Nat) (E : Rec) (a : Act), (∀ j, j < l.length → ops[k + j]? = l[j]?) → walkJ I ch sp RR P ops Q l k E a → walkI I ch sp RR P ops Q (List.range' k l.length) E a
  | [], _, _, _, _, h => h
  | o :: l, k, E, a, hl, h => by
    have h0 : ops[k]? = some o := by simpa using hl 0 (by simp)
    simp only [List.length_cons, List.range'_succ, walkI, h0]
    exact ⟨h.1, fun v u hu => walkI_of_J l (k + 1) _ _ (fun j hj => by have := hl (j + 1) (by simp; omega); simpa [Nat.add_assoc, Nat.add_comm 1 j] using this) (h.2 v u hu)⟩

/-- I, the specials' values, and the record they leave; ch: which records an operation needs; sp: the turning operations -/
theorem wp_region_inv {w : World} {id : Nat} {Q : Exit → Act → World → Prop} {a : Act} {l : List Oper} (I : Rec → World → Prop) (ch : List (List Nat)) (sp : List Nat) (RR : Nat → Value → Prop) (hm : P.follows .mixedOrders = true) (hB : friB .any l.toArray ch = true)
    (h0 : I (fun _ => none) w.drew)
    (h : walkJ I ch sp RR P l.toArray (fun E a' => ∀ W, I E W → Q .normal a' W) l 0 (fun _ => none) a) : (Code.region id l.toArray true).wp P Q a w := by
  refine wp_region_any hm ?_
  have hG := walkI_of_J (ops := l.toArray) l 0 _ a (fun j _ => by simp) h
  have := wpAny_of_walkI (Q' := Q) hB (fun E a W hR hq => hq W hR) l.length (List.range' 0 l.length) (Array.replicate l.toArray.size false) (fun _ => none) a { w with drawn := w.drawn + 1 } (by simp) List.pairwise_lt_range' (fun k => by
    rw [List.mem_range']
    constructor
    · rintro ⟨i, hi, rfl⟩
      rw [Array.getD_eq_getD_getElem?, Array.getElem?_replicate]
      simp at hi ⊢
      simp [hi]
    · intro hk
      rw [Array.getD_eq_getD_getElem?, Array.getElem?_replicate] at hk
      by_cases hlt : k < l.toArray.size
      · exact ⟨k, by simpa using hlt, by simp⟩
      · rw [if_neg hlt] at hk; cases hk) ⟨by simp, fun j oj _ hl => (by rw [getD_replicate_false] at hl; cases hl)⟩ h0 (fun _ _ => rfl) hG
  simpa using this

theorem walkJ_end {Q : Rec → Act → Prop} {E : Rec} {k : Nat} {a : Act} (h : Q E a) : walkJ I ch sp RR P ops Q [] k E a := h
/-- an operation that reads or reckons -/
theorem walkJ_one {Q : Rec → Act → Prop} {E : Rec} {o : Oper} {l : List Oper} {k : Nat} {a : Act} [Nonempty (InvW I)] (hs : sp.contains k = false) (hc : calmB o = true)
    (h : wpQuiet P ops (clsI I) (walkJ I ch sp RR P ops Q l (k + 1) E) [o] a) : walkJ I ch sp RR P ops Q (o :: l) k E a := by
  unfold wpQuiet at h
  by_cases hw : Region.wanted o (yielded ops a.tmps) = true
  · rw [if_pos hw] at h
    obtain ⟨v, hv, hk⟩ := h
    refine ⟨fun _ => by rw [if_neg (by rw [hs]; decide)]; exact ⟨hc, v, hv⟩, fun x u hu => ?_⟩
    rcases hu with ⟨h0, _⟩ | ⟨_, hu⟩
    · rw [hw] at h0; cases h0
    · rw [if_neg (by rw [hs]; decide)] at hu
      obtain ⟨rfl, hx⟩ := hu
      obtain ⟨y⟩ := ‹Nonempty (InvW I)›
      have hy : clsI I y.W := ⟨y, rfl⟩
      obtain rfl : x = v := quiet_one hy hc (hx _ hy) (hv _ hy)
      exact hk
  · have hw' : Region.wanted o (yielded ops a.tmps) = false := by simpa using hw
    rw [if_neg hw] at h
    refine ⟨fun h0 => absurd h0 hw, fun x u hu => ?_⟩
    rcases hu with ⟨_, rfl, rfl⟩ | ⟨h0, _⟩
    · exact h
    · rw [hw'] at h0; cases h0
/-- an operation that turns something -/
theorem walkJ_turn {Q : Rec → Act → Prop} {E : Rec} {o : Oper} {l : List Oper} {k : Nat} {a : Act} (hs : sp.contains k = true) (hw : Region.wanted o (yielded ops a.tmps) = true) (hv : ∃ v, RR k v)
    (h1 : ∀ s W, I s W → s k = none → (∀ j ∈ ch.getD k [], s j = E j) → invUpon P W (fun v W' => RR k v ∧ I (recSet s k v) W') ((execOp a.eval o).run P W))
    (h2 : ∀ v, RR k v → walkJ I ch sp RR P ops Q l (k + 1) (recSet E k v) (a.put o.dst v)) : walkJ I ch sp RR P ops Q (o :: l) k E a := by
  refine ⟨fun _ => by rw [if_pos hs]; exact ⟨hv, h1⟩, fun x u hu => ?_⟩
  rcases hu with ⟨h0, _⟩ | ⟨_, hu⟩
  · rw [hw] at h0; cases h0
  · rw [if_pos hs] at hu
    obtain ⟨hx, rfl⟩ := hu
    exact h2 x hx
/-- a guarded one whose guard is off -/
theorem walkJ_off {Q : Rec → Act → Prop} {E : Rec} {o : Oper} {l : List Oper} {k : Nat} {a : Act} (hw : Region.wanted o (yielded ops a.tmps) = false)
    (h2 : walkJ I ch sp RR P ops Q l (k + 1) E (a.put o.dst undef)) : walkJ I ch sp RR P ops Q (o :: l) k E a := by
  refine ⟨fun h0 => absurd (hw.symm.trans h0) (by decide), fun x u hu => ?_⟩
  rcases hu with ⟨_, rfl, rfl⟩ | ⟨h0, _⟩
  · exact h2
  · rw [hw] at h0; cases h0
end
theorem inv_call {P : Program} {W : World} {f : FuncId} {args : Array Value} {R : Value → World → Prop} {r : Result Next} (h : r = .ok (.enter f args) W) (hc : Calls P f args W (fun e w'' => ∃ v, e = .returned v ∧ R v w'')) : invUpon P W R r := by
  subst h; exact ⟨rfl, hc⟩
theorem inv_val {P : Program} {W W' : World} {v : Value} {R : Value → World → Prop} {r : Result Next} (h : r = .ok (.value v) W') (hR : R v W') : invUpon P W R r := by
  subst h; exact hR
theorem inv_skip {P : Program} {W W' : World} {R : Value → World → Prop} {r : Result Next} (h : r = .ok .skip W') (hR : R undef W') : invUpon P W R r := by
  subst h; exact hR

end Go.Proofs.Ytgadedpcekiljaa
