/-
  A region that draws its order: a head in which operations may make memory (Frs), behind it a tail in one forced order that may do whatever it likes (stores above all).
-/
import Derived.Test.YtgadedpcekiljaaFrs
namespace Go.Proofs.Ytgadedpcekiljaa
open Go.RowKit

section
variable {P : Program} {md : Region.Mode} {ops : Array Oper} (ch : List (Option Nat)) (sp : List Nat) (RR : Nat → Value → World → Prop) (w : World)

def headF (P : Program) (md : Region.Mode) (ops : Array Oper) (n : Nat) (L : Array Bool → (Nat → World) → Act → Prop) : Nat → Array Bool → (Nat → World) → Act → Prop
  | 0, seen, E, a => L seen E a
  | f + 1, seen, E, a => Region.ready md ops seen ≠ [] ∧ ∀ i ∈ Region.ready md ops seen, i < n ∧ fOp ch sp RR w P ops i E (headF P md ops n L f (seen.setIfInBounds i true)) a
variable {ch sp RR w}

theorem closed_of {n : Nat} {seen : Array Bool} (h : HeadInv md ops n seen) : Closed md ops seen := ⟨h.size, h.closed⟩

theorem headF_first {n i : Nat} {oi : Oper} {L : Array Bool → (Nat → World) → Act → Prop} (hi : ops[i]? = some oi) (hsel : ∀ (j : Nat) (o : Oper) cs b, ops[j]? = some o → o.op ≠ .select cs b) (hB : freshB md ops ch sp = true)
    (hs : Region.sinkB md ops n = true) (hc : Region.chainB md ops n = true) (hn : n < ops.size) (hin : i < n)
    (hdone : ∀ seen E a, L seen E a → ∀ j ∈ Region.ready md ops seen, n ≤ j) (f : Nat) :
    ∀ (seen : Array Bool) (E : Nat → World) (a : Act), HeadInv md ops n seen →
      (∀ j oj, ops[j]? = some oj → j ≠ i → seen.getD j true = false → (∀ e ∈ oj.after, Region.binds md e = true → e.on ≠ i) → oi.apart ops oj = true) →
      i ∈ Region.ready md ops seen → Shows ch sp RR w P ops i oi E a (fun E' v => headF ch sp RR w P md ops n L f (seen.setIfInBounds i true) E' (a.put oi.dst v)) →
      headF ch sp RR w P md ops n L (f + 1) seen E a := by
  have some_of : ∀ {E a} {G : (Nat → World) → Value → Prop}, Shows ch sp RR w P ops i oi E a G → ∃ E' v, G E' v := by
    rintro E a G (⟨_, _, _, ⟨v, z, h1, h2⟩, h⟩ | ⟨_, _, v, _, h⟩ | ⟨_, h⟩)
    · exact ⟨_, _, h v z h1 h2⟩
    · exact ⟨_, _, h⟩
    · exact ⟨_, _, h⟩
  have shows_mono : ∀ {E a} {G G' : (Nat → World) → Value → Prop}, (∀ E v, G E v → G' E v) → Shows ch sp RR w P ops i oi E a G → Shows ch sp RR w P ops i oi E a G' := by
    rintro E a G G' hg (⟨h1, h2, h3, h4, h⟩ | ⟨h1, h2, v, h3, h⟩ | ⟨h1, h⟩)
    · exact .inl ⟨h1, h2, h3, h4, fun v z x y => hg _ _ (h v z x y)⟩
    · exact .inr (.inl ⟨h1, h2, v, h3, hg _ _ h⟩)
    · exact .inr (.inr ⟨h1, hg _ _ h⟩)
  induction f with
  | zero =>
    intro seen E a inv _ hr H
    have hun := (mem_ready.1 hr).1
    refine ⟨fun h => (by rw [h] at hr; cases hr), fun j hj => ?_⟩
    have hjn : j < n := by
      apply Classical.byContradiction
      intro h
      exact tail_waits hs hc hn inv _ i rfl hin hun j (by omega) hj
    refine ⟨hjn, ?_⟩
    by_cases hji : j = i
    · subst hji; rw [shows_iff hi]; exact H
    · obtain ⟨E', v, h⟩ := some_of H
      have := hdone _ _ _ h j (ready_mono hj hji)
      omega
  | succ f ih =>
    intro seen E a inv hfree hr H
    have hiun := (mem_ready.1 hr).1
    refine ⟨fun h => (by rw [h] at hr; cases hr), fun j hj => ?_⟩
    have hjn : j < n := by
      apply Classical.byContradiction
      intro h
      exact tail_waits hs hc hn inv _ i rfl hin hiun j (by omega) hj
    refine ⟨hjn, ?_⟩
    by_cases hji : j = i
    · subst hji; rw [shows_iff hi]; exact H
    · obtain ⟨hjun, oj, hoj, hall⟩ := mem_ready.1 hj
      have hnot : ∀ e ∈ oj.after, Region.binds md e = true → e.on ≠ i := fun e he hb heq => by
        have h1 := hall e he hb
        rw [heq, getD_both hiun] at h1
        cases h1
      have H2 := shows_mono (fun E' v h => (h.2 j (ready_mono hj hji)).2) H
      have h2 := fOp_put hoj (hfree j oj hoj hji hjun hnot) hji (fresh_ch hB (closed_of inv) hr hjun) (fresh_ch hB (closed_of inv) hj hiun) (fun cs b => hsel i oi cs b hi) (fun cs b => hsel j oj cs b hoj) (fun hs => fresh_calm hB hoj hs) H2
      have hfree' : ∀ k ok, ops[k]? = some ok → k ≠ i → (seen.setIfInBounds j true).getD k true = false →
          (∀ e ∈ ok.after, Region.binds md e = true → e.on ≠ i) → oi.apart ops ok = true := fun k ok hk hki hun hno => by
        refine hfree k ok hk hki ?_ hno
        by_cases hjk : j = k
        · subst hjk; exact hjun
        · rw [getD_set_ne true hjk] at hun; exact hun
      refine fOp_mono (fun E' a' h3 => ih (seen.setIfInBounds j true) E' a' (inv.set hj hjn) hfree' (ready_mono hr (Ne.symm hji)) ?_) h2
      rw [Array.setIfInBounds_comm _ _ hji]
      exact h3

theorem headF_lex {n g : Nat} {Lq : (Nat → World) → Act → Prop} (hsel : Region.noSelect ops = true) (hB : freshB md ops ch sp = true) (hs : Region.sinkB md ops n = true) (hc : Region.chainB md ops n = true) (hn : n < ops.size) (l : List Oper) :
    ∀ (k : Nat) (seen : Array Bool) (E : Nat → World) (a : Act), (∀ j, j < l.length → l[j]? = ops[k + j]?) → k + l.length = n → HeadInv md ops n seen →
    Region.lexHead md ops g l.length k seen = true → walkF ch sp RR w P ops Lq l k E a →
    headF ch sp RR w P md ops n (fun seen' E' a' => Region.seqB md ops g n seen' = true ∧ Lq E' a') l.length seen E a := by
  induction l with
  | nil =>
    intro k seen E a _ hk _ hL h
    have : k = n := by simpa using hk
    subst this
    exact ⟨by simpa [Region.lexHead] using hL, h⟩
  | cons o l ih =>
    intro k seen E a hl hk inv hL h
    have h0 : ops[k]? = some o := by simpa using (hl 0 (by simp)).symm
    simp only [List.length_cons, Region.lexHead, Bool.and_eq_true] at hL
    obtain ⟨⟨hr, hf⟩, hL'⟩ := hL
    have hkn : k < n := by simp only [List.length_cons] at hk; omega
    have hr' : k ∈ Region.ready md ops seen := by simpa using hr
    have hst : fOp ch sp RR w P ops k E (walkF ch sp RR w P ops Lq l (k + 1)) a := by unfold fOp; simp only [h0]; exact h
    refine headF_first h0 (Region.noSelect_spec hsel) hB hs hc hn hkn (fun seen' E' a' hL => seqB_ready hL.1) l.length seen E a inv (Region.free_spec h0 hf) hr' ?_
    rw [shows_iff h0] at hst
    have ihh := fun (E' : Nat → World) (v : Value) => ih (k + 1) (seen.setIfInBounds k true) E' (a.put o.dst v) (fun j hj => by have := hl (j + 1) (by simp; omega); simpa [Nat.add_assoc, Nat.add_comm 1 j] using this) (by simp only [List.length_cons] at hk; omega) (inv.set hr' hkn) hL'
    rcases hst with ⟨h1, h2, h3, h4, h⟩ | ⟨h1, h2, v, h3, h⟩ | ⟨h1, h⟩
    · exact .inl ⟨h1, h2, h3, h4, fun v z x y => ihh _ _ (h v z x y)⟩
    · exact .inr (.inl ⟨h1, h2, v, h3, ihh _ _ h⟩)
    · exact .inr (.inr ⟨h1, ihh _ _ h⟩)

theorem wpAny_of_headF {n g : Nat} {L : Array Bool → (Nat → World) → Act → Prop} {Q' : Exit → Act → World → Prop} (hB : freshB md ops ch sp = true) (hL : ∀ seen E a w', Gr w w' → (∀ i, Gr (E i) w') → L seen E a → wpAny P md ops Q' g seen a w') :
    ∀ (f : Nat) (seen : Array Bool) (E : Nat → World) (a : Act) (w' : World), Gr w w' → (∀ i, Gr (E i) w') → headF ch sp RR w P md ops n L f seen E a → wpAny P md ops Q' (f + g) seen a w'
  | 0, seen, E, a, w', h0, hE, h => by rw [Nat.zero_add]; exact hL _ _ _ _ h0 hE h
  | f + 1, seen, E, a, w', h0, hE, h => by
    rw [show f + 1 + g = (f + g) + 1 by omega]
    refine ⟨fun hr => absurd hr h.1, fun k hk => ?_⟩
    have hk' := (h.2 k hk).2
    have ih := fun E' a' w'' (x : Gr w w'') (y : ∀ i, Gr (E' i) w'') => wpAny_of_headF (n := n) (Q' := Q') hB hL f (seen.setIfInBounds k true) E' a' w'' x y
    have hcls : cls (from_ ch w E k) w' := by
      unfold from_
      split
      · exact below_plus h0
      · exact below_plus (hE _)
    obtain ⟨_, o, ho, _⟩ := mem_ready.1 hk
    unfold fOp at hk'
    unfold wpOp
    simp only [ho] at hk' ⊢
    split
    · rename_i hw
      simp only [hw, if_true] at hk'
      refine .inl ?_
      by_cases hs : sp.contains k = true
      · rw [if_pos hs] at hk'
        obtain ⟨hg, hn⟩ := hk'
        have hg := hg w' hcls
        have hfb : Gr (from_ ch w E k) w' := by
          unfold from_
          split
          · exact h0
          · exact hE _
        have fin : ∀ v z, Below w'.heap.size w' z → RR k v z → wpAny P md ops Q' (f + g) (seen.setIfInBounds k true) (a.put o.dst v) z := fun v z hb hr => by
          have hg : Gr w' z := hb
          refine ih _ _ z (h0.trans hg) (fun i => ?_) (hn v z hr (hfb.trans hg))
          unfold upd
          split
          · exact Below.refl _ _
          · exact (hE i).trans hg
        unfold growUpon at hg
        unfold Oper.wp
        generalize (execOp a.eval o).run P w' = r at *
        split at hg
        · exact fin _ _ hg.1 hg.2
        · obtain ⟨rfl, hcall⟩ := hg
          refine hcall.mono fun e w'' ⟨v, he, hb, hr⟩ => ?_
          subst he
          exact fin v w'' hb hr
        · exact hg.elim
      · rw [if_neg hs] at hk'
        obtain ⟨v, hq, hn⟩ := hk'
        have hq := hq w' hcls
        have hcalm := fresh_calm hB ho (by simpa using hs)
        unfold Oper.quietAt at hq
        unfold Oper.wp
        have hne := calm_spec P w'
        cases hr : (execOp a.eval o).run P w' with
        | halt h w'' => rw [hr] at hq; simp [Oper.quietUpon] at hq
        | ok n w'' =>
          rw [hr] at hq
          cases n with
          | value x =>
            obtain ⟨rfl, rfl⟩ := hq
            exact ih _ _ _ h0 hE hn
          | skip =>
            obtain ⟨rfl, rfl⟩ := hq
            exact ih _ _ _ h0 hE hn
          | enter f args => exact absurd hr (hne w'' f args hcalm _)
          | _ => simp [Oper.quietUpon] at hq
    · rename_i hw
      simp only [hw] at hk'
      exact ih _ _ _ h0 hE hk'

/-- one walk of the head serves every order; behind it the tail -/
theorem wp_region_fresh_tail {id : Nat} {Q : Exit → Act → World → Prop} {a : Act} {l : List Oper} (n : Nat) (ch : List (Option Nat)) (sp : List Nat) (RR : Nat → Value → World → Prop) (hm : P.follows .mixedOrders = true) (hL : Region.lexTailB .any l.toArray n = true) (hB : freshB .any l.toArray ch sp = true)
    (h : walkF ch sp RR w P l.toArray (fun E a' => ∀ w', Gr w w' → (∀ i, Gr (E i) w') → wpList P l.toArray Q (l.drop n) a' w') (l.take n) 0 (fun _ => w) a) : (Code.region id l.toArray true).wp P Q a w := by
  simp only [Region.lexTailB, Bool.and_eq_true, decide_eq_true_eq] at hL
  obtain ⟨⟨⟨⟨hsel, hn⟩, hs⟩, hc⟩, hlex⟩ := hL
  have hn' : n < l.length := by simpa using hn
  have htl : (l.take n).length = n := by simp; omega
  have hdl : (l.drop n).length = l.toArray.size - n := by simp
  have inv0 : HeadInv .any l.toArray n (Array.replicate l.toArray.size false) :=
    ⟨by simp, fun j oj _ hl => (by rw [getD_replicate_false] at hl; cases hl), fun t _ ht => getD_in (by simpa using ht) (getD_replicate_false _ _)⟩
  have hgr : Gr w { w with drawn := w.drawn + 1 } := ⟨rfl, rfl, rfl, Nat.le_refl _, fun _ _ => rfl⟩
  have H := headF_lex (P := P) (ch := ch) (sp := sp) (RR := RR) (w := w) (md := .any) (g := l.toArray.size - n) hsel hB hs hc hn (l.take n) 0 _ (fun _ => w) a (fun j hj => by
    have hj' : j < n := by rw [htl] at hj; exact hj
    simp [hj']) (by simpa using htl) inv0 (by rw [htl]; exact hlex) h
  refine wp_region_any hm ?_
  have := wpAny_of_headF (Q' := Q) (g := l.toArray.size - n) hB (fun seen E a' w' h0 hE hL => by
    have h1 := wpAny_of_seq (P := P) (md := .any) (ops := l.toArray) (Q' := Q) (l.drop n) n seen a' w' (fun j => by simp) (by rw [hdl]; exact hL.1) (hL.2 w' h0 hE)
    rwa [hdl] at h1) _ _ _ a { w with drawn := w.drawn + 1 } hgr (fun _ => hgr) H
  rw [htl, show n + (l.toArray.size - n) = l.toArray.size by omega] at this
  exact this
end
end Go.Proofs.Ytgadedpcekiljaa
