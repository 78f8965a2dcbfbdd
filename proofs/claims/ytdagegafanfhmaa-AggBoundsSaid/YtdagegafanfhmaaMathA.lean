/- Plain mathematics of what samples come to: lists whose times rise. -/
import Derived.Test.YtdagegafanfhmaaAgg3
namespace Go.Proofs.Ytdagegafanfhmaa

def sumL : List (Int × Nat) → Nat
  | [] => 0
  | s :: l => s.2 + sumL l
def mnL : List (Int × Nat) → Nat
  | [] => 18446744073709551616
  | s :: l => min s.2 (mnL l)
def mxL : List (Int × Nat) → Nat
  | [] => 0
  | s :: l => max s.2 (mxL l)
theorem sumL_append (a b : List (Int × Nat)) : sumL (a ++ b) = sumL a + sumL b := by
  induction a with
  | nil => simp [sumL]
  | cons s a ih => simp only [List.cons_append, sumL, ih]; omega
theorem mnL_append (a b : List (Int × Nat)) (hb : mnL b ≤ 18446744073709551616) : mnL (a ++ b) = min (mnL a) (mnL b) := by
  induction a with
  | nil => simp only [List.nil_append, mnL]; omega
  | cons s a ih => simp only [List.cons_append, mnL, ih]; omega
theorem mxL_append (a b : List (Int × Nat)) : mxL (a ++ b) = max (mxL a) (mxL b) := by
  induction a with
  | nil => simp only [List.nil_append, mxL]; omega
  | cons s a ih => simp only [List.cons_append, mxL, ih]; omega
theorem mnL_le (a : List (Int × Nat)) : mnL a ≤ 18446744073709551616 := by
  induction a with
  | nil => exact Nat.le_refl _
  | cons s a ih => simp only [mnL]; omega

/-- the times rise -/
def Rise (l : List (Int × Nat)) : Prop := l.Pairwise fun a b => a.1 < b.1

/-- what samples whose times rise come to -/
def aggC : List (Int × Nat) → AggD
  | [] => aggNil
  | s :: l => ⟨(l.length + 1) % 18446744073709551616, s.1, s.2, ((s :: l).getLast (List.cons_ne_nil _ _)).1, ((s :: l).getLast (List.cons_ne_nil _ _)).2, mnL (s :: l), mxL (s :: l), sumL (s :: l) / 18446744073709551616 % 18446744073709551616, sumL (s :: l) % 18446744073709551616⟩

theorem aggC_n (l : List (Int × Nat)) (h : l.length < 18446744073709551616) : (aggC l).n = l.length := by
  cases l with
  | nil => rfl
  | cons s l => simp only [aggC, List.length_cons] at *; omega

theorem join_C (a b : List (Int × Nat)) (h : Rise (a ++ b)) (hl : a.length + b.length < 18446744073709551616) : aggJoin (aggC a) (aggC b) = (aggC (a ++ b), 0) := by
  have ha := aggC_n a (by omega)
  have hb := aggC_n b (by omega)
  unfold aggJoin
  rw [ha, hb]
  cases a with
  | nil => rfl
  | cons s a =>
    rw [if_neg (by simp)]
    cases b with
    | nil => rw [if_pos (by rfl), List.append_nil]
    | cons t b =>
      rw [if_neg (by simp)]
      have hlt : ((s :: a).getLast (List.cons_ne_nil _ _)).1 < t.1 := (List.pairwise_append.1 h).2.2 _ (List.getLast_mem _) _ (List.mem_cons_self)
      rw [if_neg (by simp only [aggC]; omega)]
      have hm := mnL_append (s :: a) (t :: b) (mnL_le _)
      have hx := mxL_append (s :: a) (t :: b)
      have hs := sumL_append (s :: a) (t :: b)
      have hlast : ((s :: a) ++ (t :: b)).getLast (by simp) = (t :: b).getLast (List.cons_ne_nil _ _) := List.getLast_append_of_ne_nil _ _
      simp only [List.cons_append] at hm hx hs hlast
      simp only [aggC, aggSum, List.cons_append, hm, hx, hs, hlast, Prod.mk.injEq, AggD.mk.injEq, List.length_append, List.length_cons]
      refine ⟨⟨by omega, trivial, trivial, trivial, trivial, trivial, trivial, by omega, by omega⟩, trivial⟩

theorem join_back (a b : List (Int × Nat)) (h : Rise (a ++ b)) (hl : a.length + b.length < 18446744073709551616) (ha : a ≠ []) (hb : b ≠ []) : aggJoin (aggC b) (aggC a) = (aggNil, 240) := by
  have na := aggC_n a (by omega)
  have nb := aggC_n b (by omega)
  unfold aggJoin
  rw [na, nb]
  cases a with
  | nil => exact absurd rfl ha
  | cons s a =>
    cases b with
    | nil => exact absurd rfl hb
    | cons t b =>
      rw [if_neg (by simp), if_neg (by simp)]
      have hlt : s.1 < ((t :: b).getLast (List.cons_ne_nil _ _)).1 := (List.pairwise_append.1 h).2.2 _ (List.mem_cons_self) _ (List.getLast_mem _)
      rw [if_pos (by simp only [aggC]; omega)]

theorem of_C (l : List (Int × Nat)) (h : Rise l) (hs : okS l) (hl : l.length < 18446744073709551616) : aggOf l = (aggC l, 0) := by
  have key : ∀ k, k ≤ l.length → aggOf (l.take k) = (aggC (l.take k), 0) := by
    intro k
    induction k with
    | zero => intro _; rfl
    | succ k ih =>
      intro hk
      rw [aggOf_snoc l k (by omega), ih (by omega)]
      unfold aggStep
      rw [if_pos rfl, List.take_succ_eq_append_getElem (by omega)]
      have hone : aggOne l[k].1 l[k].2 = aggC [l[k]] := by
        have hv := (hs l[k] (List.getElem_mem _)).2
        simp only [aggOne, aggC, List.getLast_singleton, mnL, mxL, sumL, List.length_nil, AggD.mk.injEq]
        refine ⟨trivial, trivial, trivial, trivial, trivial, by omega, by omega, by omega, by omega⟩
      rw [hone]
      refine join_C _ _ ?_ (by simp; omega)
      rw [← List.take_succ_eq_append_getElem (by omega)]
      exact h.sublist (List.take_sublist _ _)
  have := key l.length (Nat.le_refl _)
  rwa [List.take_length] at this

/-- those of a list whose times rise -/
def risStep (out : List (Int × Nat)) (s : Int × Nat) : List (Int × Nat) := if h : out = [] then [s] else if (out.getLast h).1 < s.1 then out ++ [s] else out
def risL (l : List (Int × Nat)) : List (Int × Nat) := l.foldl risStep []
theorem risL_snoc (l : List (Int × Nat)) (k : Nat) (h : k < l.length) : risL (l.take (k + 1)) = risStep (risL (l.take k)) l[k] := by
  unfold risL
  rw [List.take_succ_eq_append_getElem h, List.foldl_append]
  rfl
def risI (l out : List (Int × Nat)) : Prop := Rise out ∧ (∀ s ∈ out, s ∈ l)
theorem rise_snoc {out : List (Int × Nat)} {s : Int × Nat} (h : Rise out) (hne : out ≠ []) (hlt : (out.getLast hne).1 < s.1) : Rise (out ++ [s]) := by
  refine List.pairwise_append.2 ⟨h, List.pairwise_singleton _ _, fun a ha b hb => ?_⟩
  simp at hb
  subst hb
  obtain ⟨i, hi, rfl⟩ := List.getElem_of_mem ha
  rw [List.getLast_eq_getElem] at hlt
  rcases Nat.lt_or_ge i (out.length - 1) with h1 | h1
  · exact Int.lt_trans (List.pairwise_iff_getElem.1 h i (out.length - 1) hi (by omega) h1) hlt
  · have : i = out.length - 1 := by omega
    subst this
    exact hlt
theorem risStep_I {l out : List (Int × Nat)} {s : Int × Nat} (h : risI l out) (hs : s ∈ l) : risI l (risStep out s) := by
  unfold risStep
  split
  · exact ⟨List.pairwise_singleton _ _, fun t ht => by simp at ht; subst ht; exact hs⟩
  · split
    · refine ⟨rise_snoc h.1 (by assumption) (by assumption), fun t ht => ?_⟩
      rcases List.mem_append.1 ht with h1 | h1
      · exact h.2 t h1
      · simp at h1; subst h1; exact hs
    · exact h
theorem risL_I (l : List (Int × Nat)) : risI l (risL l) := by
  have key : ∀ k, k ≤ l.length → risI l (risL (l.take k)) := by
    intro k
    induction k with
    | zero => intro _; exact ⟨List.Pairwise.nil, fun s h => by simp [risL] at h⟩
    | succ k ih =>
      intro hk
      rw [risL_snoc l k (by omega)]
      exact risStep_I (ih (by omega)) (List.getElem_mem _)
  have := key l.length (Nat.le_refl _)
  rwa [List.take_length] at this
theorem risL_len (l : List (Int × Nat)) (k : Nat) (h : k ≤ l.length) : (risL (l.take k)).length ≤ k := by
  induction k with
  | zero => simp [risL]
  | succ k ih =>
    rw [risL_snoc l k (by omega)]
    have := ih (by omega)
    unfold risStep
    split
    · simp
    · split
      · simp; omega
      · omega

end Go.Proofs.Ytdagegafanfhmaa
