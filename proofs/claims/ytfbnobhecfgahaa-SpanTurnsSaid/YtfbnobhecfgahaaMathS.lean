/- Layer 23: sets of times as lists of spans: the mathematics. -/
import Derived.ProofKit
set_option linter.unusedSimpArgs false
set_option linter.unusedVariables false
namespace Go.Proofs.Ytfbnobhecfgahaa

abbrev Sp := Int × Int
/-- a valid list -/
def Snd (l : List Sp) : Prop := (∀ x ∈ l, x.1 ≤ x.2) ∧ l.Pairwise (fun x y => x.2 + 1 < y.1)
instance (l : List Sp) : Decidable (Snd l) := by unfold Snd; exact inferInstance
def sndB (l : List Sp) : Bool := decide (Snd l)
/-- a time is in one -/
def Mem (t : Int) (l : List Sp) : Prop := ∃ x ∈ l, x.1 ≤ t ∧ t ≤ x.2
instance (t : Int) (l : List Sp) : Decidable (Mem t l) := by unfold Mem; exact inferInstance
def hasB (l : List Sp) (t : Int) : Bool := decide (Mem t l)

theorem Snd.nil : Snd [] := ⟨(fun _ h => by cases h), List.Pairwise.nil⟩
theorem Snd.sub {a b : List Sp} (h : Snd b) (s : a.Sublist b) : Snd a := ⟨fun x hx => h.1 x (s.subset hx), h.2.sublist s⟩
theorem Snd.take {l : List Sp} (h : Snd l) (k : Nat) : Snd (l.take k) := h.sub (List.take_sublist _ _)
theorem Snd.drop {l : List Sp} (h : Snd l) (k : Nat) : Snd (l.drop k) := h.sub (List.drop_sublist _ _)
theorem snd_append {a b : List Sp} : Snd (a ++ b) ↔ Snd a ∧ Snd b ∧ ∀ x ∈ a, ∀ y ∈ b, x.2 + 1 < y.1 := by
  unfold Snd
  rw [List.pairwise_append]
  constructor
  · rintro ⟨h1, h2, h3, h4⟩
    exact ⟨⟨fun x hx => h1 x (List.mem_append_left _ hx), h2⟩, ⟨fun x hx => h1 x (List.mem_append_right _ hx), h3⟩, h4⟩
  · rintro ⟨⟨h1, h2⟩, ⟨h3, h4⟩, h5⟩
    exact ⟨fun x hx => by
      rcases List.mem_append.1 hx with h | h
      · exact h1 x h
      · exact h3 x h, h2, h4, h5⟩
theorem snd_cons {x : Sp} {l : List Sp} : Snd (x :: l) ↔ x.1 ≤ x.2 ∧ Snd l ∧ ∀ y ∈ l, x.2 + 1 < y.1 := by
  rw [show x :: l = [x] ++ l from rfl, snd_append]
  constructor
  · rintro ⟨h1, h2, h3⟩
    exact ⟨h1.1 x (by simp), h2, fun y hy => h3 x (by simp) y hy⟩
  · rintro ⟨h1, h2, h3⟩
    exact ⟨⟨fun y hy => by rw [List.mem_singleton.1 hy]; exact h1, List.pairwise_singleton _ _⟩, h2, fun y hy z hz => by rw [List.mem_singleton.1 hy]; exact h3 z hz⟩
theorem snd_single {x : Sp} : Snd [x] ↔ x.1 ≤ x.2 := by rw [snd_cons]; exact ⟨fun h => h.1, fun h => ⟨h, Snd.nil, fun _ h => by cases h⟩⟩
/-- the last one alone is looked at -/
theorem snd_snoc {l : List Sp} {k : Nat} {x : Sp} (hx : l[k]? = some x) : Snd (l.take (k + 1)) ↔ Snd (l.take k) ∧ x.1 ≤ x.2 ∧ (0 < k → ∀ y, l[k - 1]? = some y → y.2 + 1 < x.1) := by
  obtain ⟨hk, hxe⟩ := List.getElem?_eq_some_iff.1 hx
  rw [List.take_succ_eq_append_getElem hk, hxe, snd_append, snd_single]
  constructor
  · rintro ⟨h1, h2, h3⟩
    refine ⟨h1, h2, fun h0 y hy => h3 y ?_ x (by simp)⟩
    exact List.mem_of_getElem? (i := k - 1) (by rw [List.getElem?_take, if_pos (by omega)]; exact hy)
  · rintro ⟨h1, h2, h3⟩
    refine ⟨h1, h2, fun y hy z hz => ?_⟩
    rw [List.mem_singleton.1 hz]
    obtain ⟨j, hj, rfl⟩ := List.getElem_of_mem hy
    rw [List.length_take] at hj
    have hlast := h3 (by omega) l[k - 1] (List.getElem?_eq_getElem (by omega))
    rw [List.getElem_take]
    by_cases hjk : j = k - 1
    · subst hjk; exact hlast
    · have hp := List.pairwise_iff_getElem.1 h1.2 j (k - 1) (by rw [List.length_take]; omega) (by rw [List.length_take]; omega) (by omega)
      rw [List.getElem_take, List.getElem_take] at hp
      have hle := h1.1 l[k - 1] (List.mem_of_getElem? (i := k - 1) (by rw [List.getElem?_take, if_pos (by omega)]; exact List.getElem?_eq_getElem (by omega)))
      omega
theorem sndB_bad {l : List Sp} {k : Nat} (h : ¬ Snd (l.take k)) : sndB l = false := decide_eq_false fun e => h (e.take k)

theorem mem_append {t : Int} {a b : List Sp} : Mem t (a ++ b) ↔ Mem t a ∨ Mem t b := by
  unfold Mem
  constructor
  · rintro ⟨x, hx, h⟩
    rcases List.mem_append.1 hx with h1 | h1
    · exact .inl ⟨x, h1, h⟩
    · exact .inr ⟨x, h1, h⟩
  · rintro (⟨x, hx, h⟩ | ⟨x, hx, h⟩)
    · exact ⟨x, List.mem_append_left _ hx, h⟩
    · exact ⟨x, List.mem_append_right _ hx, h⟩
theorem mem_single {t : Int} {x : Sp} : Mem t [x] ↔ x.1 ≤ t ∧ t ≤ x.2 := by unfold Mem; simp
theorem mem_nil {t : Int} : ¬ Mem t [] := by unfold Mem; simp
theorem mem_cons {t : Int} {x : Sp} {l : List Sp} : Mem t (x :: l) ↔ (x.1 ≤ t ∧ t ≤ x.2) ∨ Mem t l := by
  rw [show x :: l = [x] ++ l from rfl, mem_append, mem_single]
theorem mem_snoc {t : Int} {l : List Sp} {k : Nat} {x : Sp} (hx : l[k]? = some x) : Mem t (l.take (k + 1)) ↔ Mem t (l.take k) ∨ (x.1 ≤ t ∧ t ≤ x.2) := by
  obtain ⟨hk, hxe⟩ := List.getElem?_eq_some_iff.1 hx
  rw [List.take_succ_eq_append_getElem hk, hxe, mem_append, mem_single]
theorem mem_take {t : Int} {l : List Sp} {k : Nat} (h : Mem t (l.take k)) : Mem t l := by
  obtain ⟨x, hx, h⟩ := h
  exact ⟨x, List.mem_of_mem_take hx, h⟩

/-- valid lists of the same times are the same -/
theorem snd_uniq : ∀ {a b : List Sp}, Snd a → Snd b → (∀ t, Mem t a ↔ Mem t b) → a = b
  | [], [], _, _, _ => rfl
  | [], y :: b, _, hb, h => by
    have hy := (snd_cons.1 hb).1
    exact absurd ((h y.1).2 (mem_cons.2 (.inl ⟨Int.le_refl _, hy⟩))) mem_nil
  | x :: a, [], ha, _, h => by
    have hx := (snd_cons.1 ha).1
    exact absurd ((h x.1).1 (mem_cons.2 (.inl ⟨Int.le_refl _, hx⟩))) mem_nil
  | x :: a, y :: b, ha, hb, h => by
    obtain ⟨hx, ha', hxa⟩ := snd_cons.1 ha
    obtain ⟨hy, hb', hyb⟩ := snd_cons.1 hb
    have lowA : ∀ t, Mem t a → x.2 + 1 < t := fun t ⟨z, hz, h1, h2⟩ => by have := hxa z hz; omega
    have lowB : ∀ t, Mem t b → y.2 + 1 < t := fun t ⟨z, hz, h1, h2⟩ => by have := hyb z hz; omega
    have e1 : x.1 = y.1 := by
      have h1 := (h x.1).1 (mem_cons.2 (.inl ⟨Int.le_refl _, hx⟩))
      have h2 := (h y.1).2 (mem_cons.2 (.inl ⟨Int.le_refl _, hy⟩))
      rcases mem_cons.1 h1 with h1 | h1
      · rcases mem_cons.1 h2 with h2 | h2
        · omega
        · have := lowA _ h2; omega
      · have := lowB _ h1
        rcases mem_cons.1 h2 with h2 | h2
        · omega
        · have := lowA _ h2; omega
    have e2 : x.2 = y.2 := by
      rcases Int.lt_trichotomy x.2 y.2 with h3 | h3 | h3
      · have h1 := (h (x.2 + 1)).2 (mem_cons.2 (.inl ⟨by omega, by omega⟩))
        rcases mem_cons.1 h1 with h1 | h1
        · omega
        · have := lowA _ h1; omega
      · exact h3
      · have h1 := (h (y.2 + 1)).1 (mem_cons.2 (.inl ⟨by omega, by omega⟩))
        rcases mem_cons.1 h1 with h1 | h1
        · omega
        · have := lowB _ h1; omega
    have exy : x = y := Prod.ext e1 e2
    subst exy
    congr 1
    refine snd_uniq ha' hb' fun t => ?_
    constructor
    · intro ht
      rcases mem_cons.1 ((h t).1 (mem_cons.2 (.inr ht))) with h1 | h1
      · have := lowA t ht; omega
      · exact h1
    · intro ht
      rcases mem_cons.1 ((h t).2 (mem_cons.2 (.inr ht))) with h1 | h1
      · have := lowB t ht; omega
      · exact h1

/-- Add: those ahead, one, those behind -/
def cutA (s : Sp) (x : Sp) : Bool := decide (x.2 + 1 < s.1)
def cutZ (s : Sp) (x : Sp) : Bool := decide (s.2 + 1 < x.1)
def addAt (l : List Sp) (s : Sp) (i j : Nat) : List Sp :=
  l.take i ++ [if i < j then (min s.1 (l.getD i (0, 0)).1, max s.2 (l.getD (j - 1) (0, 0)).2) else s] ++ l.drop j
theorem mem_split {l : List Sp} {i j : Nat} (hij : i ≤ j) (t : Int) : Mem t l ↔ Mem t (l.take i) ∨ Mem t ((l.drop i).take (j - i)) ∨ Mem t (l.drop j) := by
  conv => lhs; rw [← List.take_append_drop i l, ← List.take_append_drop (j - i) (l.drop i)]
  rw [mem_append, mem_append, List.drop_drop, show i + (j - i) = j by omega]
theorem addAt_ok {l : List Sp} {s : Sp} (hl : Snd l) (hs : s.1 ≤ s.2) {i j : Nat} (hij : i ≤ j) (hj : j ≤ l.length) (hi : ∀ k x, l[k]? = some x → (k < i ↔ x.2 + 1 < s.1)) (hz : ∀ k x, l[k]? = some x → (j ≤ k ↔ s.2 + 1 < x.1)) :
    Snd (addAt l s i j) ∧ ∀ t, Mem t (addAt l s i j) ↔ Mem t l ∨ (s.1 ≤ t ∧ t ≤ s.2) := by
  have hpre : ∀ x ∈ l.take i, x.2 + 1 < s.1 := fun x hx => by
    obtain ⟨k, hk, rfl⟩ := List.getElem_of_mem hx
    rw [List.length_take] at hk
    rw [List.getElem_take]
    exact (hi k _ (List.getElem?_eq_getElem (by omega))).1 (by omega)
  have hpost : ∀ x ∈ l.drop j, s.2 + 1 < x.1 := fun x hx => by
    obtain ⟨k, hk, rfl⟩ := List.getElem_of_mem hx
    rw [List.length_drop] at hk
    rw [List.getElem_drop]
    exact (hz (j + k) _ (List.getElem?_eq_getElem (by omega))).1 (by omega)
  have hpw := fun a b (ha : a < l.length) (hb : b < l.length) (hab : a < b) => List.pairwise_iff_getElem.1 hl.2 a b ha hb hab
  have hle := fun a (ha : a < l.length) => hl.1 l[a] (List.getElem_mem ha)
  by_cases hlt : i < j
  · have hi' : i < l.length := by omega
    have hj' : j - 1 < l.length := by omega
    have e1 : l.getD i (0, 0) = l[i] := by simp [List.getD, List.getElem?_eq_getElem hi']
    have e2 : l.getD (j - 1) (0, 0) = l[j - 1] := by simp [List.getD, List.getElem?_eq_getElem hj']
    unfold addAt
    rw [if_pos hlt, e1, e2]
    have t1 := mt (hi i _ (List.getElem?_eq_getElem hi')).2 (by omega)
    have t2 := mt (hz i _ (List.getElem?_eq_getElem hi')).2 (by omega)
    have t3 := mt (hi (j - 1) _ (List.getElem?_eq_getElem hj')).2 (by omega)
    have t4 := mt (hz (j - 1) _ (List.getElem?_eq_getElem hj')).2 (by omega)
    have l1 := hle i hi'
    have l2 := hle (j - 1) hj'
    have hmono : i = j - 1 ∨ l[i].2 + 1 < l[j - 1].1 := by
      by_cases e : i = j - 1
      · exact .inl e
      · exact .inr (hpw i (j - 1) hi' hj' (by omega))
    refine ⟨?_, fun t => ?_⟩
    · rw [List.append_assoc, snd_append]
      refine ⟨hl.take i, ?_, ?_⟩
      · rw [List.singleton_append, snd_cons]
        refine ⟨by simp only; omega, hl.drop j, fun y hy => ?_⟩
        obtain ⟨k, hk, rfl⟩ := List.getElem_of_mem hy
        rw [List.length_drop] at hk
        rw [List.getElem_drop]
        have h1 := (hz (j + k) _ (List.getElem?_eq_getElem (by omega))).1 (by omega)
        have h2 := hpw (j - 1) (j + k) hj' (by omega) (by omega)
        simp only
        omega
      · intro x hx y hy
        obtain ⟨k, hk, rfl⟩ := List.getElem_of_mem hx
        rw [List.length_take] at hk
        rw [List.getElem_take]
        have h1 := (hi k _ (List.getElem?_eq_getElem (by omega))).1 (by omega)
        rcases List.mem_append.1 hy with hy | hy
        · rw [List.mem_singleton.1 hy]
          have h2 := hpw k i (by omega) hi' (by omega)
          simp only
          omega
        · have := hpost y hy; omega
    · rw [List.append_assoc, mem_append, mem_append, mem_single, mem_split (l := l) (Nat.le_of_lt hlt) t]
      have hmid : Mem t ((l.drop i).take (j - i)) ∨ (s.1 ≤ t ∧ t ≤ s.2) ↔ min s.1 l[i].1 ≤ t ∧ t ≤ max s.2 l[j - 1].2 := by
        constructor
        · rintro (⟨x, hx, h1, h2⟩ | h)
          · obtain ⟨k, hk, rfl⟩ := List.getElem_of_mem hx
            rw [List.length_take, List.length_drop] at hk
            rw [List.getElem_take, List.getElem_drop] at h1 h2
            have a1 : i + k = i ∨ l[i].2 + 1 < l[i + k].1 := by
              by_cases e : k = 0
              · exact .inl (by omega)
              · exact .inr (hpw i (i + k) hi' (by omega) (by omega))
            have a2 : i + k = j - 1 ∨ l[i + k].2 + 1 < l[j - 1].1 := by
              by_cases e : i + k = j - 1
              · exact .inl e
              · exact .inr (hpw (i + k) (j - 1) (by omega) hj' (by omega))
            have b1 : l[i].1 ≤ l[i + k].1 := by
              rcases a1 with a1 | a1
              · simp [a1]
              · omega
            have b2 : l[i + k].2 ≤ l[j - 1].2 := by
              rcases a2 with a2 | a2
              · simp [a2]
              · omega
            omega
          · omega
        · intro h
          by_cases c1 : t < s.1
          · refine .inl ⟨l[i], List.mem_of_getElem? (i := 0) ?_, by omega, by omega⟩
            rw [List.getElem?_take, if_pos (by omega), List.getElem?_drop]
            exact List.getElem?_eq_getElem hi'
          · by_cases c2 : s.2 < t
            · refine .inl ⟨l[j - 1], List.mem_of_getElem? (i := j - 1 - i) ?_, by omega, by omega⟩
              rw [List.getElem?_take, if_pos (by omega), List.getElem?_drop, show i + (j - 1 - i) = j - 1 by omega]
              exact List.getElem?_eq_getElem hj'
            · exact .inr ⟨by omega, by omega⟩
      simp only
      rw [← hmid]
      constructor
      · rintro (h | (h | h) | h)
        · exact .inl (.inl h)
        · exact .inl (.inr (.inl h))
        · exact .inr h
        · exact .inl (.inr (.inr h))
      · rintro ((h | h | h) | h)
        · exact .inl h
        · exact .inr (.inl (.inl h))
        · exact .inr (.inr h)
        · exact .inr (.inl (.inr h))
  · obtain rfl : i = j := by omega
    unfold addAt
    rw [if_neg hlt]
    refine ⟨?_, fun t => ?_⟩
    · rw [List.append_assoc, snd_append]
      refine ⟨hl.take i, ?_, ?_⟩
      · rw [List.singleton_append, snd_cons]
        exact ⟨hs, hl.drop i, hpost⟩
      · intro x hx y hy
        rcases List.mem_append.1 hy with hy | hy
        · rw [List.mem_singleton.1 hy]; exact hpre x hx
        · have := hpre x hx; have := hpost y hy; omega
    · rw [List.append_assoc, mem_append, mem_append, mem_single]
      have hsp : Mem t l ↔ Mem t (l.take i) ∨ Mem t (l.drop i) := by rw [← mem_append, List.take_append_drop]
      rw [hsp]
      constructor
      · rintro (h | h | h)
        · exact .inl (.inl h)
        · exact .inr h
        · exact .inl (.inr h)
      · rintro ((h | h) | h)
        · exact .inl h
        · exact .inr (.inr h)
        · exact .inr (.inl h)

end Go.Proofs.Ytfbnobhecfgahaa
