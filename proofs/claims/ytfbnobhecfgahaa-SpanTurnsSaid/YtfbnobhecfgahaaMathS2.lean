/- Layer 23: Drop, the mathematics. -/
import Derived.Test.YtfbnobhecfgahaaMathS
set_option linter.unusedSimpArgs false
set_option linter.unusedVariables false
namespace Go.Proofs.Ytfbnobhecfgahaa

def dropM (s x y : Sp) : List Sp := (if x.1 < s.1 then [(x.1, s.1 - 1)] else []) ++ (if s.2 < y.2 then [(s.2 + 1, y.2)] else [])
theorem dropM_ok {s x y : Sp} (hs : s.1 ≤ s.2) (hx : x.1 ≤ x.2) (hy : y.1 ≤ y.2) (h1 : s.1 ≤ x.2) (h2 : y.1 ≤ s.2) : Snd (dropM s x y) ∧ (∀ t, Mem t (dropM s x y) ↔ (x.1 ≤ t ∧ t < s.1) ∨ (s.2 < t ∧ t ≤ y.2)) ∧ ∀ z ∈ dropM s x y, x.1 ≤ z.1 ∨ s.2 < z.1 := by
  unfold dropM
  by_cases c1 : x.1 < s.1 <;> by_cases c2 : s.2 < y.2
  · rw [if_pos c1, if_pos c2]
    refine ⟨?_, fun t => ?_, fun z hz => ?_⟩
    · rw [List.singleton_append, snd_cons]
      refine ⟨by simp only; omega, snd_single.2 (by simp only; omega), fun z hz => ?_⟩
      rw [List.mem_singleton.1 hz]
      simp only
      omega
    · rw [List.singleton_append, mem_cons, mem_single]
      simp only
      omega
    · simp only [List.singleton_append, List.mem_cons, List.not_mem_nil, or_false] at hz
      rcases hz with rfl | rfl
      · exact .inl (Int.le_refl _)
      · right; simp only; omega
  · rw [if_pos c1, if_neg c2, List.append_nil]
    refine ⟨snd_single.2 (by simp only; omega), fun t => ?_, fun z hz => ?_⟩
    · rw [mem_single]
      simp only
      omega
    · rw [List.mem_singleton.1 hz]; exact .inl (Int.le_refl _)
  · rw [if_neg c1, if_pos c2, List.nil_append]
    refine ⟨snd_single.2 (by simp only; omega), fun t => ?_, fun z hz => ?_⟩
    · rw [mem_single]
      simp only
      omega
    · rw [List.mem_singleton.1 hz]; right; simp only; omega
  · rw [if_neg c1, if_neg c2, List.nil_append]
    refine ⟨Snd.nil, fun t => ?_, fun z hz => by cases hz⟩
    constructor
    · intro h; exact absurd h mem_nil
    · intro h; omega

theorem dropAt_ok {l : List Sp} {s : Sp} (hl : Snd l) (hs : s.1 ≤ s.2) {i j : Nat} (hij : i ≤ j) (hj : j ≤ l.length) (hi : ∀ k x, l[k]? = some x → (k < i ↔ x.2 < s.1)) (hz : ∀ k x, l[k]? = some x → (j ≤ k ↔ s.2 < x.1)) :
    ∀ M, (i < j → ∃ x y, l[i]? = some x ∧ l[j - 1]? = some y ∧ M = dropM s x y) → (¬ i < j → M = []) →
    Snd (l.take i ++ M ++ l.drop j) ∧ ∀ t, Mem t (l.take i ++ M ++ l.drop j) ↔ Mem t l ∧ ¬ (s.1 ≤ t ∧ t ≤ s.2) := by
  intro M hM1 hM2
  have hpre : ∀ x ∈ l.take i, x.2 < s.1 := fun x hx => by
    obtain ⟨k, hk, rfl⟩ := List.getElem_of_mem hx
    rw [List.length_take] at hk
    rw [List.getElem_take]
    exact (hi k _ (List.getElem?_eq_getElem (by omega))).1 (by omega)
  have hpost : ∀ x ∈ l.drop j, s.2 < x.1 := fun x hx => by
    obtain ⟨k, hk, rfl⟩ := List.getElem_of_mem hx
    rw [List.length_drop] at hk
    rw [List.getElem_drop]
    exact (hz (j + k) _ (List.getElem?_eq_getElem (by omega))).1 (by omega)
  have hpw := fun a b (ha : a < l.length) (hb : b < l.length) (hab : a < b) => List.pairwise_iff_getElem.1 hl.2 a b ha hb hab
  have hle := fun a (ha : a < l.length) => hl.1 l[a] (List.getElem_mem ha)
  by_cases hlt : i < j
  · obtain ⟨x, y, hx, hy, rfl⟩ := hM1 hlt
    have hi' : i < l.length := by omega
    have hj' : j - 1 < l.length := by omega
    have ex : l[i] = x := by rw [List.getElem?_eq_getElem hi'] at hx; injection hx
    have ey : l[j - 1] = y := by rw [List.getElem?_eq_getElem hj'] at hy; injection hy
    have t1 := mt (hi i _ hx).2 (by omega)
    have t2 := mt (hz i _ hx).2 (by omega)
    have t3 := mt (hi (j - 1) _ hy).2 (by omega)
    have t4 := mt (hz (j - 1) _ hy).2 (by omega)
    have l1 := hle i hi'
    have l2 := hle (j - 1) hj'
    rw [ex] at l1
    rw [ey] at l2
    have hmono : i = j - 1 ∨ x.2 + 1 < y.1 := by
      by_cases e : i = j - 1
      · exact .inl e
      · have := hpw i (j - 1) hi' hj' (by omega)
        rw [ex, ey] at this
        exact .inr this
    obtain ⟨m1, m2, m3⟩ := dropM_ok hs l1 l2 (by omega) (by omega)
    refine ⟨?_, fun t => ?_⟩
    · rw [List.append_assoc, snd_append, snd_append]
      refine ⟨hl.take i, ⟨m1, hl.drop j, fun a ha b hb => ?_⟩, fun a ha b hb => ?_⟩
      · obtain ⟨k, hk, rfl⟩ := List.getElem_of_mem hb
        rw [List.length_drop] at hk
        rw [List.getElem_drop]
        have h2 := hpw (j - 1) (j + k) hj' (by omega) (by omega)
        rw [ey] at h2
        have h1 := (hz (j + k) _ (List.getElem?_eq_getElem (by omega))).1 (by omega)
        have ha2 := (m2 a.2).1 ⟨a, ha, m1.1 a ha, Int.le_refl _⟩
        have hxy : x.2 ≤ y.2 := by
          rcases hmono with e | e
          · subst e; rw [ex] at ey; rw [ey]; exact Int.le_refl _
          · omega
        omega
      · obtain ⟨k, hk, rfl⟩ := List.getElem_of_mem ha
        rw [List.length_take] at hk
        rw [List.getElem_take]
        have h2 := hpw k i (by omega) hi' (by omega)
        rw [ex] at h2
        have h1 := (hi k _ (List.getElem?_eq_getElem (by omega))).1 (by omega)
        rcases List.mem_append.1 hb with hb | hb
        · rcases m3 b hb with h | h <;> omega
        · have := hpost b hb; omega
    · rw [List.append_assoc, mem_append, mem_append, m2 t, mem_split (l := l) (Nat.le_of_lt hlt) t]
      have a1 : Mem t (l.take i) → t < x.1 ∧ t < s.1 := fun ⟨z, hzm, h1, h2⟩ => by
        obtain ⟨k, hk, rfl⟩ := List.getElem_of_mem hzm
        rw [List.length_take] at hk
        rw [List.getElem_take] at h1 h2
        have h3 := hpw k i (by omega) hi' (by omega)
        rw [ex] at h3
        have h4 := (hi k _ (List.getElem?_eq_getElem (by omega))).1 (by omega)
        omega
      have a2 : Mem t (l.drop j) → y.2 < t ∧ s.2 < t := fun ⟨z, hzm, h1, h2⟩ => by
        obtain ⟨k, hk, rfl⟩ := List.getElem_of_mem hzm
        rw [List.length_drop] at hk
        rw [List.getElem_drop] at h1 h2
        have h3 := hpw (j - 1) (j + k) hj' (by omega) (by omega)
        rw [ey] at h3
        have h4 := (hz (j + k) _ (List.getElem?_eq_getElem (by omega))).1 (by omega)
        omega
      have mid : Mem t ((l.drop i).take (j - i)) ∧ ¬ (s.1 ≤ t ∧ t ≤ s.2) ↔ (x.1 ≤ t ∧ t < s.1) ∨ (s.2 < t ∧ t ≤ y.2) := by
        constructor
        · rintro ⟨⟨z, hzm, h1, h2⟩, hn⟩
          obtain ⟨k, hk, rfl⟩ := List.getElem_of_mem hzm
          rw [List.length_take, List.length_drop] at hk
          rw [List.getElem_take, List.getElem_drop] at h1 h2
          have b1 : x.1 ≤ l[i + k].1 := by
            by_cases e : k = 0
            · subst e; simp only [Nat.add_zero]; rw [ex]; exact Int.le_refl _
            · have := hpw i (i + k) hi' (by omega) (by omega); rw [ex] at this; omega
          have b2 : l[i + k].2 ≤ y.2 := by
            by_cases e : i + k = j - 1
            · rw [show l[i + k] = y by rw [← ey]; congr 1]; exact Int.le_refl _
            · have := hpw (i + k) (j - 1) (by omega) hj' (by omega); rw [ey] at this; omega
          omega
        · rintro (⟨h1, h2⟩ | ⟨h1, h2⟩)
          · refine ⟨⟨x, List.mem_of_getElem? (i := 0) ?_, h1, by omega⟩, by omega⟩
            rw [List.getElem?_take, if_pos (by omega), List.getElem?_drop]
            exact hx
          · refine ⟨⟨y, List.mem_of_getElem? (i := j - 1 - i) ?_, by omega, h2⟩, by omega⟩
            rw [List.getElem?_take, if_pos (by omega), List.getElem?_drop, show i + (j - 1 - i) = j - 1 by omega]
            exact hy
      rw [← mid]
      constructor
      · rintro (h | ⟨h, hn⟩ | h)
        · exact ⟨.inl h, by have := a1 h; omega⟩
        · exact ⟨.inr (.inl h), hn⟩
        · exact ⟨.inr (.inr h), by have := a2 h; omega⟩
      · rintro ⟨h | h | h, hn⟩
        · exact .inl h
        · exact .inr (.inl ⟨h, hn⟩)
        · exact .inr (.inr h)
  · obtain rfl : i = j := by omega
    rw [hM2 hlt, List.append_nil, List.take_append_drop]
    refine ⟨hl, fun t => ⟨fun h => ⟨h, fun hn => ?_⟩, fun h => h.1⟩⟩
    obtain ⟨z, hzm, h1, h2⟩ := h
    obtain ⟨k, hk, rfl⟩ := List.getElem_of_mem hzm
    have a1 := hi k _ (List.getElem?_eq_getElem hk)
    have a2 := hz k _ (List.getElem?_eq_getElem hk)
    rcases Nat.lt_or_ge k i with h | h
    · have := a1.1 h; omega
    · have := a2.1 h; omega

end Go.Proofs.Ytfbnobhecfgahaa
