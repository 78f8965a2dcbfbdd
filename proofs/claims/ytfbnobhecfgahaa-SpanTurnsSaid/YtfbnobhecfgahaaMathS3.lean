/- Layer 23: counting, sorting, joining, what two lists have in common: the mathematics. -/
import Derived.Test.YtfbnobhecfgahaaMathS2
set_option linter.unusedSimpArgs false
set_option linter.unusedVariables false
namespace Go.Proofs.Ytfbnobhecfgahaa

/-- how many times are in a list -/
def cntN : List Sp → Nat
  | [] => 0
  | x :: l => (x.2 - x.1 + 1).toNat + cntN l
theorem cntN_append (a b : List Sp) : cntN (a ++ b) = cntN a + cntN b := by
  induction a with
  | nil => simp [cntN]
  | cons x a ih => rw [List.cons_append, cntN, cntN, ih, Nat.add_assoc]
theorem cntN_snoc {l : List Sp} {k : Nat} {x : Sp} (hx : l[k]? = some x) : cntN (l.take (k + 1)) = cntN (l.take k) + (x.2 - x.1 + 1).toNat := by
  obtain ⟨hk, hxe⟩ := List.getElem?_eq_some_iff.1 hx
  rw [List.take_succ_eq_append_getElem hk, hxe, cntN_append]
  simp [cntN]
theorem cntN_le (hi : Int) : ∀ (l : List Sp) (x : Sp), Snd (x :: l) → (∀ y ∈ x :: l, y.2 ≤ hi) → (cntN (x :: l) : Int) + (if l = [] then 0 else 1) ≤ hi - x.1 + 1
  | [], x, h, hb => by
    have h1 := (snd_cons.1 h).1
    have h2 := hb x (by simp)
    simp only [cntN, if_true]
    omega
  | y :: l, x, h, hb => by
    obtain ⟨h1, h2, h3⟩ := snd_cons.1 h
    have ih := cntN_le hi l y h2 (fun z hz => hb z (List.mem_cons_of_mem _ hz))
    have h4 := h3 y (by simp)
    rw [if_neg (by simp)]
    rw [cntN]
    split at ih <;> omega
def allS : List Sp := [(-9223372036854775808, 9223372036854775807)]
theorem cnt_lt {l : List Sp} (h : Snd l) (hb : ∀ x ∈ l, -9223372036854775808 ≤ x.1 ∧ x.2 ≤ 9223372036854775807) (hn : l ≠ allS) : cntN l < 18446744073709551616 ∧ (l ≠ [] → 0 < cntN l) := by
  cases l with
  | nil => exact ⟨by simp [cntN], fun h => absurd rfl h⟩
  | cons x l =>
    have h1 := cntN_le 9223372036854775807 l x h (fun y hy => (hb y hy).2)
    have h2 := (hb x (by simp)).1
    have h3 := (snd_cons.1 h).1
    refine ⟨?_, fun _ => by rw [cntN]; omega⟩
    by_cases hl : l = []
    · subst hl
      rw [if_pos rfl] at h1
      have h4 := (hb x (by simp)).2
      simp only [cntN] at h1 ⊢
      rcases Nat.lt_or_ge ((x.2 - x.1 + 1).toNat + 0) 18446744073709551616 with h5 | h5
      · exact h5
      · refine absurd ?_ hn
        unfold allS
        have e1 : x.1 = -9223372036854775808 := by omega
        have e2 : x.2 = 9223372036854775807 := by omega
        rw [show x = (x.1, x.2) from rfl, e1, e2]
    · rw [if_neg hl] at h1
      omega
/-- what Count gives -/
def cntR (l : List Sp) : Nat × Bool := if Snd l ∧ l ≠ allS then (cntN l, true) else (0, false)
theorem cntN_all : cntN allS = 18446744073709551616 := by decide
theorem cntR_mod {l : List Sp} (h : Snd l) (hb : ∀ x ∈ l, -9223372036854775808 ≤ x.1 ∧ x.2 ≤ 9223372036854775807) : (cntR l).1 = cntN l % 18446744073709551616 := by
  unfold cntR
  by_cases hn : l = allS
  · rw [if_neg (fun e => e.2 hn), hn, cntN_all]
  · rw [if_pos ⟨h, hn⟩, Nat.mod_eq_of_lt (cnt_lt h hb hn).1]
theorem cntR_le (l : List Sp) (hb : ∀ x ∈ l, -9223372036854775808 ≤ x.1 ∧ x.2 ≤ 9223372036854775807) : (cntR l).1 < 18446744073709551616 := by
  unfold cntR
  by_cases hn : Snd l ∧ l ≠ allS
  · rw [if_pos hn]; exact (cnt_lt hn.1 hb hn.2).1
  · rw [if_neg hn]; exact Nat.zero_lt_succ _

/-- counting one by one -/
def cntF (f : Nat → Bool) : Nat → Nat
  | 0 => 0
  | n + 1 => cntF f n + (f n).toNat
theorem cntF_two {f g h k : Nat → Bool} (e : ∀ i, (f i).toNat + (g i).toNat = (h i).toNat + (k i).toNat) : ∀ n, cntF f n + cntF g n = cntF h n + cntF k n
  | 0 => rfl
  | n + 1 => by
    have ih := cntF_two e n
    have := e n
    simp only [cntF]
    omega
theorem cntF_none : ∀ n, cntF (fun _ => false) n = 0
  | 0 => rfl
  | n + 1 => by simp only [cntF, cntF_none n]; rfl
theorem cntF_run (a b : Nat) (h : a ≤ b + 1) : ∀ n, cntF (fun i => decide (a ≤ i ∧ i ≤ b)) n = min n (b + 1) - min n a
  | 0 => by simp [cntF]
  | n + 1 => by
    rw [cntF, cntF_run a b h n]
    by_cases c : a ≤ n ∧ n ≤ b
    · rw [decide_eq_true c]; simp only [Bool.toNat_true]; omega
    · rw [decide_eq_false c]; simp only [Bool.toNat_false]; omega
theorem cntN_cntF (lo : Int) (n : Nat) : ∀ (l : List Sp), Snd l → (∀ x ∈ l, lo ≤ x.1 ∧ x.2 < lo + n) → cntN l = cntF (fun i => hasB l (lo + i)) n
  | [], _, _ => by
    have : (fun i : Nat => hasB [] (lo + i)) = fun _ => false := funext fun i => decide_eq_false mem_nil
    rw [this, cntF_none]; rfl
  | x :: l, h, hb => by
    obtain ⟨h1, h2, h3⟩ := snd_cons.1 h
    have ih := cntN_cntF lo n l h2 (fun y hy => hb y (List.mem_cons_of_mem _ hy))
    have hx := hb x (by simp)
    obtain ⟨p, hp⟩ := Int.eq_ofNat_of_zero_le (show 0 ≤ x.1 - lo by omega)
    obtain ⟨q, hq⟩ := Int.eq_ofNat_of_zero_le (show 0 ≤ x.2 - lo by omega)
    have hrun := cntF_run p q (by omega) n
    have h2' := cntF_two (f := fun i => hasB (x :: l) (lo + i)) (g := fun _ => false) (h := fun i => decide (p ≤ i ∧ i ≤ q)) (k := fun i => hasB l (lo + i)) (fun i => by
      have hm : hasB (x :: l) (lo + i) = (decide (p ≤ i ∧ i ≤ q) || hasB l (lo + i)) := by
        unfold hasB
        rw [Bool.eq_iff_iff, Bool.or_eq_true, decide_eq_true_iff, decide_eq_true_iff, decide_eq_true_iff, mem_cons]
        constructor
        · rintro (h | h)
          · exact .inl (by omega)
          · exact .inr h
        · rintro (h | h)
          · exact .inl (by omega)
          · exact .inr h
      rw [hm]
      by_cases c : p ≤ i ∧ i ≤ q
      · have hno : hasB l (lo + i) = false := decide_eq_false fun ⟨z, hz, e1, e2⟩ => by have := h3 z hz; omega
        rw [decide_eq_true c, hno]; rfl
      · rw [decide_eq_false c, Bool.false_or]; simp) n
    rw [cntF_none, hrun] at h2'
    rw [cntN, ih]
    omega
theorem cnt_both {a b m u : List Sp} (ha : Snd a) (hb : Snd b) (hm : Snd m) (hu : Snd u) (lo : Int) (n : Nat)
    (ba : ∀ x ∈ a, lo ≤ x.1 ∧ x.2 < lo + n) (bb : ∀ x ∈ b, lo ≤ x.1 ∧ x.2 < lo + n) (bm : ∀ x ∈ m, lo ≤ x.1 ∧ x.2 < lo + n) (bu : ∀ x ∈ u, lo ≤ x.1 ∧ x.2 < lo + n)
    (em : ∀ t, Mem t m ↔ Mem t a ∧ Mem t b) (eu : ∀ t, Mem t u ↔ Mem t a ∨ Mem t b) : cntN a + cntN b = cntN m + cntN u := by
  rw [cntN_cntF lo n a ha ba, cntN_cntF lo n b hb bb, cntN_cntF lo n m hm bm, cntN_cntF lo n u hu bu]
  refine cntF_two (fun i => ?_) n
  have e1 : hasB m (lo + i) = (hasB a (lo + i) && hasB b (lo + i)) := by
    unfold hasB
    rw [Bool.eq_iff_iff, Bool.and_eq_true, decide_eq_true_iff, decide_eq_true_iff, decide_eq_true_iff]; exact em _
  have e2 : hasB u (lo + i) = (hasB a (lo + i) || hasB b (lo + i)) := by
    unfold hasB
    rw [Bool.eq_iff_iff, Bool.or_eq_true, decide_eq_true_iff, decide_eq_true_iff, decide_eq_true_iff]; exact eu _
  simp only [e1, e2]
  cases hasB a (lo + i) <;> cases hasB b (lo + i) <;> rfl

theorem snd_put {l : List Sp} {x : Sp} (h : Snd l) (hx : x.1 ≤ x.2) (hz : ∀ z ∈ l, z.2 + 1 < x.1) : Snd (l ++ [x]) :=
  snd_append.2 ⟨h, snd_single.2 hx, fun z h1 y h2 => by rw [List.mem_singleton.1 h2]; exact hz z h1⟩

/-- what two spans have in common -/
def bothL (s o : Sp) : List Sp := if max s.1 o.1 ≤ min s.2 o.2 then [(max s.1 o.1, min s.2 o.2)] else []
theorem mem_both {t : Int} {s o : Sp} : Mem t (bothL s o) ↔ (s.1 ≤ t ∧ t ≤ s.2) ∧ (o.1 ≤ t ∧ t ≤ o.2) := by
  unfold bothL
  split
  · rw [mem_single]; simp only; omega
  · constructor
    · intro h; exact absurd h mem_nil
    · intro h; omega
theorem bothL_len (s o : Sp) : (bothL s o).length ≤ 1 := by unfold bothL; split <;> simp
theorem snd_both {l : List Sp} {s o : Sp} (h : Snd l) (hz : ∀ z ∈ l, z.2 + 1 < s.1 ∨ z.2 + 1 < o.1) : Snd (l ++ bothL s o) := by
  unfold bothL
  split
  · refine snd_put h (by simp only; omega) (fun z hzl => ?_)
    have := hz z hzl
    simp only; omega
  · rw [List.append_nil]; exact h
theorem both_le {s o z : Sp} (h : z ∈ bothL s o) : z.2 ≤ s.2 ∧ z.2 ≤ o.2 ∧ s.1 ≤ z.1 ∧ o.1 ≤ z.1 ∧ z.1 ≤ z.2 := by
  unfold bothL at h
  split at h
  · rw [List.mem_singleton.1 h]; simp only; omega
  · cases h
theorem drop_at {l : List Sp} {i : Nat} {x : Sp} (h : l[i]? = some x) : l.drop i = x :: l.drop (i + 1) := by
  obtain ⟨hi, he⟩ := List.getElem?_eq_some_iff.1 h
  rw [List.drop_eq_getElem_cons hi, he]
theorem snd_drop_lt {l : List Sp} (h : Snd l) {i : Nat} {x : Sp} (hx : l[i]? = some x) : x.1 ≤ x.2 ∧ ∀ y ∈ l.drop (i + 1), x.2 + 1 < y.1 := by
  have h1 := h.drop i
  rw [drop_at hx] at h1
  exact ⟨(snd_cons.1 h1).1, (snd_cons.1 h1).2.2⟩
theorem snd_take_lt {l : List Sp} (h : Snd l) {i : Nat} {x : Sp} (hx : l[i]? = some x) : ∀ y ∈ l.take i, y.2 + 1 < x.1 := by
  have h1 : Snd (l.take i ++ l.drop i) := by rw [List.take_append_drop]; exact h
  intro y hy
  exact (snd_append.1 h1).2.2 y hy x (by rw [drop_at hx]; simp)
theorem mem_cut {t : Int} {l : List Sp} (i : Nat) : Mem t l ↔ Mem t (l.take i) ∨ Mem t (l.drop i) := by rw [← mem_append, List.take_append_drop]
theorem mem_at {t : Int} {l : List Sp} {i : Nat} {x : Sp} (hx : l[i]? = some x) : Mem t l ↔ Mem t (l.take i) ∨ (x.1 ≤ t ∧ t ≤ x.2) ∨ Mem t (l.drop (i + 1)) := by
  rw [mem_cut i, drop_at hx, mem_cons]

/-- the program's Meet: ahead of a span of a, and within -/
structure MO (a b l : List Sp) (i j : Nat) : Prop where
  snd : Snd l
  mem : ∀ t, Mem t l ↔ Mem t (a.take i) ∧ Mem t b
  far : ∀ z ∈ l, (∀ x ∈ a.drop i, z.2 + 1 < x.1) ∨ (∀ y ∈ b.drop j, z.2 + 1 < y.1)
  low : ∀ y ∈ b.take j, ∀ x ∈ a.drop i, y.2 < x.1
  len : l.length ≤ i + j
structure MI (a b l : List Sp) (i j : Nat) (s : Sp) : Prop where
  at_ : a[i]? = some s
  snd : Snd l
  mem : ∀ t, Mem t l ↔ (Mem t (a.take i) ∧ Mem t b) ∨ ((s.1 ≤ t ∧ t ≤ s.2) ∧ Mem t (b.take j))
  far : ∀ z ∈ l, (∀ x ∈ a.drop i, z.2 + 1 < x.1) ∨ (∀ y ∈ b.drop j, z.2 + 1 < y.1)
  low : ∀ y ∈ b.take j, ∀ x ∈ a.drop (i + 1), y.2 < x.1
  len : l.length ≤ i + j
theorem MO.zero (a b : List Sp) : MO a b [] 0 0 := ⟨Snd.nil, fun t => by simp [mem_nil], (fun _ h => by cases h), (fun _ h => by cases h), by simp⟩
theorem MO.into {a b l : List Sp} {i j : Nat} {s : Sp} (h : MO a b l i j) (hs : a[i]? = some s) : MI a b l i j s := by
  refine ⟨hs, h.snd, fun t => ?_, h.far, fun y hy x hx => h.low y hy x ?_, h.len⟩
  · rw [h.mem]
    constructor
    · exact .inl
    · rintro (h1 | ⟨h1, y, hy, h2, h3⟩)
      · exact h1
      · have := h.low y hy s (by rw [drop_at hs]; simp)
        omega
  · rw [drop_at hs]; exact List.mem_cons_of_mem _ hx
theorem MI.goOn {a b l : List Sp} {i j : Nat} {s o : Sp} (h : MI a b l i j s) (ha : Snd a) (hb : Snd b) (ho : b[j]? = some o) (hlt : s.2 < o.2) : MO a b (l ++ bothL s o) (i + 1) j := by
  have hs1 := snd_drop_lt ha h.at_
  have ho1 := snd_drop_lt hb ho
  refine ⟨snd_both h.snd fun z hz => ?_, fun t => ?_, fun z hz => ?_, h.low, ?_⟩
  · rcases h.far z hz with h1 | h1
    · exact .inl (h1 s (by rw [drop_at h.at_]; simp))
    · exact .inr (h1 o (by rw [drop_at ho]; simp))
  · rw [mem_append, h.mem, mem_both, mem_snoc h.at_]
    have hbt := mem_at (t := t) ho
    constructor
    · rintro ((⟨h1, h2⟩ | ⟨h1, h2⟩) | ⟨h1, h2⟩)
      · exact ⟨.inl h1, h2⟩
      · exact ⟨.inr h1, hbt.2 (.inl h2)⟩
      · exact ⟨.inr h1, hbt.2 (.inr (.inl h2))⟩
    · rintro ⟨h1 | h1, h2⟩
      · exact .inl (.inl ⟨h1, h2⟩)
      · rcases hbt.1 h2 with h3 | h3 | ⟨y, hy, h3, h4⟩
        · exact .inl (.inr ⟨h1, h3⟩)
        · exact .inr ⟨h1, h3⟩
        · have := ho1.2 y hy; omega
  · rcases List.mem_append.1 hz with hz | hz
    · rcases h.far z hz with h1 | h1
      · exact .inl fun x hx => h1 x (by rw [drop_at h.at_]; exact List.mem_cons_of_mem _ hx)
      · exact .inr h1
    · refine .inl fun x hx => ?_
      have := hs1.2 x hx
      have := both_le hz
      omega
  · have := h.len; have := bothL_len s o; rw [List.length_append]; omega
theorem MI.next {a b l : List Sp} {i j : Nat} {s o : Sp} (h : MI a b l i j s) (ha : Snd a) (hb : Snd b) (ho : b[j]? = some o) (hle : o.2 ≤ s.2) : MI a b (l ++ bothL s o) i (j + 1) s := by
  have hs1 := snd_drop_lt ha h.at_
  have ho1 := snd_drop_lt hb ho
  refine ⟨h.at_, snd_both h.snd fun z hz => ?_, fun t => ?_, fun z hz => ?_, fun y hy x hx => ?_, ?_⟩
  · rcases h.far z hz with h1 | h1
    · exact .inl (h1 s (by rw [drop_at h.at_]; simp))
    · exact .inr (h1 o (by rw [drop_at ho]; simp))
  · rw [mem_append, h.mem, mem_both, mem_snoc ho]
    constructor
    · rintro ((h1 | ⟨h1, h2⟩) | ⟨h1, h2⟩)
      · exact .inl h1
      · exact .inr ⟨h1, .inl h2⟩
      · exact .inr ⟨h1, .inr h2⟩
    · rintro (h1 | ⟨h1, h2 | h2⟩)
      · exact .inl (.inl h1)
      · exact .inl (.inr ⟨h1, h2⟩)
      · exact .inr ⟨h1, h2⟩
  · rcases List.mem_append.1 hz with hz | hz
    · rcases h.far z hz with h1 | h1
      · exact .inl h1
      · exact .inr fun y hy => h1 y (by rw [drop_at ho]; exact List.mem_cons_of_mem _ hy)
    · refine .inr fun y hy => ?_
      have := ho1.2 y hy
      have := both_le hz
      omega
  · obtain ⟨hk, hxe⟩ := List.getElem?_eq_some_iff.1 ho
    rw [List.take_succ_eq_append_getElem hk, hxe] at hy
    rcases List.mem_append.1 hy with hy | hy
    · exact h.low y hy x hx
    · rw [List.mem_singleton.1 hy]
      have := hs1.2 x hx
      omega
  · have := h.len; have := bothL_len s o; rw [List.length_append]; omega
theorem MI.done {a b l : List Sp} {i : Nat} {s : Sp} (h : MI a b l i b.length s) : ∀ t, Mem t l ↔ Mem t a ∧ Mem t b := fun t => by
  rw [h.mem, List.take_length, mem_at h.at_]
  constructor
  · rintro (⟨h1, h2⟩ | ⟨h1, h2⟩)
    · exact ⟨.inl h1, h2⟩
    · exact ⟨.inr (.inl h1), h2⟩
  · rintro ⟨h1 | h1 | ⟨x, hx, h3, h4⟩, h2⟩
    · exact .inl ⟨h1, h2⟩
    · exact .inr ⟨h1, h2⟩
    · obtain ⟨y, hy, h5, h6⟩ := h2
      have := h.low y (by rw [List.take_length]; exact hy) x hx
      omega
theorem MO.done {a b l : List Sp} {j : Nat} (h : MO a b l a.length j) : ∀ t, Mem t l ↔ Mem t a ∧ Mem t b := fun t => by
  rw [h.mem, List.take_length]

/-- the document's Meet -/
structure RI (a b l : List Sp) (i k : Nat) (s : Sp) : Prop where
  at_ : a[i]? = some s
  snd : Snd l
  mem : ∀ t, Mem t l ↔ (Mem t (a.take i) ∧ Mem t b) ∨ ((s.1 ≤ t ∧ t ≤ s.2) ∧ Mem t (b.take k))
  far : ∀ z ∈ l, (∀ x ∈ a.drop i, z.2 + 1 < x.1) ∨ ((∀ y ∈ b.drop k, z.2 + 1 < y.1) ∧ ∀ x ∈ a.drop (i + 1), z.2 + 1 < x.1)
  len : l.length ≤ i * b.length + k
structure RO (a b l : List Sp) (i : Nat) : Prop where
  snd : Snd l
  mem : ∀ t, Mem t l ↔ Mem t (a.take i) ∧ Mem t b
  far : ∀ z ∈ l, ∀ x ∈ a.drop i, z.2 + 1 < x.1
  len : l.length ≤ i * b.length
theorem RO.zero (a b : List Sp) : RO a b [] 0 := ⟨Snd.nil, fun t => by simp [mem_nil], (fun _ h => by cases h), by simp⟩
theorem RO.into {a b l : List Sp} {i : Nat} {s : Sp} (h : RO a b l i) (hs : a[i]? = some s) : RI a b l i 0 s :=
  ⟨hs, h.snd, fun t => by rw [h.mem, List.take_zero]; simp [mem_nil], fun z hz => .inl (h.far z hz), h.len⟩
theorem RI.next {a b l : List Sp} {i k : Nat} {s o : Sp} (h : RI a b l i k s) (ha : Snd a) (hb : Snd b) (ho : b[k]? = some o) : RI a b (l ++ bothL s o) i (k + 1) s := by
  have hs1 := snd_drop_lt ha h.at_
  have ho1 := snd_drop_lt hb ho
  refine ⟨h.at_, snd_both h.snd fun z hz => ?_, fun t => ?_, fun z hz => ?_, ?_⟩
  · rcases h.far z hz with h1 | h1
    · exact .inl (h1 s (by rw [drop_at h.at_]; simp))
    · exact .inr (h1.1 o (by rw [drop_at ho]; simp))
  · rw [mem_append, h.mem, mem_both, mem_snoc ho]
    constructor
    · rintro ((h1 | ⟨h1, h2⟩) | ⟨h1, h2⟩)
      · exact .inl h1
      · exact .inr ⟨h1, .inl h2⟩
      · exact .inr ⟨h1, .inr h2⟩
    · rintro (h1 | ⟨h1, h2 | h2⟩)
      · exact .inl (.inl h1)
      · exact .inl (.inr ⟨h1, h2⟩)
      · exact .inr ⟨h1, h2⟩
  · rcases List.mem_append.1 hz with hz | hz
    · rcases h.far z hz with h1 | h1
      · exact .inl h1
      · exact .inr ⟨fun y hy => h1.1 y (by rw [drop_at ho]; exact List.mem_cons_of_mem _ hy), h1.2⟩
    · have hb := both_le hz
      refine .inr ⟨fun y hy => ?_, fun x hx => ?_⟩
      · have := ho1.2 y hy
        omega
      · have := hs1.2 x hx
        omega
  · have := h.len; have := bothL_len s o; rw [List.length_append]; omega
theorem RI.out {a b l : List Sp} {i : Nat} {s : Sp} (h : RI a b l i b.length s) : RO a b l (i + 1) := by
  refine ⟨h.snd, fun t => ?_, fun z hz x hx => ?_, ?_⟩
  · rw [h.mem, List.take_length, mem_snoc h.at_]
    constructor
    · rintro (⟨h1, h2⟩ | ⟨h1, h2⟩)
      · exact ⟨.inl h1, h2⟩
      · exact ⟨.inr h1, h2⟩
    · rintro ⟨h1 | h1, h2⟩
      · exact .inl ⟨h1, h2⟩
      · exact .inr ⟨h1, h2⟩
  · rcases h.far z hz with h1 | h1
    · exact h1 x (by rw [drop_at h.at_]; exact List.mem_cons_of_mem _ hx)
    · exact h1.2 x hx
  · have := h.len
    rw [Nat.succ_mul]; exact this
theorem RO.done {a b l : List Sp} (h : RO a b l a.length) : ∀ t, Mem t l ↔ Mem t a ∧ Mem t b := fun t => by
  rw [h.mem, List.take_length]

/-- the document's sorted -/
structure SO (l R : List Sp) (i : Nat) : Prop where
  up : R.Pairwise (fun x y => x.1 ≤ y.1)
  mem : ∀ t, Mem t R ↔ Mem t (l.take i)
  sub : ∀ z ∈ R, z ∈ l
  len : R.length = i
theorem SO.zero (l : List Sp) : SO l [] 0 := ⟨List.Pairwise.nil, fun t => by simp, (fun _ h => by cases h), rfl⟩
theorem SO.step {l R : List Sp} {i k : Nat} {x : Sp} (h : SO l R i) (hx : l[i]? = some x) (hk : k ≤ R.length) (h1 : ∀ z ∈ R.take k, z.1 ≤ x.1) (h2 : ∀ y, R[k]? = some y → x.1 < y.1) : SO l (R.take k ++ [x] ++ R.drop k) (i + 1) := by
  have hup : (R.take k ++ R.drop k).Pairwise (fun x y => x.1 ≤ y.1) := by rw [List.take_append_drop]; exact h.up
  obtain ⟨u1, u2, u3⟩ := List.pairwise_append.1 hup
  have h2' : ∀ z ∈ R.drop k, x.1 ≤ z.1 := by
    intro z hz
    rcases Nat.lt_or_ge k R.length with hlt | hge
    · have hy := List.getElem?_eq_getElem hlt
      have h3 := h2 _ hy
      rw [drop_at hy] at hz u2
      rcases List.mem_cons.1 hz with rfl | hz
      · omega
      · have := (List.pairwise_cons.1 u2).1 z hz
        omega
    · rw [List.drop_of_length_le hge] at hz; cases hz
  refine ⟨?_, fun t => ?_, fun z hz => ?_, ?_⟩
  · rw [List.append_assoc, List.pairwise_append]
    refine ⟨u1, ?_, fun p hp q hq => ?_⟩
    · rw [List.singleton_append, List.pairwise_cons]
      exact ⟨h2', u2⟩
    · rcases List.mem_append.1 hq with hq | hq
      · rw [List.mem_singleton.1 hq]; exact h1 p hp
      · exact u3 p hp q hq
  · rw [List.append_assoc, mem_append, mem_append, mem_single, mem_snoc hx, ← h.mem, mem_cut (l := R) k]
    constructor
    · rintro (h | h | h)
      · exact .inl (.inl h)
      · exact .inr h
      · exact .inl (.inr h)
    · rintro ((h | h) | h)
      · exact .inl h
      · exact .inr (.inr h)
      · exact .inr (.inl h)
  · rw [List.append_assoc] at hz
    rcases List.mem_append.1 hz with hz | hz
    · exact h.sub z (List.mem_of_mem_take hz)
    · rcases List.mem_append.1 hz with hz | hz
      · rw [List.mem_singleton.1 hz]; exact List.mem_of_getElem? hx
      · exact h.sub z (List.mem_of_mem_drop hz)
  · have := h.len
    rw [List.length_append, List.length_append, List.length_take, List.length_drop, List.length_singleton]; omega

/-- the document's joined -/
structure JO (s R : List Sp) (i : Nat) : Prop where
  snd : Snd R
  mem : ∀ t, Mem t R ↔ Mem t (s.take i)
  low : ∀ z ∈ R, ∀ x ∈ s.drop i, z.1 ≤ x.1
  len : R.length ≤ i
theorem JO.zero (s : List Sp) : JO s [] 0 := ⟨Snd.nil, fun t => by simp, (fun _ h => by cases h), by simp⟩
theorem JO.put {s R : List Sp} {i : Nat} {x : Sp} (h : JO s R i) (hup : s.Pairwise (fun x y => x.1 ≤ y.1)) (hx : s[i]? = some x) (hxx : x.1 ≤ x.2) (hfar : ∀ z ∈ R, z.2 + 1 < x.1) : JO s (R ++ [x]) (i + 1) := by
  have hd := List.Pairwise.sublist (List.drop_sublist i s) hup
  rw [drop_at hx] at hd
  refine ⟨snd_put h.snd hxx hfar, fun t => by rw [mem_append, mem_single, mem_snoc hx, h.mem], fun z hz y hy => ?_, by rw [List.length_append, List.length_singleton]; have := h.len; omega⟩
  rcases List.mem_append.1 hz with hz | hz
  · exact h.low z hz y (by rw [drop_at hx]; exact List.mem_cons_of_mem _ hy)
  · rw [List.mem_singleton.1 hz]
    exact (List.pairwise_cons.1 hd).1 y hy
theorem JO.join {s O : List Sp} {i : Nat} {x y : Sp} (h : JO s (O ++ [y]) i) (hx : s[i]? = some x) (hxx : x.1 ≤ x.2) (ht : x.1 ≤ y.2 + 1) : JO s (O ++ [(y.1, max y.2 x.2)]) (i + 1) := by
  obtain ⟨h1, h2, h3⟩ := snd_append.1 h.snd
  have hyy := snd_single.1 h2
  have hyx := h.low y (by simp) x (by rw [drop_at hx]; simp)
  refine ⟨snd_append.2 ⟨h1, snd_single.2 (by simp only; omega), fun z hz w hw => ?_⟩, fun t => ?_, fun z hz w hw => ?_, ?_⟩
  · rw [List.mem_singleton.1 hw]
    exact h3 z hz y (by simp)
  · have hm := h.mem t
    rw [mem_append, mem_single] at hm
    rw [mem_append, mem_single, mem_snoc hx, ← hm]
    simp only
    constructor
    · rintro (h | h)
      · exact .inl (.inl h)
      · by_cases c : t ≤ y.2
        · exact .inl (.inr ⟨h.1, c⟩)
        · exact .inr (by omega)
    · rintro ((h | h) | h)
      · exact .inl h
      · exact .inr (by omega)
      · exact .inr (by omega)
  · have hw' : w ∈ s.drop i := by rw [drop_at hx]; exact List.mem_cons_of_mem _ hw
    rcases List.mem_append.1 hz with hz | hz
    · exact h.low z (List.mem_append_left _ hz) w hw'
    · rw [List.mem_singleton.1 hz]
      exact h.low y (by simp) w hw'
  · have := h.len
    simp only [List.length_append, List.length_singleton] at this ⊢
    omega
theorem far_last {O : List Sp} {x y : Sp} (h : Snd (O ++ [y])) (hf : y.2 + 1 < x.1) : ∀ z ∈ O ++ [y], z.2 + 1 < x.1 := fun z hz => by
  obtain ⟨h1, h2, h3⟩ := snd_append.1 h
  have hyy := snd_single.1 h2
  rcases List.mem_append.1 hz with hz | hz
  · have := h3 z hz y (by simp)
    omega
  · rw [List.mem_singleton.1 hz]; exact hf

/-- the document's Drop -/
structure DO (l : List Sp) (s : Sp) (R : List Sp) (i : Nat) : Prop where
  snd : Snd R
  mem : ∀ t, Mem t R ↔ Mem t (l.take i) ∧ ¬ (s.1 ≤ t ∧ t ≤ s.2)
  low : ∀ z ∈ R, ∀ x ∈ l.drop i, z.2 + 1 < x.1
  len : R.length ≤ 2 * i
theorem DO.zero (l : List Sp) (s : Sp) : DO l s [] 0 := ⟨Snd.nil, fun t => by simp [mem_nil], (fun _ h => by cases h), by simp⟩
def dropP (s x : Sp) : List Sp := if x.2 < s.1 ∨ s.2 < x.1 then [x] else dropM s x x
theorem dropP_ok {s x : Sp} (hs : s.1 ≤ s.2) (hx : x.1 ≤ x.2) : Snd (dropP s x) ∧ (∀ t, Mem t (dropP s x) ↔ (x.1 ≤ t ∧ t ≤ x.2) ∧ ¬ (s.1 ≤ t ∧ t ≤ s.2)) ∧ (∀ z ∈ dropP s x, x.1 ≤ z.1 ∧ z.2 ≤ x.2) ∧ (dropP s x).length ≤ 2 := by
  unfold dropP
  by_cases c : x.2 < s.1 ∨ s.2 < x.1
  · rw [if_pos c]
    refine ⟨snd_single.2 hx, fun t => by rw [mem_single]; omega, fun z hz => ?_, by simp⟩
    rw [List.mem_singleton.1 hz]; exact ⟨Int.le_refl _, Int.le_refl _⟩
  · rw [if_neg c]
    obtain ⟨m1, m2, m3⟩ := dropM_ok hs hx hx (by omega) (by omega)
    refine ⟨m1, fun t => by rw [m2]; omega, fun z hz => ?_, ?_⟩
    · have h1 := m1.1 z hz
      have a1 := (m2 z.1).1 ⟨z, hz, Int.le_refl _, h1⟩
      have a2 := (m2 z.2).1 ⟨z, hz, h1, Int.le_refl _⟩
      omega
    · unfold dropM
      split <;> split <;> simp
theorem DO.step {l : List Sp} {s : Sp} {R : List Sp} {i : Nat} {x : Sp} (h : DO l s R i) (hl : Snd l) (hs : s.1 ≤ s.2) (hx : l[i]? = some x) : DO l s (R ++ dropP s x) (i + 1) := by
  have hx1 := snd_drop_lt hl hx
  obtain ⟨p1, p2, p3, p4⟩ := dropP_ok hs hx1.1
  refine ⟨snd_append.2 ⟨h.snd, p1, fun z hz y hy => ?_⟩, fun t => ?_, fun z hz y hy => ?_, ?_⟩
  · have := h.low z hz x (by rw [drop_at hx]; simp)
    have := p3 y hy
    omega
  · rw [mem_append, h.mem, p2, mem_snoc hx]
    constructor
    · rintro (⟨h1, h2⟩ | ⟨h1, h2⟩)
      · exact ⟨.inl h1, h2⟩
      · exact ⟨.inr h1, h2⟩
    · rintro ⟨h1 | h1, h2⟩
      · exact .inl ⟨h1, h2⟩
      · exact .inr ⟨h1, h2⟩
  · rcases List.mem_append.1 hz with hz | hz
    · exact h.low z hz y (by rw [drop_at hx]; exact List.mem_cons_of_mem _ hy)
    · have := hx1.2 y hy
      have := p3 z hz
      omega
  · have := h.len
    rw [List.length_append]; omega

end Go.Proofs.Ytfbnobhecfgahaa
