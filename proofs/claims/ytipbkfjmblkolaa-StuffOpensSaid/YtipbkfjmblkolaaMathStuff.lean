/- Plain mathematics of wrapped bytes: part by part; what is opened is wrapped just so. -/
namespace Go.Proofs.Ytipbkfjmblkolaa

/-- a part, written -/
def partE (p : List UInt8) : List UInt8 := if p.length ≤ 253 then UInt8.ofNat (p.length + 1) :: p else 255 :: (p.take 254 ++ partE (p.drop 254))
termination_by p.length
decreasing_by simp; omega
/-- what stands between the noughts -/
def parts0 : List UInt8 → List (List UInt8)
  | [] => [[]]
  | b :: l => if b = 0 then [] :: parts0 l else match parts0 l with
    | [] => [[b]]
    | p :: ps => (b :: p) :: ps
def encL (l : List UInt8) : List UInt8 := (parts0 l).flatMap partE
def wrapL (l : List UInt8) : List UInt8 := encL l ++ [0]
def NoZ (l : List UInt8) : Prop := ∀ x ∈ l, x ≠ 0

theorem partE_short {p : List UInt8} (h : p.length ≤ 253) : partE p = UInt8.ofNat (p.length + 1) :: p := by rw [partE, if_pos h]
theorem partE_long {p : List UInt8} (h : 254 ≤ p.length) : partE p = 255 :: (p.take 254 ++ partE (p.drop 254)) := by rw [partE, if_neg (by omega)]
theorem partE_front (a p : List UInt8) (h : a.length = 254) : partE (a ++ p) = 255 :: (a ++ partE p) := by
  rw [partE_long (by rw [List.length_append]; omega), List.take_append_of_le_length (by omega), List.take_of_length_le (by omega), List.drop_append_of_le_length (by omega), List.drop_of_length_le (by omega), List.nil_append]
theorem parts0_ne (l : List UInt8) : parts0 l ≠ [] := by
  cases l with
  | nil => simp [parts0]
  | cons b l =>
    unfold parts0
    split
    · simp
    · split <;> simp
theorem parts0_noz {a : List UInt8} (h : NoZ a) : parts0 a = [a] := by
  induction a with
  | nil => rfl
  | cons b a ih =>
    unfold parts0
    rw [if_neg (h b List.mem_cons_self), ih fun x hx => h x (List.mem_cons_of_mem _ hx)]
theorem parts0_app {a : List UInt8} (h : NoZ a) (r : List UInt8) : parts0 (a ++ 0 :: r) = a :: parts0 r := by
  induction a with
  | nil => show parts0 (0 :: r) = _; rw [parts0, if_pos rfl]
  | cons b a ih =>
    show parts0 (b :: (a ++ 0 :: r)) = _
    rw [parts0, if_neg (h b List.mem_cons_self), ih fun x hx => h x (List.mem_cons_of_mem _ hx)]
theorem parts0_front {a : List UInt8} (h : NoZ a) (r : List UInt8) : ∃ p ps, parts0 r = p :: ps ∧ parts0 (a ++ r) = (a ++ p) :: ps := by
  induction a with
  | nil =>
    cases hr : parts0 r with
    | nil => exact absurd hr (parts0_ne r)
    | cons p ps => exact ⟨p, ps, rfl, hr⟩
  | cons b a ih =>
    obtain ⟨p, ps, h1, h2⟩ := ih fun x hx => h x (List.mem_cons_of_mem _ hx)
    refine ⟨p, ps, h1, ?_⟩
    show parts0 (b :: (a ++ r)) = _
    rw [parts0, if_neg (h b List.mem_cons_self), h2]
    rfl
/-- any bytes: no nought, or up to the first one -/
theorem zero_cases (l : List UInt8) : NoZ l ∨ ∃ a r, NoZ a ∧ l = a ++ 0 :: r := by
  induction l with
  | nil => exact .inl fun x h => by cases h
  | cons b l ih =>
    by_cases hb : b = 0
    · subst hb; exact .inr ⟨[], l, (fun x h => by cases h), rfl⟩
    · rcases ih with h | ⟨a, r, h, rfl⟩
      · exact .inl fun x hx => by
          rcases List.mem_cons.1 hx with rfl | hx
          · exact hb
          · exact h x hx
      · refine .inr ⟨b :: a, r, fun x hx => ?_, rfl⟩
        rcases List.mem_cons.1 hx with rfl | hx
        · exact hb
        · exact h x hx
theorem first_zero {a b r s : List UInt8} (ha : NoZ a) (hb : NoZ b) (h : a ++ 0 :: r = b ++ 0 :: s) : a = b ∧ r = s := by
  induction a generalizing b with
  | nil =>
    cases b with
    | nil => simpa using h
    | cons y b => simp at h; exact absurd h.1.symm (hb y List.mem_cons_self)
  | cons x a ih =>
    cases b with
    | nil => simp at h; exact absurd h.1 (ha x List.mem_cons_self)
    | cons y b =>
      simp at h
      obtain ⟨rfl, h⟩ := h
      obtain ⟨h1, h2⟩ := ih (fun z hz => ha z (List.mem_cons_of_mem _ hz)) (fun z hz => hb z (List.mem_cons_of_mem _ hz)) h
      exact ⟨by rw [h1], h2⟩
theorem encL_noz {a : List UInt8} (h : NoZ a) : encL a = partE a := by unfold encL; rw [parts0_noz h]; simp
theorem encL_app {a : List UInt8} (h : NoZ a) (r : List UInt8) : encL (a ++ 0 :: r) = partE a ++ encL r := by unfold encL; rw [parts0_app h]; simp
theorem encL_front {a : List UInt8} (h : NoZ a) (hl : a.length = 254) (r : List UInt8) : encL (a ++ r) = 255 :: (a ++ encL r) := by
  obtain ⟨p, ps, h1, h2⟩ := parts0_front h r
  unfold encL
  rw [h1, h2, List.flatMap_cons, List.flatMap_cons, partE_front a p hl]
  simp
theorem ofNat_ne {n : Nat} (h0 : 0 < n) (h : n < 256) : UInt8.ofNat n ≠ 0 := by
  intro e
  have := congrArg UInt8.toNat e
  rw [UInt8.toNat_ofNat_of_lt' h] at this
  simp at this
  omega
theorem partE_noz : ∀ (n : Nat) (p : List UInt8), p.length ≤ n → NoZ p → NoZ (partE p) := by
  intro n
  induction n with
  | zero =>
    intro p hn hz
    rw [partE_short (by omega)]
    intro x hx
    rcases List.mem_cons.1 hx with rfl | hx
    · exact ofNat_ne (by omega) (by omega)
    · exact hz x hx
  | succ n ih =>
    intro p hn hz
    by_cases h : p.length ≤ 253
    · rw [partE_short h]
      intro x hx
      rcases List.mem_cons.1 hx with rfl | hx
      · exact ofNat_ne (by omega) (by omega)
      · exact hz x hx
    · rw [partE_long (by omega)]
      intro x hx
      rcases List.mem_cons.1 hx with rfl | hx
      · decide
      · rcases List.mem_append.1 hx with hx | hx
        · exact hz x (List.mem_of_mem_take hx)
        · exact ih _ (by simp; omega) (fun y hy => hz y (List.mem_of_mem_drop hy)) x hx
theorem encL_z : ∀ (n : Nat) (l : List UInt8), l.length ≤ n → NoZ (encL l) := by
  intro n
  induction n with
  | zero =>
    intro l hn
    have : l = [] := List.eq_nil_of_length_eq_zero (by omega)
    subst this
    rw [encL_noz (fun x h => by cases h)]
    exact partE_noz 0 _ (by simp) fun x h => by cases h
  | succ n ih =>
    intro l hn
    rcases zero_cases l with h | ⟨a, r, h, rfl⟩
    · rw [encL_noz h]; exact partE_noz _ _ (Nat.le_refl _) h
    · rw [encL_app h]
      intro x hx
      rcases List.mem_append.1 hx with hx | hx
      · exact partE_noz _ _ (Nat.le_refl _) h x hx
      · exact ih r (by simp at hn; omega) x hx
theorem encL_noZ (l : List UInt8) : NoZ (encL l) := encL_z _ l (Nat.le_refl _)
theorem partE_ne (p : List UInt8) : partE p ≠ [] := by
  rw [partE]
  split <;> simp
theorem encL_ne (l : List UInt8) : encL l ≠ [] := by
  unfold encL
  cases h : parts0 l with
  | nil => exact absurd h (parts0_ne l)
  | cons p ps =>
    rw [List.flatMap_cons]
    intro e
    exact partE_ne p (List.append_eq_nil_iff.1 e).1

/-- code without noughts, read -/
def decP : Nat → List UInt8 → Option (List UInt8)
  | 0, _ => none
  | _ + 1, [] => none
  | f + 1, n :: t =>
    if t.length + 1 < n.toNat then none
    else if n.toNat ≤ 254 then (if t.length + 1 = n.toNat then some (t.take (n.toNat - 1)) else (decP f (t.drop (n.toNat - 1))).map (t.take (n.toNat - 1) ++ 0 :: ·))
    else (if t.length + 1 = n.toNat then none else (decP f (t.drop (n.toNat - 1))).map (t.take (n.toNat - 1) ++ ·))

/-- what is read is written just so -/
theorem dec_only : ∀ (f : Nat) (c o : List UInt8), NoZ c → decP f c = some o → encL o = c := by
  intro f
  induction f with
  | zero => intro c o _ h; simp [decP] at h
  | succ f ih =>
    intro c o hz h
    cases c with
    | nil => simp [decP] at h
    | cons n t =>
      unfold decP at h
      have hn0 : n.toNat ≠ 0 := fun e => hz n List.mem_cons_self (UInt8.toNat_inj.1 e)
      have hn := n.toNat_lt
      have hzt : NoZ t := fun x hx => hz x (List.mem_cons_of_mem _ hx)
      have hza : NoZ (t.take (n.toNat - 1)) := fun x hx => hzt x (List.mem_of_mem_take hx)
      have hzd : NoZ (t.drop (n.toNat - 1)) := fun x hx => hzt x (List.mem_of_mem_drop hx)
      have hcat := List.take_append_drop (n.toNat - 1) t
      split at h
      · cases h
      · rename_i h1
        have hla : (t.take (n.toNat - 1)).length = n.toNat - 1 := by rw [List.length_take]; omega
        have hofn : UInt8.ofNat (n.toNat - 1 + 1) = n := by rw [show n.toNat - 1 + 1 = n.toNat by omega]; exact UInt8.ofNat_toNat
        split at h
        · rename_i h2
          split at h
          · rename_i h3
            injection h with h
            subst h
            rw [encL_noz hza, partE_short (by omega), hla, hofn, List.take_of_length_le (by omega)]
          · rename_i h3
            obtain ⟨o', ho, rfl⟩ := Option.map_eq_some_iff.1 h
            rw [encL_app hza, partE_short (by omega), hla, hofn, ih _ _ hzd ho]
            show n :: (_ ++ _) = _
            rw [hcat]
        · rename_i h2
          split at h
          · cases h
          · obtain ⟨o', ho, rfl⟩ := Option.map_eq_some_iff.1 h
            have hn255 : n.toNat = 255 := by omega
            rw [encL_front hza (by omega), ih _ _ hzd ho, hcat]
            rw [show (255 : UInt8) = n from UInt8.toNat_inj.1 (by rw [hn255]; rfl)]
/-- what is written is read -/
theorem dec_part : ∀ (k : Nat) (p : List UInt8), p.length ≤ k → NoZ p → ∀ (t o : List UInt8) (f : Nat), ((t = [] ∧ o = []) ∨ (t ≠ [] ∧ ∃ f', f' + p.length + 1 ≤ f ∧ ∀ g, f' ≤ g → (decP g t).map (0 :: ·) = some o)) → p.length + 1 ≤ f → decP f (partE p ++ t) = some (p ++ o) := by
  intro k
  induction k with
  | zero =>
    intro p hk hz t o f ht hf
    have : p = [] := List.eq_nil_of_length_eq_zero (by omega)
    subst this
    obtain ⟨f, rfl⟩ : ∃ g, f = g + 1 := ⟨f - 1, by simp at hf; omega⟩
    rw [partE_short (by simp)]
    show decP (f + 1) (UInt8.ofNat 1 :: ([] ++ t)) = _
    unfold decP
    rw [show (UInt8.ofNat 1).toNat = 1 from rfl]
    rcases ht with ⟨rfl, rfl⟩ | ⟨hne, f', hf', hg⟩
    · simp
    · have hl : 0 < t.length := List.length_pos_iff.2 hne
      rw [if_neg (by simp), if_pos (by decide), if_neg (by simp; omega)]
      have := hg f (by simp at hf'; omega)
      simpa using this
  | succ k ih =>
    intro p hk hz t o f ht hf
    by_cases hs : p.length ≤ 253
    · obtain ⟨f, rfl⟩ : ∃ g, f = g + 1 := ⟨f - 1, by omega⟩
      rw [partE_short hs]
      show decP (f + 1) (UInt8.ofNat (p.length + 1) :: (p ++ t)) = _
      unfold decP
      rw [UInt8.toNat_ofNat_of_lt' (by show p.length + 1 < 256; omega), Nat.add_sub_cancel]
      rcases ht with ⟨rfl, rfl⟩ | ⟨hne, f', hf', hg⟩
      · rw [if_neg (by simp), if_pos (by omega), if_pos (by simp)]
        simp
      · have hl : 0 < t.length := List.length_pos_iff.2 hne
        rw [if_neg (by simp), if_pos (by omega), if_neg (by simp; omega)]
        have := hg f (by omega)
        rw [List.take_left, List.drop_left]
        obtain ⟨q, hq, rfl⟩ := Option.map_eq_some_iff.1 this
        rw [hq]; rfl
    · obtain ⟨f, rfl⟩ : ∃ g, f = g + 1 := ⟨f - 1, by omega⟩
      rw [partE_long (by omega)]
      have ha : (p.take 254).length = 254 := by rw [List.length_take]; omega
      have hcat := List.take_append_drop 254 p
      have hb := ih (p.drop 254) (by rw [List.length_drop]; omega) (fun x hx => hz x (List.mem_of_mem_drop hx)) t o f (by
        rcases ht with h | ⟨hne, f', hf', hg⟩
        · exact .inl h
        · exact .inr ⟨hne, f', by rw [List.length_drop]; omega, hg⟩) (by rw [List.length_drop]; omega)
      have hpos : 0 < (partE (p.drop 254)).length := List.length_pos_iff.2 (partE_ne _)
      show decP (f + 1) (255 :: ((p.take 254 ++ partE (p.drop 254)) ++ t)) = _
      unfold decP
      rw [show (255 : UInt8).toNat = 255 from rfl, List.append_assoc]
      rw [if_neg (by rw [List.length_append, ha]; omega), if_neg (by decide), if_neg (by rw [List.length_append, List.length_append, ha]; omega)]
      rw [List.take_append_of_le_length (by omega), List.take_of_length_le (by omega), List.drop_append_of_le_length (by omega), List.drop_of_length_le (by omega), List.nil_append, hb]
      show some (p.take 254 ++ (p.drop 254 ++ o)) = _
      rw [← List.append_assoc, hcat]
theorem dec_back : ∀ (n : Nat) (l : List UInt8), l.length ≤ n → ∀ f, l.length + 1 ≤ f → decP f (encL l) = some l := by
  intro n
  induction n with
  | zero =>
    intro l hn f hf
    have : l = [] := List.eq_nil_of_length_eq_zero (by omega)
    subst this
    rw [encL_noz (fun x h => by cases h)]
    have := dec_part 0 [] (by simp) (fun x h => by cases h) [] [] f (.inl ⟨rfl, rfl⟩) hf
    simpa using this
  | succ n ih =>
    intro l hn f hf
    rcases zero_cases l with h | ⟨a, r, h, rfl⟩
    · rw [encL_noz h]
      have := dec_part _ l (Nat.le_refl _) h [] [] f (.inl ⟨rfl, rfl⟩) hf
      simpa using this
    · rw [encL_app h]
      simp only [List.length_append, List.length_cons] at hn hf
      refine dec_part _ a (Nat.le_refl _) h (encL r) (0 :: r) f (.inr ⟨encL_ne r, r.length + 1, by omega, fun g hg => ?_⟩) (by omega)
      rw [ih r (by omega) g hg]; rfl
theorem encL_inj {a b : List UInt8} (h : encL a = encL b) : a = b := by
  have h1 := dec_back _ a (Nat.le_refl _) (a.length + b.length + 1) (by omega)
  have h2 := dec_back _ b (Nat.le_refl _) (a.length + b.length + 1) (by omega)
  rw [h, h2] at h1
  injection h1 with h1
  exact h1.symm
theorem partE_length : ∀ (n : Nat) (p : List UInt8), p.length ≤ n → (partE p).length ≤ p.length + 1 + p.length / 254 := by
  intro n
  induction n with
  | zero => intro p hn; rw [partE_short (by omega)]; simp
  | succ n ih =>
    intro p hn
    by_cases h : p.length ≤ 253
    · rw [partE_short h]; simp
    · rw [partE_long (by omega)]
      have h1 := ih (p.drop 254) (by rw [List.length_drop]; omega)
      rw [List.length_drop] at h1
      simp only [List.length_cons, List.length_append, List.length_take]
      omega
theorem encL_length : ∀ (n : Nat) (l : List UInt8), l.length ≤ n → (encL l).length ≤ l.length + 1 + l.length / 254 := by
  intro n
  induction n with
  | zero =>
    intro l hn
    have : l = [] := List.eq_nil_of_length_eq_zero (by omega)
    subst this
    rw [encL_noz (fun x h => by cases h)]
    exact partE_length 0 [] (by simp)
  | succ n ih =>
    intro l hn
    rcases zero_cases l with h | ⟨a, r, h, rfl⟩
    · rw [encL_noz h]; exact partE_length _ _ (Nat.le_refl _)
    · rw [encL_app h]
      have h1 := partE_length _ a (Nat.le_refl _)
      have h2 := ih r (by simp at hn; omega)
      simp only [List.length_append, List.length_cons]
      omega

end Go.Proofs.Ytipbkfjmblkolaa
