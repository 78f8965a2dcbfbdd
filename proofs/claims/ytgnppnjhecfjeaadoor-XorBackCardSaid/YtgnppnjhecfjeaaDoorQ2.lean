/- Joined: MathX, MathG, MathH. -/
import Derived.Test.YtgnppnjhecfjeaaDoorQ1
import Derived.Lib.TrailingZeros
import Derived.Lib.BitFns
import Derived.Lib.ItoaNum
set_option linter.unusedSimpArgs false
set_option linter.unusedVariables false
/- Plain mathematics of values of which only the bits that changed are written. -/
namespace Go.Proofs.YtgnppnjhecfjeaaDoor

/-- what is known -/
structure XV where
  has : Bool
  prev : Nat
  lead : Nat
  width : Nat
def xv0 : XV := ⟨false, 0, 0, 0⟩
def soundX (s : XV) : Bool := if s.has then decide (s.lead ≤ 31 ∧ s.lead + s.width ≤ 64 ∧ (0 < s.width ∨ s.lead = 0)) else decide (s.prev = 0 ∧ s.lead = 0 ∧ s.width = 0)
/-- all ones of d lie behind so many noughts, in so many bits -/
def holdsX (lead width d : Nat) : Bool := decide (d % 2 ^ (64 - lead - width) = 0 ∧ d < 2 ^ (64 - lead))
def leadX (d : Nat) : Nat := min (64 - Lib.bitLen d) 31
def widX (d : Nat) : Nat := 64 - leadX d - Lib.ctz 64 d
/-- how a value is written, what is known then -/
def encX (s : XV) (v : Nat) : List Bool × XV :=
  if s.has = false then (valB v 64, ⟨true, v, 0, 0⟩)
  else if v ^^^ s.prev = 0 then ([false], s)
  else if holdsX s.lead s.width (v ^^^ s.prev) then (true :: false :: valB ((v ^^^ s.prev) / 2 ^ (64 - s.lead - s.width)) s.width, ⟨true, v, s.lead, s.width⟩)
  else (true :: true :: (valB (leadX (v ^^^ s.prev)) 5 ++ valB (widX (v ^^^ s.prev) - 1) 6 ++ valB ((v ^^^ s.prev) / 2 ^ (64 - leadX (v ^^^ s.prev) - widX (v ^^^ s.prev))) (widX (v ^^^ s.prev))), ⟨true, v, leadX (v ^^^ s.prev), widX (v ^^^ s.prev)⟩)

theorem bitLen_two (d : Nat) (h0 : d ≠ 0) (h : d < 2 ^ 64) : 1 ≤ Lib.bitLen d ∧ Lib.bitLen d ≤ 64 ∧ 2 ^ (Lib.bitLen d - 1) ≤ d ∧ d < 2 ^ Lib.bitLen d := by
  have := Lib.bitLenAux_bounds 64 d h h0
  exact ⟨this.1, Lib.bitLen_le d 64 (Nat.le_refl _) h, this.2.1, this.2.2⟩
theorem ctz_two (d : Nat) (h0 : d ≠ 0) (h : d < 2 ^ 64) : ∃ m, d = 2 ^ Lib.ctz 64 d * (2 * m + 1) ∧ Lib.ctz 64 d < 64 := by
  unfold Lib.ctz
  rw [if_neg h0]
  exact Lib.ctzFrom_spec 64 d (by omega) h
theorem ctz_dvd (d : Nat) (h0 : d ≠ 0) (h : d < 2 ^ 64) (k : Nat) : d % 2 ^ k = 0 ↔ k ≤ Lib.ctz 64 d := by
  obtain ⟨m, hm, _⟩ := ctz_two d h0 h
  generalize Lib.ctz 64 d = c at *
  subst hm
  constructor
  · intro hd
    rcases Nat.lt_or_ge c k with hlt | hge
    · exfalso
      have h1 : 2 ^ (c + 1) ∣ 2 ^ c * (2 * m + 1) := Nat.dvd_trans (Nat.pow_dvd_pow 2 hlt) (Nat.dvd_of_mod_eq_zero hd)
      rw [Nat.pow_succ] at h1
      have := Nat.dvd_of_mul_dvd_mul_left (Nat.two_pow_pos c) h1
      omega
    · exact hge
  · intro hk
    exact Nat.mod_eq_zero_of_dvd (Nat.dvd_trans (Nat.pow_dvd_pow 2 hk) (Nat.dvd_mul_right _ _))
theorem bitLen_lt (d : Nat) (h0 : d ≠ 0) (h : d < 2 ^ 64) (k : Nat) : d < 2 ^ k ↔ Lib.bitLen d ≤ k := by
  obtain ⟨h1, h2, h3, h4⟩ := bitLen_two d h0 h
  constructor
  · intro hd
    rcases Nat.lt_or_ge k (Lib.bitLen d) with hlt | hge
    · have := Nat.pow_le_pow_right (show 0 < 2 by decide) (show k ≤ Lib.bitLen d - 1 by omega)
      omega
    · exact hge
  · intro hk
    have := Nat.pow_le_pow_right (show 0 < 2 by decide) hk
    omega
theorem ctz_lt_len (d : Nat) (h0 : d ≠ 0) (h : d < 2 ^ 64) : Lib.ctz 64 d < Lib.bitLen d := by
  obtain ⟨m, hm, hc⟩ := ctz_two d h0 h
  have h4 := (bitLen_two d h0 h).2.2.2
  rcases Nat.lt_or_ge (Lib.ctz 64 d) (Lib.bitLen d) with hlt | hge
  · exact hlt
  · exfalso
    have h5 := Nat.pow_le_pow_right (show 0 < 2 by decide) hge
    have h6 : 2 ^ Lib.ctz 64 d * 1 ≤ 2 ^ Lib.ctz 64 d * (2 * m + 1) := Nat.mul_le_mul_left _ (by omega)
    omega
/-- the band that is written for a difference -/
theorem narrow_facts (d : Nat) (h0 : d ≠ 0) (h : d < 2 ^ 64) : leadX d ≤ 31 ∧ 1 ≤ widX d ∧ leadX d + widX d ≤ 64 ∧ 64 - leadX d - widX d = Lib.ctz 64 d ∧ holdsX (leadX d) (widX d) d = true := by
  have h1 := bitLen_two d h0 h
  have h2 := ctz_lt_len d h0 h
  have hc := (ctz_two d h0 h).choose_spec.2
  have hl : leadX d ≤ 64 - Lib.bitLen d := Nat.min_le_left _ _
  have hl2 : leadX d ≤ 31 := Nat.min_le_right _ _
  have e : 64 - leadX d - widX d = Lib.ctz 64 d := by unfold widX; omega
  refine ⟨hl2, by unfold widX; omega, by unfold widX; omega, e, ?_⟩
  unfold holdsX
  rw [e, decide_eq_true_eq]
  exact ⟨(ctz_dvd d h0 h _).2 (Nat.le_refl _), (bitLen_lt d h0 h _).2 (by omega)⟩
theorem xor_back (v p : Nat) : (v ^^^ p) ^^^ p = v := by rw [Nat.xor_assoc, Nat.xor_self, Nat.xor_zero]
theorem xor_lt64 {v p : Nat} (hv : v < 2 ^ 64) (hp : p < 2 ^ 64) : v ^^^ p < 2 ^ 64 := Nat.xor_lt_two_pow hv hp
theorem xor_zero_iff {v p : Nat} : v ^^^ p = 0 ↔ v = p := by
  constructor
  · intro h
    have := xor_back v p
    rw [h, Nat.zero_xor] at this
    exact this.symm
  · rintro rfl; exact Nat.xor_self _
/-- the part in the band, and back -/
theorem band_back {L W d : Nat} (hLW : L + W ≤ 64) (h : holdsX L W d = true) : d / 2 ^ (64 - L - W) * 2 ^ (64 - L - W) = d ∧ d / 2 ^ (64 - L - W) < 2 ^ W := by
  unfold holdsX at h
  rw [decide_eq_true_eq] at h
  refine ⟨Nat.div_mul_cancel (Nat.dvd_of_mod_eq_zero h.1), ?_⟩
  rw [Nat.div_lt_iff_lt_mul (Nat.two_pow_pos _), ← Nat.pow_add, show W + (64 - L - W) = 64 - L by omega]
  exact h.2
theorem band_holds {L W n : Nat} (hLW : L + W ≤ 64) (h : n < 2 ^ W) : holdsX L W (n * 2 ^ (64 - L - W)) = true ∧ n * 2 ^ (64 - L - W) / 2 ^ (64 - L - W) = n ∧ n * 2 ^ (64 - L - W) < 2 ^ 64 := by
  have h1 : n * 2 ^ (64 - L - W) < 2 ^ (64 - L) := by
    have := Nat.mul_lt_mul_of_pos_right h (Nat.two_pow_pos (64 - L - W))
    rwa [← Nat.pow_add, show W + (64 - L - W) = 64 - L by omega] at this
  refine ⟨?_, Nat.mul_div_cancel _ (Nat.two_pow_pos _), Nat.lt_of_lt_of_le h1 (Nat.pow_le_pow_right (by decide) (by omega))⟩
  unfold holdsX
  rw [decide_eq_true_eq]
  exact ⟨Nat.mul_mod_left _ _, h1⟩

/-- what a front of bits would be: the value, how many bits, what is known then; an error -/
def decX (s : XV) (r : List Bool) : Nat × Nat × XV × Nat :=
  if s.has = false then (if r.length < 64 then (0, 0, xv0, 10) else (numB (r.take 64), 64, ⟨true, numB (r.take 64), 0, 0⟩, 0))
  else match r with
  | [] => (0, 0, xv0, 10)
  | false :: _ => (s.prev, 1, s, 0)
  | [true] => (0, 0, xv0, 10)
  | true :: false :: r =>
    if r.length < s.width then (0, 0, xv0, 10)
    else if numB (r.take s.width) = 0 then (0, 0, xv0, 30)
    else (numB (r.take s.width) * 2 ^ (64 - s.lead - s.width) ^^^ s.prev, 2 + s.width, ⟨true, numB (r.take s.width) * 2 ^ (64 - s.lead - s.width) ^^^ s.prev, s.lead, s.width⟩, 0)
  | true :: true :: r =>
    if r.length < 11 then (0, 0, xv0, 10)
    else if 64 < numB (r.take 5) + (numB ((r.drop 5).take 6) + 1) then (0, 0, xv0, 30)
    else if r.length < 11 + (numB ((r.drop 5).take 6) + 1) then (0, 0, xv0, 10)
    else if holdsX s.lead s.width (numB ((r.drop 11).take (numB ((r.drop 5).take 6) + 1)) * 2 ^ (64 - numB (r.take 5) - (numB ((r.drop 5).take 6) + 1))) = true ∨
        ¬ (leadX (numB ((r.drop 11).take (numB ((r.drop 5).take 6) + 1)) * 2 ^ (64 - numB (r.take 5) - (numB ((r.drop 5).take 6) + 1))) = numB (r.take 5) ∧
           widX (numB ((r.drop 11).take (numB ((r.drop 5).take 6) + 1)) * 2 ^ (64 - numB (r.take 5) - (numB ((r.drop 5).take 6) + 1))) = numB ((r.drop 5).take 6) + 1) then (0, 0, xv0, 30)
    else (numB ((r.drop 11).take (numB ((r.drop 5).take 6) + 1)) * 2 ^ (64 - numB (r.take 5) - (numB ((r.drop 5).take 6) + 1)) ^^^ s.prev, 13 + (numB ((r.drop 5).take 6) + 1),
      ⟨true, numB ((r.drop 11).take (numB ((r.drop 5).take 6) + 1)) * 2 ^ (64 - numB (r.take 5) - (numB ((r.drop 5).take 6) + 1)) ^^^ s.prev, numB (r.take 5), numB ((r.drop 5).take 6) + 1⟩, 0)

theorem enc_sound {s : XV} {v : Nat} (hs : soundX s = true) (hp : s.prev < 2 ^ 64) (hv : v < 2 ^ 64) : soundX (encX s v).2 = true ∧ (encX s v).2.prev = v ∧ (encX s v).2.has = true ∧ (encX s v).2.lead ≤ 31 ∧ (encX s v).2.width ≤ 64 := by
  unfold encX
  split
  · exact ⟨rfl, rfl, rfl, Nat.zero_le _, Nat.zero_le _⟩
  · rename_i hh
    have hh : s.has = true := by simpa using hh
    have hs' := hs
    unfold soundX at hs'
    rw [hh] at hs'
    simp only [if_true, decide_eq_true_eq] at hs'
    split
    · rename_i h0
      exact ⟨hs, (xor_zero_iff.1 h0).symm, hh, hs'.1, by simp only; omega⟩
    · rename_i h0
      split
      · refine ⟨?_, rfl, rfl, hs'.1, by simp only; omega⟩
        unfold soundX
        simp only [if_true, decide_eq_true_eq]
        exact hs'
      · obtain ⟨n1, n2, n3, _⟩ := narrow_facts _ h0 (xor_lt64 hv hp)
        refine ⟨?_, rfl, rfl, n1, by simp only; omega⟩
        unfold soundX
        simp only [if_true, decide_eq_true_eq]
        exact ⟨n1, n3, .inl (by omega)⟩
theorem enc_len {s : XV} {v : Nat} (hs : soundX s = true) (hp : s.prev < 2 ^ 64) (hv : v < 2 ^ 64) : 1 ≤ (encX s v).1.length ∧ (encX s v).1.length ≤ 77 := by
  unfold encX
  split
  · simp [valB_length]
  · rename_i hh
    have hh : s.has = true := by simpa using hh
    unfold soundX at hs
    rw [hh] at hs
    simp only [if_true, decide_eq_true_eq] at hs
    split
    · simp
    · rename_i h0
      obtain ⟨n1, n2, n3, _⟩ := narrow_facts _ h0 (xor_lt64 hv hp)
      split
      · simp [valB_length]; omega
      · simp [valB_length]; omega
theorem enc_same {s : XV} {v : Nat} (hs : soundX s = true) (hp : s.prev < 2 ^ 64) (hv : v < 2 ^ 64) : encX (encX s v).2 v = ([false], (encX s v).2) := by
  obtain ⟨_, h2, h3, _⟩ := enc_sound hs hp hv
  generalize (encX s v).2 = t at *
  unfold encX
  rw [h3, if_neg (by decide), h2, if_pos (Nat.xor_self _)]

theorem take_lt (r : List Bool) (n : Nat) : numB (r.take n) < 2 ^ n := by
  have h := numB_lt (r.take n)
  exact Nat.lt_of_lt_of_le h (Nat.pow_le_pow_right (by decide) (by rw [List.length_take]; exact Nat.min_le_left _ _))
theorem valB_take {r : List Bool} {n : Nat} (h : n ≤ r.length) : valB (numB (r.take n)) n = r.take n := by
  have := valB_numB (r.take n)
  rwa [List.length_take, Nat.min_eq_left h] at this
theorem numB_front (v n : Nat) (r : List Bool) (h : v < 2 ^ n) : numB ((valB v n ++ r).take n) = v := by
  rw [List.take_left' (valB_length v n), numB_valB, Nat.mod_eq_of_lt h]
/-- what is read is written just so -/
theorem dec_only {s : XV} {r : List Bool} {v n : Nat} {t : XV} (hs : soundX s = true) (hp : s.prev < 2 ^ 64) (h : decX s r = (v, n, t, 0)) :
    n ≤ r.length ∧ encX s v = (r.take n, t) ∧ v < 2 ^ 64 ∧ 1 ≤ n ∧ n ≤ 77 := by
  unfold decX at h
  split at h
  · rename_i hh
    split at h
    · simp at h
    · rename_i hl
      simp only [Prod.mk.injEq] at h
      obtain ⟨rfl, rfl, rfl, _⟩ := h
      refine ⟨by omega, ?_, take_lt r 64, by decide, by decide⟩
      unfold encX
      rw [if_pos hh, valB_take (by omega)]
  · rename_i hh
    have hh : s.has = true := by simpa using hh
    have hs' := hs
    unfold soundX at hs'
    rw [hh] at hs'
    simp only [if_true, decide_eq_true_eq] at hs'
    match r, h with
    | [], h => simp at h
    | [true], h => simp at h
    | false :: r, h =>
      simp only [Prod.mk.injEq] at h
      obtain ⟨rfl, rfl, rfl, _⟩ := h
      refine ⟨by simp, ?_, hp, by decide, by decide⟩
      unfold encX
      rw [if_neg (by rw [hh]; decide), if_pos (Nat.xor_self _)]
      rfl
    | true :: false :: r, h =>
      simp only at h
      split at h
      · simp at h
      · rename_i hl
        split at h
        · simp at h
        · rename_i hz
          simp only [Prod.mk.injEq] at h
          obtain ⟨rfl, rfl, rfl, _⟩ := h
          have hlt := take_lt r s.width
          obtain ⟨b1, b2, b3⟩ := band_holds (L := s.lead) (W := s.width) hs'.2.1 hlt
          have hd : (numB (r.take s.width) * 2 ^ (64 - s.lead - s.width) ^^^ s.prev) ^^^ s.prev = numB (r.take s.width) * 2 ^ (64 - s.lead - s.width) := xor_back _ _
          refine ⟨by simp; omega, ?_, xor_lt64 b3 hp, by omega, by omega⟩
          unfold encX
          rw [if_neg (by rw [hh]; decide), hd, if_neg (by have := Nat.two_pow_pos (64 - s.lead - s.width); exact fun e => hz ((Nat.mul_eq_zero.1 e).resolve_right (by omega))), if_pos b1, b2, valB_take (by omega), Nat.add_comm 2]
          rfl
    | true :: true :: r, h =>
      simp only at h
      generalize hL : numB (r.take 5) = L at h
      generalize hW : numB ((r.drop 5).take 6) + 1 = W at h
      have hL5 := take_lt r 5
      have hW6 := take_lt (r.drop 5) 6
      split at h
      · simp at h
      · rename_i h11
        split at h
        · simp at h
        · rename_i hLW
          split at h
          · simp at h
          · rename_i hl
            have hlt := take_lt (r.drop 11) W
            generalize hn : numB ((r.drop 11).take W) = m at h hlt
            obtain ⟨b1, b2, b3⟩ := band_holds (L := L) (W := W) (by omega) hlt
            split at h
            · simp at h
            · rename_i hnew
              have hnew1 : holdsX s.lead s.width (m * 2 ^ (64 - L - W)) = false := by
                cases hx : holdsX s.lead s.width (m * 2 ^ (64 - L - W)) with
                | false => rfl
                | true => exact absurd (Or.inl hx) hnew
              have hnew2 : leadX (m * 2 ^ (64 - L - W)) = L ∧ widX (m * 2 ^ (64 - L - W)) = W := by
                rcases Classical.em (leadX (m * 2 ^ (64 - L - W)) = L ∧ widX (m * 2 ^ (64 - L - W)) = W) with hx | hx
                · exact hx
                · exact absurd (Or.inr hx) hnew
              simp only [Prod.mk.injEq] at h
              obtain ⟨rfl, rfl, rfl, _⟩ := h
              have hd : (m * 2 ^ (64 - L - W) ^^^ s.prev) ^^^ s.prev = m * 2 ^ (64 - L - W) := xor_back _ _
              have hd0 : m * 2 ^ (64 - L - W) ≠ 0 := fun e => by
                rw [e] at hnew1
                unfold holdsX at hnew1
                rw [decide_eq_false_iff_not] at hnew1
                exact hnew1 ⟨Nat.zero_mod _, Nat.two_pow_pos _⟩
              refine ⟨by simp; omega, ?_, xor_lt64 b3 hp, by omega, by omega⟩
              unfold encX
              rw [if_neg (by rw [hh]; decide), hd, if_neg hd0, if_neg (by rw [hnew1]; decide), hnew2.1, hnew2.2, b2]
              have e1 : valB L 5 = r.take 5 := by rw [← hL]; exact valB_take (by omega)
              have e2 : valB (W - 1) 6 = (r.drop 5).take 6 := by rw [← hW, Nat.add_sub_cancel]; exact valB_take (by rw [List.length_drop]; omega)
              have e3 : valB m W = (r.drop 11).take W := by rw [← hn]; exact valB_take (by rw [List.length_drop]; omega)
              rw [e1, e2, e3]
              have e4 : (true :: true :: r).take (13 + W) = true :: true :: r.take (11 + W) := by rw [show 13 + W = (11 + W) + 1 + 1 by omega]; rfl
              have e5 : r.take 5 ++ (r.drop 5).take 6 ++ (r.drop 11).take W = r.take (11 + W) := by
                rw [show 11 + W = 5 + 6 + W by omega, List.take_add, List.take_add]
              rw [e4, e5]

/-- what is written is read -/
theorem dec_enc {s : XV} {v : Nat} (hs : soundX s = true) (hp : s.prev < 2 ^ 64) (hv : v < 2 ^ 64) (q : List Bool) : decX s ((encX s v).1 ++ q) = (v, (encX s v).1.length, (encX s v).2, 0) := by
  unfold encX
  by_cases hh : s.has = false
  · rw [if_pos hh]
    unfold decX
    rw [if_pos hh]
    simp only [List.length_append, valB_length]
    rw [if_neg (by omega), numB_front _ _ _ hv]
  · rw [if_neg hh]
    have hh' : s.has = true := by simpa using hh
    have hs' := hs
    unfold soundX at hs'
    rw [hh'] at hs'
    simp only [if_true, decide_eq_true_eq] at hs'
    by_cases h0 : v ^^^ s.prev = 0
    · rw [if_pos h0]
      unfold decX
      rw [if_neg hh]
      simp only [List.cons_append, List.nil_append, List.length_singleton]
      rw [xor_zero_iff.1 h0]
    · rw [if_neg h0]
      have hd := xor_lt64 hv hp
      have hx : (v ^^^ s.prev) ^^^ s.prev = v := xor_back _ _
      generalize v ^^^ s.prev = d at *
      by_cases hb : holdsX s.lead s.width d = true
      · rw [if_pos hb]
        obtain ⟨c1, c2⟩ := band_back hs'.2.1 hb
        unfold decX
        rw [if_neg hh]
        simp only [List.cons_append, List.length_cons, valB_length, List.length_append]
        rw [if_neg (by omega), numB_front _ _ _ c2, if_neg (by intro e; rw [e, Nat.zero_mul] at c1; exact h0 c1.symm), c1, hx]
        simp; omega
      · rw [if_neg hb]
        obtain ⟨n1, n2, n3, n4, n5⟩ := narrow_facts d h0 hd
        obtain ⟨c1, c2⟩ := band_back n3 n5
        generalize hL : leadX d = L at *
        generalize hW : widX d = W at *
        unfold decX
        rw [if_neg hh]
        simp only [List.cons_append, List.length_cons, valB_length, List.length_append]
        have e1 : numB ((valB L 5 ++ valB (W - 1) 6 ++ valB (d / 2 ^ (64 - L - W)) W ++ q).take 5) = L := by
          rw [List.append_assoc, List.append_assoc]; exact numB_front _ _ _ (by omega)
        have e2 : numB (((valB L 5 ++ valB (W - 1) 6 ++ valB (d / 2 ^ (64 - L - W)) W ++ q).drop 5).take 6) + 1 = W := by
          rw [List.append_assoc, List.append_assoc, List.drop_left' (valB_length _ _), numB_front _ _ _ (by omega)]; omega
        have e3 : numB (((valB L 5 ++ valB (W - 1) 6 ++ valB (d / 2 ^ (64 - L - W)) W ++ q).drop 11).take W) = d / 2 ^ (64 - L - W) := by
          rw [List.append_assoc, List.drop_left' (by simp [valB_length]), numB_front _ _ _ c2]
        rw [e1, e2, e3, if_neg (by omega), if_neg (by omega), if_neg (by omega), c1, if_neg (by
          rintro (h | h)
          · exact hb h
          · exact h ⟨hL, hW⟩), hx]
        simp; omega

end Go.Proofs.YtgnppnjhecfjeaaDoor

/- Plain mathematics: bits read one after another; layer 3's decoding in the program's own steps. -/
namespace Go.Proofs.YtgnppnjhecfjeaaDoor

theorem numB_app (xs ys : List Bool) : numB (xs ++ ys) = numB xs * 2 ^ ys.length + numB ys := by
  induction ys using snoc_ind with
  | h0 => simp [numB_nil]
  | h1 ys b ih =>
    rw [← List.append_assoc, numB_snoc, numB_snoc, ih, List.length_append]
    simp only [List.length_cons, List.length_nil, Nat.zero_add, Nat.pow_succ]
    rw [← Nat.mul_assoc]
    omega

theorem cutl_bitl (l : List UInt8) (m a d : Nat) (h : a + d ≤ m) : cutl l a d = ((bitl l m).drop a).take d := by
  apply List.ext_getElem
  · rw [cutl_length, List.length_take, List.length_drop, bitl_length]; omega
  · intro i h1 h2
    simp [cutl, bitl]

theorem get_front {l : List UInt8} {m a d : Nat} (hs : soundB l (m : Int) = true) (ha : a ≤ m) (hd : d ≤ 64) :
    getSpec l (m : Int) (a : Int) (d : Int) = if ((bitl l m).drop a).length < d then (0, 10) else (numB (((bitl l m).drop a).take d), 0) := by
  unfold getSpec
  rw [if_neg (by rw [hs]; decide), if_neg (by omega), List.length_drop, bitl_length]
  by_cases h : m - a < d
  · rw [if_pos (by omega), if_pos h]
  · rw [if_neg (by omega), if_neg h, Int.toNat_natCast, Int.toNat_natCast, cutl_bitl l m a d (by omega)]

theorem get_out {l : List UInt8} {m : Nat} {a d : Int} (hs : soundB l (m : Int) = true) (ha : a < 0 ∨ (m : Int) < a) (hd : 0 ≤ d ∧ d ≤ 64) : getSpec l (m : Int) a d = (0, 10) := by
  unfold getSpec
  rw [if_neg (by rw [hs]; decide), if_neg (by omega), if_pos (by omega)]

/-- eleven bits: five and six -/
theorem numB_eleven (r : List Bool) (h : 11 ≤ r.length) : numB (r.take 11) / 64 = numB (r.take 5) ∧ numB (r.take 11) % 64 = numB ((r.drop 5).take 6) := by
  have e : r.take 11 = r.take 5 ++ (r.drop 5).take 6 := by rw [← List.take_add]
  have h6 : ((r.drop 5).take 6).length = 6 := by simp; omega
  have hl := numB_lt ((r.drop 5).take 6)
  rw [e, numB_app, h6]
  rw [h6] at hl
  omega

/-- a difference in the band that there is: it, how many bits, the band, the error -/
def oldD (L W : Nat) (r : List Bool) : Nat × Nat × Nat × Nat × Nat :=
  if r.length < W then (0, 0, 0, 0, 10) else if numB (r.take W) = 0 then (0, 0, 0, 0, 30) else (numB (r.take W) * 2 ^ (64 - L - W), W, L, W, 0)
/-- a band, and a difference in it -/
def newD (L W : Nat) (r : List Bool) : Nat × Nat × Nat × Nat × Nat :=
  if r.length < 11 then (0, 0, 0, 0, 10)
  else if 64 < numB (r.take 5) + (numB ((r.drop 5).take 6) + 1) then (0, 0, 0, 0, 30)
  else if r.length < 11 + (numB ((r.drop 5).take 6) + 1) then (0, 0, 0, 0, 10)
  else if holdsX L W (numB ((r.drop 11).take (numB ((r.drop 5).take 6) + 1)) * 2 ^ (64 - numB (r.take 5) - (numB ((r.drop 5).take 6) + 1))) = true ∨
        ¬ (leadX (numB ((r.drop 11).take (numB ((r.drop 5).take 6) + 1)) * 2 ^ (64 - numB (r.take 5) - (numB ((r.drop 5).take 6) + 1))) = numB (r.take 5) ∧
           widX (numB ((r.drop 11).take (numB ((r.drop 5).take 6) + 1)) * 2 ^ (64 - numB (r.take 5) - (numB ((r.drop 5).take 6) + 1))) = numB ((r.drop 5).take 6) + 1) then (0, 0, 0, 0, 30)
  else (numB ((r.drop 11).take (numB ((r.drop 5).take 6) + 1)) * 2 ^ (64 - numB (r.take 5) - (numB ((r.drop 5).take 6) + 1)), 11 + (numB ((r.drop 5).take 6) + 1), numB (r.take 5), numB ((r.drop 5).take 6) + 1, 0)
/-- the difference, how many bits, the band, the error -/
def decD (s : XV) (r : List Bool) : Nat × Nat × Nat × Nat × Nat :=
  if s.has = false then (if r.length < 64 then (0, 0, 0, 0, 10) else (numB (r.take 64), 64, 0, 0, 0))
  else match r with
  | [] => (0, 0, 0, 0, 10)
  | false :: _ => (0, 1, s.lead, s.width, 0)
  | [true] => (0, 0, 0, 0, 10)
  | true :: false :: r => ((oldD s.lead s.width r).1, 2 + (oldD s.lead s.width r).2.1, (oldD s.lead s.width r).2.2)
  | true :: true :: r => ((newD s.lead s.width r).1, 2 + (newD s.lead s.width r).2.1, (newD s.lead s.width r).2.2)

/-- what is known, out of the band -/
def upD (s : XV) (D : Nat × Nat × Nat × Nat × Nat) : Nat × Nat × XV × Nat :=
  if D.2.2.2.2 = 0 then (D.1 ^^^ s.prev, D.2.1, ⟨true, D.1 ^^^ s.prev, D.2.2.1, D.2.2.2.1⟩, 0) else (0, 0, xv0, D.2.2.2.2)

theorem decX_D {s : XV} (hs : soundX s = true) (r : List Bool) : decX s r = upD s (decD s r) := by
  unfold decX decD
  by_cases hh : s.has = false
  · rw [if_pos hh, if_pos hh]
    unfold soundX at hs
    rw [hh] at hs
    simp at hs
    split
    · rfl
    · unfold upD
      simp [hs.1]
  · rw [if_neg hh, if_neg hh]
    have ht : s.has = true := by simpa using hh
    rcases r with _ | ⟨_ | _, r⟩
    · rfl
    · obtain ⟨h, p, l, b⟩ := s
      simp at ht
      simp [upD, ht]
    · rcases r with _ | ⟨_ | _, r⟩
      · rfl
      · dsimp only
        by_cases h1 : r.length < s.width
        · simp only [oldD, h1, ↓reduceIte]; rfl
        · by_cases h2 : numB (r.take s.width) = 0
          · simp only [oldD, h1, h2, ↓reduceIte]; rfl
          · simp only [oldD, h1, h2, ↓reduceIte]; rfl
      · dsimp only
        by_cases h1 : r.length < 11
        · simp only [newD, h1, ↓reduceIte]; rfl
        · simp only [newD, h1, ↓reduceIte]
          generalize numB (r.take 5) = L at *
          generalize numB ((r.drop 5).take 6) = X at *
          by_cases h2 : 64 < L + (X + 1)
          · simp only [h2, ↓reduceIte]; rfl
          · simp only [h2, ↓reduceIte]
            by_cases h3 : r.length < 11 + (X + 1)
            · simp only [h3, ↓reduceIte]; rfl
            · simp only [h3, ↓reduceIte]
              generalize numB ((r.drop 11).take (X + 1)) * 2 ^ (64 - L - (X + 1)) = d at *
              by_cases h4 : holdsX s.lead s.width d = true ∨ ¬ (leadX d = L ∧ widX d = X + 1)
              · rw [if_pos h4, if_pos h4]; rfl
              · rw [if_neg h4, if_neg h4]
                simp only [upD, ↓reduceIte]
                rw [show 13 + (X + 1) = 2 + (11 + (X + 1)) by omega]

theorem decD_ok (s : XV) (r : List Bool) : (decD s r).2.2.2.2 ≤ 30 := by
  have hO : ∀ (L W : Nat) (r : List Bool), (oldD L W r).2.2.2.2 ≤ 30 := by
    intro L W r
    unfold oldD
    split
    · simp
    · split <;> simp
  have hN : ∀ (L W : Nat) (r : List Bool), (newD L W r).2.2.2.2 ≤ 30 := by
    intro L W r
    unfold newD
    split
    · simp
    · split
      · simp
      · split
        · simp
        · split <;> simp
  unfold decD
  split
  · split <;> simp
  · split
    · simp
    · simp
    · simp
    · exact hO _ _ _
    · exact hN _ _ _

/-- what the program reads, against the difference in the band that there is -/
theorem old_facts {l : List UInt8} {m a L W : Nat} (hs : soundB l (m : Int) = true) (ha : a ≤ m) (hLW : L + W ≤ 64) :
    ∃ g1 g2 : Nat, getSpec l (m : Int) (a : Int) (W : Int) = (g1, g2) ∧ g1 < 2 ^ W ∧ g2 ≤ 11 ∧ (oldD L W ((bitl l m).drop a)).2.2.2.2 = (if g2 = 0 ∧ g1 = 0 then 30 else g2) ∧
      ((oldD L W ((bitl l m).drop a)).2.2.2.2 = 0 → g1 * 2 ^ (64 - L - W) = (oldD L W ((bitl l m).drop a)).1 ∧ (oldD L W ((bitl l m).drop a)).2.1 = W ∧ (oldD L W ((bitl l m).drop a)).2.2.1 = L ∧ (oldD L W ((bitl l m).drop a)).2.2.2.1 = W) := by
  rw [get_front hs ha (by omega)]
  generalize (bitl l m).drop a = r
  by_cases h1 : r.length < W
  · refine ⟨0, 10, by rw [if_pos h1], Nat.two_pow_pos _, by omega, ?_, ?_⟩ <;> simp [oldD, h1]
  · have hl := numB_lt (r.take W)
    rw [List.length_take, Nat.min_eq_left (by omega)] at hl
    refine ⟨numB (r.take W), 0, by rw [if_neg h1], hl, by omega, ?_, ?_⟩ <;> by_cases h2 : numB (r.take W) = 0 <;> simp [oldD, h1, h2]

theorem shl_lt {g W L : Nat} (h : g < 2 ^ W) (hLW : L + W ≤ 64) : g * 2 ^ (64 - L - W) < 18446744073709551616 := by
  have h1 : g * 2 ^ (64 - L - W) < 2 ^ W * 2 ^ (64 - L - W) := Nat.mul_lt_mul_of_pos_right h (Nat.two_pow_pos _)
  rw [← Nat.pow_add, show W + (64 - L - W) = 64 - L by omega] at h1
  exact Nat.lt_of_lt_of_le h1 (show 2 ^ (64 - L) ≤ 2 ^ 64 from Nat.pow_le_pow_right (by decide) (by omega))

/-- what the program reads, against a band and a difference in it -/
theorem new_facts {l : List UInt8} {m a L W : Nat} (hs : soundB l (m : Int) = true) (ha : a ≤ m) :
    ∃ g1 g2 : Nat, getSpec l (m : Int) (a : Int) 11 = (g1, g2) ∧ ((g2 = 10 ∧ g1 = 0 ∧ newD L W ((bitl l m).drop a) = (0, 0, 0, 0, 10)) ∨
      (g2 = 0 ∧ g1 < 2048 ∧ a + 11 ≤ m ∧ ((64 < g1 / 64 + (g1 % 64 + 1) ∧ newD L W ((bitl l m).drop a) = (0, 0, 0, 0, 30)) ∨
        (g1 / 64 + (g1 % 64 + 1) ≤ 64 ∧ ∃ n1 n2 : Nat, getSpec l (m : Int) ((a + 11 : Nat) : Int) ((g1 % 64 + 1 : Nat) : Int) = (n1, n2) ∧ n1 < 2 ^ (g1 % 64 + 1) ∧
          ((n2 = 10 ∧ n1 = 0 ∧ newD L W ((bitl l m).drop a) = (0, 0, 0, 0, 10)) ∨
           (n2 = 0 ∧ ((holdsX L W (n1 * 2 ^ (64 - g1 / 64 - (g1 % 64 + 1))) = true ∧ newD L W ((bitl l m).drop a) = (0, 0, 0, 0, 30)) ∨
              (holdsX L W (n1 * 2 ^ (64 - g1 / 64 - (g1 % 64 + 1))) = false ∧ ((¬ (leadX (n1 * 2 ^ (64 - g1 / 64 - (g1 % 64 + 1))) = g1 / 64 ∧ widX (n1 * 2 ^ (64 - g1 / 64 - (g1 % 64 + 1))) = g1 % 64 + 1) ∧ newD L W ((bitl l m).drop a) = (0, 0, 0, 0, 30)) ∨
                 ((leadX (n1 * 2 ^ (64 - g1 / 64 - (g1 % 64 + 1))) = g1 / 64 ∧ widX (n1 * 2 ^ (64 - g1 / 64 - (g1 % 64 + 1))) = g1 % 64 + 1) ∧ newD L W ((bitl l m).drop a) = (n1 * 2 ^ (64 - g1 / 64 - (g1 % 64 + 1)), 11 + (g1 % 64 + 1), g1 / 64, g1 % 64 + 1, 0))))))))))) := by
  have h0 := get_front (d := 11) hs ha (by omega)
  rw [show ((11 : Nat) : Int) = 11 from rfl] at h0
  rw [h0]
  have hlen : ((bitl l m).drop a).length = m - a := by rw [List.length_drop, bitl_length]
  have hdr : (bitl l m).drop (a + 11) = ((bitl l m).drop a).drop 11 := by rw [List.drop_drop]
  by_cases h1 : ((bitl l m).drop a).length < 11
  · refine ⟨0, 10, by rw [if_pos h1], Or.inl ⟨rfl, rfl, ?_⟩⟩
    simp only [newD, h1, ↓reduceIte]
  · rw [if_neg h1]
    have hg := get_front (a := a + 11) (d := numB (((bitl l m).drop a).take 11) % 64 + 1) hs (by omega) (by omega)
    rw [hdr] at hg
    obtain ⟨e1, e2⟩ := numB_eleven ((bitl l m).drop a) (by omega)
    have hlt := numB_lt (((bitl l m).drop a).take 11)
    rw [List.length_take, Nat.min_eq_left (by omega)] at hlt
    refine ⟨_, 0, rfl, Or.inr ⟨rfl, hlt, by omega, ?_⟩⟩
    generalize (bitl l m).drop a = r at *
    unfold newD
    rw [if_neg h1, ← e1, ← e2]
    generalize numB (r.take 11) = g at *
    by_cases h2 : 64 < g / 64 + (g % 64 + 1)
    · exact Or.inl ⟨h2, by rw [if_pos h2]⟩
    · rw [if_neg h2]
      refine Or.inr ⟨by omega, ?_⟩
      rw [hg, List.length_drop]
      by_cases h3 : r.length < 11 + (g % 64 + 1)
      · rw [if_pos (by omega), if_pos h3]
        exact ⟨0, 10, rfl, Nat.two_pow_pos _, Or.inl ⟨rfl, rfl, rfl⟩⟩
      · rw [if_neg (by omega), if_neg h3]
        have hl := numB_lt ((r.drop 11).take (g % 64 + 1))
        rw [List.length_take, List.length_drop, Nat.min_eq_left (by omega)] at hl
        refine ⟨_, 0, rfl, hl, Or.inr ⟨rfl, ?_⟩⟩
        generalize numB ((r.drop 11).take (g % 64 + 1)) * 2 ^ (64 - g / 64 - (g % 64 + 1)) = d
        cases h4 : holdsX L W d
        · refine Or.inr ⟨rfl, ?_⟩
          by_cases h5 : leadX d = g / 64 ∧ widX d = g % 64 + 1
          · exact Or.inr ⟨h5, by rw [if_neg (fun hh => hh.elim (fun h => by cases h) (fun h => h h5))]⟩
          · exact Or.inl ⟨h5, by rw [if_pos (Or.inr h5)]⟩
        · exact Or.inl ⟨rfl, by rw [if_pos (Or.inl rfl)]⟩

end Go.Proofs.YtgnppnjhecfjeaaDoor

/- Plain mathematics: the document's decoding of layer 3 (read a value, write it, compare) gives what the program's gives. -/
namespace Go.Proofs.YtgnppnjhecfjeaaDoor

/-- the value that bits would be, as the document reads it: it, how many bits, the error -/
def valX (s : XV) (r : List Bool) : Nat × Nat × Nat :=
  if s.has = false then (if r.length < 64 then (0, 0, 10) else (numB (r.take 64), 64, 0))
  else match r with
  | [] => (0, 0, 10)
  | false :: _ => (s.prev, 1, 0)
  | [true] => (0, 0, 10)
  | true :: false :: r => if r.length < s.width then (0, 0, 10) else (numB (r.take s.width) * 2 ^ (64 - s.lead - s.width) ^^^ s.prev, 2 + s.width, 0)
  | true :: true :: r =>
    if r.length < 11 then (0, 0, 10)
    else if 64 < numB (r.take 5) + (numB ((r.drop 5).take 6) + 1) then (0, 0, 30)
    else if r.length < 11 + (numB ((r.drop 5).take 6) + 1) then (0, 0, 10)
    else (numB ((r.drop 11).take (numB ((r.drop 5).take 6) + 1)) * 2 ^ (64 - numB (r.take 5) - (numB ((r.drop 5).take 6) + 1)) ^^^ s.prev, 13 + (numB ((r.drop 5).take 6) + 1), 0)

theorem xor_lt' {a b : Nat} (ha : a < 18446744073709551616) (hb : b < 18446744073709551616) : a ^^^ b < 18446744073709551616 := Nat.xor_lt_two_pow (n := 64) ha hb

theorem val_cases {s : XV} (hs : soundX s = true) (hp : s.prev < 18446744073709551616) (r : List Bool) :
    ((decX s r).2.2.2 = 0 ∧ valX s r = ((decX s r).1, (decX s r).2.1, 0)) ∨
    ((decX s r).2.2.2 ≠ 0 ∧ decX s r = (0, 0, xv0, (decX s r).2.2.2) ∧ ((valX s r).2.2 = (decX s r).2.2.2 ∨ ((valX s r).2.2 = 0 ∧ (decX s r).2.2.2 = 30 ∧ (valX s r).1 < 18446744073709551616))) := by
  unfold decX valX
  by_cases hh : s.has = false
  · rw [if_pos hh, if_pos hh]
    by_cases h1 : r.length < 64
    · simp [h1]
    · simp [h1]
  · rw [if_neg hh, if_neg hh]
    have hlw : s.lead + s.width ≤ 64 := by
      unfold soundX at hs
      simp at hh
      rw [hh] at hs
      simp at hs
      omega
    rcases r with _ | ⟨_ | _, r⟩
    · simp
    · simp
    · rcases r with _ | ⟨_ | _, r⟩
      · simp
      · dsimp only
        by_cases h1 : r.length < s.width
        · simp [h1]
        · by_cases h2 : numB (r.take s.width) = 0
          · refine Or.inr ?_
            simp only [h1, h2, ↓reduceIte]
            refine ⟨by decide, trivial, Or.inr ⟨trivial, trivial, ?_⟩⟩
            simpa using hp
          · simp [h1, h2]
      · dsimp only
        by_cases h1 : r.length < 11
        · simp [h1]
        · have b5 := numB_lt (r.take 5)
          simp only [h1, ↓reduceIte]
          generalize numB (r.take 5) = L at *
          generalize numB ((r.drop 5).take 6) = X at *
          by_cases h2 : 64 < L + (X + 1)
          · simp [h2]
          · simp only [h2, ↓reduceIte]
            by_cases h3 : r.length < 11 + (X + 1)
            · simp [h3]
            · simp only [h3, ↓reduceIte]
              have hl := numB_lt ((r.drop 11).take (X + 1))
              rw [List.length_take, List.length_drop, Nat.min_eq_left (by omega)] at hl
              have hd := shl_lt (L := L) hl (by omega)
              generalize numB ((r.drop 11).take (X + 1)) * 2 ^ (64 - L - (X + 1)) = d at *
              by_cases h4 : holdsX s.lead s.width d = true ∨ ¬ (leadX d = L ∧ widX d = X + 1)
              · rw [if_pos h4]
                exact Or.inr ⟨by decide, by trivial, Or.inr ⟨by trivial, by trivial, xor_lt' hd hp⟩⟩
              · rw [if_neg h4]
                exact Or.inl ⟨rfl, rfl⟩

/-- read, written, compared -/
theorem dec_val {s : XV} (hs : soundX s = true) (hp : s.prev < 18446744073709551616) (r : List Bool) :
    decX s r = if (valX s r).2.2 ≠ 0 then (0, 0, xv0, (valX s r).2.2) else if (encX s (valX s r).1).1 = r.take (valX s r).2.1 then ((valX s r).1, (valX s r).2.1, (encX s (valX s r).1).2, 0) else (0, 0, xv0, 30) := by
  rcases val_cases hs hp r with ⟨h1, h2⟩ | ⟨h1, h2, h3⟩
  · obtain ⟨v, n, t, c, hd⟩ : ∃ v n t c, decX s r = (v, n, t, c) := ⟨_, _, _, _, rfl⟩
    rw [hd] at h1 h2 ⊢
    simp only at h1 h2
    subst h1
    obtain ⟨-, h4, -⟩ := dec_only hs hp hd
    rw [h2]
    simp only [ne_eq, not_true, ↓reduceIte]
    rw [h4, if_pos rfl]
  · rcases h3 with h3 | ⟨h3, h4, h5⟩
    · rw [if_pos (by rw [h3]; exact h1), h3]
      exact h2
    · rw [if_neg (by simp [h3]), if_neg ?_, h2, h4]
      intro e
      have hd := dec_enc (s := s) hs hp h5 (r.drop (valX s r).2.1)
      rw [e, List.take_append_drop] at hd
      rw [hd] at h1
      exact h1 rfl

/-- one bit read -/
theorem get_bit {l : List UInt8} {m a : Nat} (hs : soundB l (m : Int) = true) (ha : a ≤ m) :
    ((bitl l m).drop a = [] ∧ m = a ∧ getSpec l (m : Int) (a : Int) 1 = (0, 10)) ∨
    (∃ (b : Bool) (r : List Bool), (bitl l m).drop a = b :: r ∧ a + 1 ≤ m ∧ (bitl l m).drop (a + 1) = r ∧ getSpec l (m : Int) (a : Int) 1 = (b2n b, 0)) := by
  have h0 := get_front (d := 1) hs ha (by omega)
  rw [show ((1 : Nat) : Int) = 1 from rfl] at h0
  have hlen : ((bitl l m).drop a).length = m - a := by rw [List.length_drop, bitl_length]
  have hdr : (bitl l m).drop (a + 1) = ((bitl l m).drop a).drop 1 := by rw [List.drop_drop]
  rw [hdr, h0]
  cases h : (bitl l m).drop a with
  | nil =>
    rw [h] at hlen
    simp only [List.length_nil] at hlen
    exact Or.inl ⟨rfl, by omega, by simp⟩
  | cons b r =>
    rw [h] at hlen
    simp only [List.length_cons] at hlen
    refine Or.inr ⟨b, r, rfl, by omega, rfl, ?_⟩
    rw [if_neg (by simp)]
    simp only [List.take_succ_cons, List.take_zero]
    have : numB [b] = b2n b := by
      have := numB_snoc [] b
      rw [numB_nil] at this
      simpa using this
    rw [this]

end Go.Proofs.YtgnppnjhecfjeaaDoor
