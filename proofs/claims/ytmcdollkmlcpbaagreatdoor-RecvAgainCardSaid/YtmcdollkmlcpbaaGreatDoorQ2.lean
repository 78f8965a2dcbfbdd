/- Joined: MathX, MathG, MathK, MathM, MathB, MathH. -/
import Derived.Test.YtmcdollkmlcpbaaGreatDoorQ1
import Derived.Lib.TrailingZeros
import Derived.Lib.BitFns
import Derived.Lib.ItoaNum
set_option linter.unusedSimpArgs false
set_option linter.unusedVariables false
namespace Go.Proofs.YtmcdollkmlcpbaaGreatDoor
structure XV where
 has : Bool
 prev : Nat
 lead : Nat
 width : Nat
def xv0 : XV := ⟨false, 0, 0, 0⟩
def soundX (s : XV) : Bool := if s.has then decide (s.lead ≤ 31 ∧ s.lead + s.width ≤ 64 ∧ (0 < s.width ∨ s.lead = 0)) else decide (s.prev = 0 ∧ s.lead = 0 ∧ s.width = 0)
def holdsX (lead width d : Nat) : Bool := decide (d % 2 ^ (64 - lead - width) = 0 ∧ d < 2 ^ (64 - lead))
def leadX (d : Nat) : Nat := min (64 - Lib.bitLen d) 31
def widX (d : Nat) : Nat := 64 - leadX d - Lib.ctz 64 d
def encX (s : XV) (v : Nat) : List Bool × XV :=
 if s.has = false then (valB v 64, ⟨true, v, 0, 0⟩)
 else if v ^^^ s.prev = 0 then ([false], s)
 else if holdsX s.lead s.width (v ^^^ s.prev) then (true :: false :: valB ((v ^^^ s.prev) / 2 ^ (64 - s.lead - s.width)) s.width, ⟨true, v, s.lead, s.width⟩)
 else (true :: true :: (valB (leadX (v ^^^ s.prev)) 5 ++ valB (widX (v ^^^ s.prev) - 1) 6 ++ valB ((v ^^^ s.prev) / 2 ^ (64 - leadX (v ^^^ s.prev) - widX (v ^^^ s.prev))) (widX (v ^^^ s.prev))), ⟨true, v, leadX (v ^^^ s.prev), widX (v ^^^ s.prev)⟩)
theorem bitLen_two (d : Nat) (h0 : d ≠ 0) (h : d < 2 ^ 64) : 1 ≤ Lib.bitLen d ∧ Lib.bitLen d ≤ 64 ∧ 2 ^ (Lib.bitLen d - 1) ≤ d ∧ d < 2 ^ Lib.bitLen d := by
 have := Lib.bitLenAux_bounds 64 d h h0
 exact ⟨this.1, Lib.bitLen_le d 64 (Nat.le_refl _) h, this.2.1, this.2.2⟩
theorem ctz_two (d : Nat) (h0 : d ≠ 0) (h : d < 2 ^ 64) : ∃ m, d = 2 ^ Lib.ctz 64 d * (2 * m + 1) ∧ Lib.ctz 64 d < 64 := by
 unfold Lib.ctz
 rw [if_neg h0]
 exact Lib.ctzFrom_spec 64 d (by omega) h
theorem ctz_dvd (d : Nat) (h0 : d ≠ 0) (h : d < 2 ^ 64) (k : Nat) : d % 2 ^ k = 0 ↔ k ≤ Lib.ctz 64 d := by
 obtain ⟨m, hm, _⟩ := ctz_two d h0 h
 generalize Lib.ctz 64 d = c at *
 subst hm
 constructor
 ·intro hd
  rcases Nat.lt_or_ge c k with hlt | hge
  ·exfalso
   have h1 : 2 ^ (c + 1) ∣ 2 ^ c * (2 * m + 1) := Nat.dvd_trans (Nat.pow_dvd_pow 2 hlt) (Nat.dvd_of_mod_eq_zero hd)
   rw [Nat.pow_succ] at h1
   have := Nat.dvd_of_mul_dvd_mul_left (Nat.two_pow_pos c) h1
   omega
  ·exact hge
 ·intro hk
  exact Nat.mod_eq_zero_of_dvd (Nat.dvd_trans (Nat.pow_dvd_pow 2 hk) (Nat.dvd_mul_right _ _))
theorem bitLen_lt (d : Nat) (h0 : d ≠ 0) (h : d < 2 ^ 64) (k : Nat) : d < 2 ^ k ↔ Lib.bitLen d ≤ k := by
 obtain ⟨h1, h2, h3, h4⟩ := bitLen_two d h0 h
 constructor
 ·intro hd
  rcases Nat.lt_or_ge k (Lib.bitLen d) with hlt | hge
  ·have := Nat.pow_le_pow_right (show 0 < 2 by decide) (show k ≤ Lib.bitLen d - 1 by omega)
   omega
  ·exact hge
 ·intro hk
  have := Nat.pow_le_pow_right (show 0 < 2 by decide) hk
  omega
theorem ctz_lt_len (d : Nat) (h0 : d ≠ 0) (h : d < 2 ^ 64) : Lib.ctz 64 d < Lib.bitLen d := by
 obtain ⟨m, hm, hc⟩ := ctz_two d h0 h
 have h4 := (bitLen_two d h0 h).2.2.2
 rcases Nat.lt_or_ge (Lib.ctz 64 d) (Lib.bitLen d) with hlt | hge
 ·exact hlt
 ·exfalso
  have h5 := Nat.pow_le_pow_right (show 0 < 2 by decide) hge
  have h6 : 2 ^ Lib.ctz 64 d * 1 ≤ 2 ^ Lib.ctz 64 d * (2 * m + 1) := Nat.mul_le_mul_left _ (by omega)
  omega
theorem narrow_facts (d : Nat) (h0 : d ≠ 0) (h : d < 2 ^ 64) : leadX d ≤ 31 ∧ 1 ≤ widX d ∧ leadX d + widX d ≤ 64 ∧ 64 - leadX d - widX d = Lib.ctz 64 d ∧ holdsX (leadX d) (widX d) d = true := by
 have h1 := bitLen_two d h0 h
 have h2 := ctz_lt_len d h0 h
 have hc := (ctz_two d h0 h).choose_spec.2
 have hl : leadX d ≤ 64 - Lib.bitLen d := Nat.min_le_left _ _
 have hl2 : leadX d ≤ 31 := Nat.min_le_right _ _
 have e : 64 - leadX d - widX d = Lib.ctz 64 d := by unfold widX; omega
 refine ⟨hl2, by unfold widX; omega, by unfold widX; omega, e, ?_⟩
 unfold holdsX
 rw [e, decide_eq_true_eq]
 exact ⟨(ctz_dvd d h0 h _).2 (Nat.le_refl _), (bitLen_lt d h0 h _).2 (by omega)⟩
theorem xor_back (v p : Nat) : (v ^^^ p) ^^^ p = v := by rw [Nat.xor_assoc, Nat.xor_self, Nat.xor_zero]
theorem xor_lt64 {v p : Nat} (hv : v < 2 ^ 64) (hp : p < 2 ^ 64) : v ^^^ p < 2 ^ 64 := Nat.xor_lt_two_pow hv hp
theorem xor_zero_iff {v p : Nat} : v ^^^ p = 0 ↔ v = p := by
 constructor
 ·intro h
  have := xor_back v p
  rw [h, Nat.zero_xor] at this
  exact this.symm
 ·rintro rfl; exact Nat.xor_self _
theorem band_back {L W d : Nat} (hLW : L + W ≤ 64) (h : holdsX L W d = true) : d / 2 ^ (64 - L - W) * 2 ^ (64 - L - W) = d ∧ d / 2 ^ (64 - L - W) < 2 ^ W := by
 unfold holdsX at h
 rw [decide_eq_true_eq] at h
 refine ⟨Nat.div_mul_cancel (Nat.dvd_of_mod_eq_zero h.1), ?_⟩
 rw [Nat.div_lt_iff_lt_mul (Nat.two_pow_pos _), ← Nat.pow_add, show W + (64 - L - W) = 64 - L by omega]
 exact h.2
theorem band_holds {L W n : Nat} (hLW : L + W ≤ 64) (h : n < 2 ^ W) : holdsX L W (n * 2 ^ (64 - L - W)) = true ∧ n * 2 ^ (64 - L - W) / 2 ^ (64 - L - W) = n ∧ n * 2 ^ (64 - L - W) < 2 ^ 64 := by
 have h1 : n * 2 ^ (64 - L - W) < 2 ^ (64 - L) := by
  have := Nat.mul_lt_mul_of_pos_right h (Nat.two_pow_pos (64 - L - W))
  rwa [← Nat.pow_add, show W + (64 - L - W) = 64 - L by omega] at this
 refine ⟨?_, Nat.mul_div_cancel _ (Nat.two_pow_pos _), Nat.lt_of_lt_of_le h1 (Nat.pow_le_pow_right (by decide) (by omega))⟩
 unfold holdsX
 rw [decide_eq_true_eq]
 exact ⟨Nat.mul_mod_left _ _, h1⟩
def decX (s : XV) (r : List Bool) : Nat × Nat × XV × Nat :=
 if s.has = false then (if r.length < 64 then (0, 0, xv0, 10) else (numB (r.take 64), 64, ⟨true, numB (r.take 64), 0, 0⟩, 0))
 else match r with
 | [] => (0, 0, xv0, 10)
 | false :: _ => (s.prev, 1, s, 0)
 | [true] => (0, 0, xv0, 10)
 | true :: false :: r =>
  if r.length < s.width then (0, 0, xv0, 10)
  else if numB (r.take s.width) = 0 then (0, 0, xv0, 30)
  else (numB (r.take s.width) * 2 ^ (64 - s.lead - s.width) ^^^ s.prev, 2 + s.width, ⟨true, numB (r.take s.width) * 2 ^ (64 - s.lead - s.width) ^^^ s.prev, s.lead, s.width⟩, 0)
 | true :: true :: r =>
  if r.length < 11 then (0, 0, xv0, 10)
  else if 64 < numB (r.take 5) + (numB ((r.drop 5).take 6) + 1) then (0, 0, xv0, 30)
  else if r.length < 11 + (numB ((r.drop 5).take 6) + 1) then (0, 0, xv0, 10)
  else if holdsX s.lead s.width (numB ((r.drop 11).take (numB ((r.drop 5).take 6) + 1)) * 2 ^ (64 - numB (r.take 5) - (numB ((r.drop 5).take 6) + 1))) = true ∨
    ¬ (leadX (numB ((r.drop 11).take (numB ((r.drop 5).take 6) + 1)) * 2 ^ (64 - numB (r.take 5) - (numB ((r.drop 5).take 6) + 1))) = numB (r.take 5) ∧
      widX (numB ((r.drop 11).take (numB ((r.drop 5).take 6) + 1)) * 2 ^ (64 - numB (r.take 5) - (numB ((r.drop 5).take 6) + 1))) = numB ((r.drop 5).take 6) + 1) then (0, 0, xv0, 30)
  else (numB ((r.drop 11).take (numB ((r.drop 5).take 6) + 1)) * 2 ^ (64 - numB (r.take 5) - (numB ((r.drop 5).take 6) + 1)) ^^^ s.prev, 13 + (numB ((r.drop 5).take 6) + 1),
   ⟨true, numB ((r.drop 11).take (numB ((r.drop 5).take 6) + 1)) * 2 ^ (64 - numB (r.take 5) - (numB ((r.drop 5).take 6) + 1)) ^^^ s.prev, numB (r.take 5), numB ((r.drop 5).take 6) + 1⟩, 0)
theorem enc_sound {s : XV} {v : Nat} (hs : soundX s = true) (hp : s.prev < 2 ^ 64) (hv : v < 2 ^ 64) : soundX (encX s v).2 = true ∧ (encX s v).2.prev = v ∧ (encX s v).2.has = true ∧ (encX s v).2.lead ≤ 31 ∧ (encX s v).2.width ≤ 64 := by
 unfold encX
 split
 ·exact ⟨rfl, rfl, rfl, Nat.zero_le _, Nat.zero_le _⟩
 ·rename_i hh
  have hh : s.has = true := by simpa using hh
  have hs' := hs
  unfold soundX at hs'
  rw [hh] at hs'
  simp only [if_true, decide_eq_true_eq] at hs'
  split
  ·rename_i h0
   exact ⟨hs, (xor_zero_iff.1 h0).symm, hh, hs'.1, by simp only; omega⟩
  ·rename_i h0
   split
   ·refine ⟨?_, rfl, rfl, hs'.1, by simp only; omega⟩
    unfold soundX
    simp only [if_true, decide_eq_true_eq]
    exact hs'
   ·obtain ⟨n1, n2, n3, _⟩ := narrow_facts _ h0 (xor_lt64 hv hp)
    refine ⟨?_, rfl, rfl, n1, by simp only; omega⟩
    unfold soundX
    simp only [if_true, decide_eq_true_eq]
    exact ⟨n1, n3, .inl (by omega)⟩
theorem enc_len {s : XV} {v : Nat} (hs : soundX s = true) (hp : s.prev < 2 ^ 64) (hv : v < 2 ^ 64) : 1 ≤ (encX s v).1.length ∧ (encX s v).1.length ≤ 77 := by
 unfold encX
 split
 ·simp [valB_length]
 ·rename_i hh
  have hh : s.has = true := by simpa using hh
  unfold soundX at hs
  rw [hh] at hs
  simp only [if_true, decide_eq_true_eq] at hs
  split
  ·simp
  ·rename_i h0
   obtain ⟨n1, n2, n3, _⟩ := narrow_facts _ h0 (xor_lt64 hv hp)
   split
   ·simp [valB_length]; omega
   ·simp [valB_length]; omega
theorem take_lt (r : List Bool) (n : Nat) : numB (r.take n) < 2 ^ n := by
 have h := numB_lt (r.take n)
 exact Nat.lt_of_lt_of_le h (Nat.pow_le_pow_right (by decide) (by rw [List.length_take]; exact Nat.min_le_left _ _))
theorem valB_take {r : List Bool} {n : Nat} (h : n ≤ r.length) : valB (numB (r.take n)) n = r.take n := by
 have := valB_numB (r.take n)
 rwa [List.length_take, Nat.min_eq_left h] at this
theorem numB_front (v n : Nat) (r : List Bool) (h : v < 2 ^ n) : numB ((valB v n ++ r).take n) = v := by
 rw [List.take_left' (valB_length v n), numB_valB, Nat.mod_eq_of_lt h]
theorem dec_only {s : XV} {r : List Bool} {v n : Nat} {t : XV} (hs : soundX s = true) (hp : s.prev < 2 ^ 64) (h : decX s r = (v, n, t, 0)) :
  n ≤ r.length ∧ encX s v = (r.take n, t) ∧ v < 2 ^ 64 ∧ 1 ≤ n ∧ n ≤ 77 := by
 unfold decX at h
 split at h
 ·rename_i hh
  split at h
  ·simp at h
  ·rename_i hl
   simp only [Prod.mk.injEq] at h
   obtain ⟨rfl, rfl, rfl, _⟩ := h
   refine ⟨by omega, ?_, take_lt r 64, by decide, by decide⟩
   unfold encX
   rw [if_pos hh, valB_take (by omega)]
 ·rename_i hh
  have hh : s.has = true := by simpa using hh
  have hs' := hs
  unfold soundX at hs'
  rw [hh] at hs'
  simp only [if_true, decide_eq_true_eq] at hs'
  match r, h with
  | [], h => simp at h
  | [true], h => simp at h
  | false :: r, h =>
   simp only [Prod.mk.injEq] at h
   obtain ⟨rfl, rfl, rfl, _⟩ := h
   refine ⟨by simp, ?_, hp, by decide, by decide⟩
   unfold encX
   rw [if_neg (by rw [hh]; decide), if_pos (Nat.xor_self _)]
   rfl
  | true :: false :: r, h =>
   simp only at h
   split at h
   ·simp at h
   ·rename_i hl
    split at h
    ·simp at h
    ·rename_i hz
     simp only [Prod.mk.injEq] at h
     obtain ⟨rfl, rfl, rfl, _⟩ := h
     have hlt := take_lt r s.width
     obtain ⟨b1, b2, b3⟩ := band_holds (L := s.lead) (W := s.width) hs'.2.1 hlt
     have hd : (numB (r.take s.width) * 2 ^ (64 - s.lead - s.width) ^^^ s.prev) ^^^ s.prev = numB (r.take s.width) * 2 ^ (64 - s.lead - s.width) := xor_back _ _
     refine ⟨by simp; omega, ?_, xor_lt64 b3 hp, by omega, by omega⟩
     unfold encX
     rw [if_neg (by rw [hh]; decide), hd, if_neg (by have := Nat.two_pow_pos (64 - s.lead - s.width); exact fun e => hz ((Nat.mul_eq_zero.1 e).resolve_right (by omega))), if_pos b1, b2, valB_take (by omega), Nat.add_comm 2]
     rfl
  | true :: true :: r, h =>
   simp only at h
   generalize hL : numB (r.take 5) = L at h
   generalize hW : numB ((r.drop 5).take 6) + 1 = W at h
   have hL5 := take_lt r 5
   have hW6 := take_lt (r.drop 5) 6
   split at h
   ·simp at h
   ·rename_i h11
    split at h
    ·simp at h
    ·rename_i hLW
     split at h
     ·simp at h
     ·rename_i hl
      have hlt := take_lt (r.drop 11) W
      generalize hn : numB ((r.drop 11).take W) = m at h hlt
      obtain ⟨b1, b2, b3⟩ := band_holds (L := L) (W := W) (by omega) hlt
      split at h
      ·simp at h
      ·rename_i hnew
       have hnew1 : holdsX s.lead s.width (m * 2 ^ (64 - L - W)) = false := by
        cases hx : holdsX s.lead s.width (m * 2 ^ (64 - L - W)) with
        | false => rfl
        | true => exact absurd (Or.inl hx) hnew
       have hnew2 : leadX (m * 2 ^ (64 - L - W)) = L ∧ widX (m * 2 ^ (64 - L - W)) = W := by
        rcases Classical.em (leadX (m * 2 ^ (64 - L - W)) = L ∧ widX (m * 2 ^ (64 - L - W)) = W) with hx | hx
        ·exact hx
        ·exact absurd (Or.inr hx) hnew
       simp only [Prod.mk.injEq] at h
       obtain ⟨rfl, rfl, rfl, _⟩ := h
       have hd : (m * 2 ^ (64 - L - W) ^^^ s.prev) ^^^ s.prev = m * 2 ^ (64 - L - W) := xor_back _ _
       have hd0 : m * 2 ^ (64 - L - W) ≠ 0 := fun e => by
        rw [e] at hnew1
        unfold holdsX at hnew1
        rw [decide_eq_false_iff_not] at hnew1
        exact hnew1 ⟨Nat.zero_mod _, Nat.two_pow_pos _⟩
       refine ⟨by simp; omega, ?_, xor_lt64 b3 hp, by omega, by omega⟩
       unfold encX
       rw [if_neg (by rw [hh]; decide), hd, if_neg hd0, if_neg (by rw [hnew1]; decide), hnew2.1, hnew2.2, b2]
       have e1 : valB L 5 = r.take 5 := by rw [← hL]; exact valB_take (by omega)
       have e2 : valB (W - 1) 6 = (r.drop 5).take 6 := by rw [← hW, Nat.add_sub_cancel]; exact valB_take (by rw [List.length_drop]; omega)
       have e3 : valB m W = (r.drop 11).take W := by rw [← hn]; exact valB_take (by rw [List.length_drop]; omega)
       rw [e1, e2, e3]
       have e4 : (true :: true :: r).take (13 + W) = true :: true :: r.take (11 + W) := by rw [show 13 + W = (11 + W) + 1 + 1 by omega]; rfl
       have e5 : r.take 5 ++ (r.drop 5).take 6 ++ (r.drop 11).take W = r.take (11 + W) := by
        rw [show 11 + W = 5 + 6 + W by omega, List.take_add, List.take_add]
       rw [e4, e5]
theorem dec_enc {s : XV} {v : Nat} (hs : soundX s = true) (hp : s.prev < 2 ^ 64) (hv : v < 2 ^ 64) (q : List Bool) : decX s ((encX s v).1 ++ q) = (v, (encX s v).1.length, (encX s v).2, 0) := by
 unfold encX
 by_cases hh : s.has = false
 ·rw [if_pos hh]
  unfold decX
  rw [if_pos hh]
  simp only [List.length_append, valB_length]
  rw [if_neg (by omega), numB_front _ _ _ hv]
 ·rw [if_neg hh]
  have hh' : s.has = true := by simpa using hh
  have hs' := hs
  unfold soundX at hs'
  rw [hh'] at hs'
  simp only [if_true, decide_eq_true_eq] at hs'
  by_cases h0 : v ^^^ s.prev = 0
  ·rw [if_pos h0]
   unfold decX
   rw [if_neg hh]
   simp only [List.cons_append, List.nil_append, List.length_singleton]
   rw [xor_zero_iff.1 h0]
  ·rw [if_neg h0]
   have hd := xor_lt64 hv hp
   have hx : (v ^^^ s.prev) ^^^ s.prev = v := xor_back _ _
   generalize v ^^^ s.prev = d at *
   by_cases hb : holdsX s.lead s.width d = true
   ·rw [if_pos hb]
    obtain ⟨c1, c2⟩ := band_back hs'.2.1 hb
    unfold decX
    rw [if_neg hh]
    simp only [List.cons_append, List.length_cons, valB_length, List.length_append]
    rw [if_neg (by omega), numB_front _ _ _ c2, if_neg (by intro e; rw [e, Nat.zero_mul] at c1; exact h0 c1.symm), c1, hx]
    simp; omega
   ·rw [if_neg hb]
    obtain ⟨n1, n2, n3, n4, n5⟩ := narrow_facts d h0 hd
    obtain ⟨c1, c2⟩ := band_back n3 n5
    generalize hL : leadX d = L at *
    generalize hW : widX d = W at *
    unfold decX
    rw [if_neg hh]
    simp only [List.cons_append, List.length_cons, valB_length, List.length_append]
    have e1 : numB ((valB L 5 ++ valB (W - 1) 6 ++ valB (d / 2 ^ (64 - L - W)) W ++ q).take 5) = L := by
     rw [List.append_assoc, List.append_assoc]; exact numB_front _ _ _ (by omega)
    have e2 : numB (((valB L 5 ++ valB (W - 1) 6 ++ valB (d / 2 ^ (64 - L - W)) W ++ q).drop 5).take 6) + 1 = W := by
     rw [List.append_assoc, List.append_assoc, List.drop_left' (valB_length _ _), numB_front _ _ _ (by omega)]; omega
    have e3 : numB (((valB L 5 ++ valB (W - 1) 6 ++ valB (d / 2 ^ (64 - L - W)) W ++ q).drop 11).take W) = d / 2 ^ (64 - L - W) := by
     rw [List.append_assoc, List.drop_left' (by simp [valB_length]), numB_front _ _ _ c2]
    rw [e1, e2, e3, if_neg (by omega), if_neg (by omega), if_neg (by omega), c1, if_neg (by
     rintro (h | h)
     ·exact hb h
     ·exact h ⟨hL, hW⟩), hx]
    simp; omega
end Go.Proofs.YtmcdollkmlcpbaaGreatDoor
namespace Go.Proofs.YtmcdollkmlcpbaaGreatDoor
theorem numB_app (xs ys : List Bool) : numB (xs ++ ys) = numB xs * 2 ^ ys.length + numB ys := by
 induction ys using snoc_ind with
 | h0 => simp [numB_nil]
 | h1 ys b ih =>
  rw [← List.append_assoc, numB_snoc, numB_snoc, ih, List.length_append]
  simp only [List.length_cons, List.length_nil, Nat.zero_add, Nat.pow_succ]
  rw [← Nat.mul_assoc]
  omega
theorem cutl_bitl (l : List UInt8) (m a d : Nat) (h : a + d ≤ m) : cutl l a d = ((bitl l m).drop a).take d := by
 apply List.ext_getElem
 ·rw [cutl_length, List.length_take, List.length_drop, bitl_length]; omega
 ·intro i h1 h2
  simp [cutl, bitl]
theorem get_front {l : List UInt8} {m a d : Nat} (hs : soundB l (m : Int) = true) (ha : a ≤ m) (hd : d ≤ 64) :
  getSpec l (m : Int) (a : Int) (d : Int) = if ((bitl l m).drop a).length < d then (0, 10) else (numB (((bitl l m).drop a).take d), 0) := by
 unfold getSpec
 rw [if_neg (by rw [hs]; decide), if_neg (by omega), List.length_drop, bitl_length]
 by_cases h : m - a < d
 ·rw [if_pos (by omega), if_pos h]
 ·rw [if_neg (by omega), if_neg h, Int.toNat_natCast, Int.toNat_natCast, cutl_bitl l m a d (by omega)]
theorem get_out {l : List UInt8} {m : Nat} {a d : Int} (hs : soundB l (m : Int) = true) (ha : a < 0 ∨ (m : Int) < a) (hd : 0 ≤ d ∧ d ≤ 64) : getSpec l (m : Int) a d = (0, 10) := by
 unfold getSpec
 rw [if_neg (by rw [hs]; decide), if_neg (by omega), if_pos (by omega)]
theorem numB_eleven (r : List Bool) (h : 11 ≤ r.length) : numB (r.take 11) / 64 = numB (r.take 5) ∧ numB (r.take 11) % 64 = numB ((r.drop 5).take 6) := by
 have e : r.take 11 = r.take 5 ++ (r.drop 5).take 6 := by rw [← List.take_add]
 have h6 : ((r.drop 5).take 6).length = 6 := by simp; omega
 have hl := numB_lt ((r.drop 5).take 6)
 rw [e, numB_app, h6]
 rw [h6] at hl
 omega
def oldD (L W : Nat) (r : List Bool) : Nat × Nat × Nat × Nat × Nat :=
 if r.length < W then (0, 0, 0, 0, 10) else if numB (r.take W) = 0 then (0, 0, 0, 0, 30) else (numB (r.take W) * 2 ^ (64 - L - W), W, L, W, 0)
def newD (L W : Nat) (r : List Bool) : Nat × Nat × Nat × Nat × Nat :=
 if r.length < 11 then (0, 0, 0, 0, 10)
 else if 64 < numB (r.take 5) + (numB ((r.drop 5).take 6) + 1) then (0, 0, 0, 0, 30)
 else if r.length < 11 + (numB ((r.drop 5).take 6) + 1) then (0, 0, 0, 0, 10)
 else if holdsX L W (numB ((r.drop 11).take (numB ((r.drop 5).take 6) + 1)) * 2 ^ (64 - numB (r.take 5) - (numB ((r.drop 5).take 6) + 1))) = true ∨
    ¬ (leadX (numB ((r.drop 11).take (numB ((r.drop 5).take 6) + 1)) * 2 ^ (64 - numB (r.take 5) - (numB ((r.drop 5).take 6) + 1))) = numB (r.take 5) ∧
      widX (numB ((r.drop 11).take (numB ((r.drop 5).take 6) + 1)) * 2 ^ (64 - numB (r.take 5) - (numB ((r.drop 5).take 6) + 1))) = numB ((r.drop 5).take 6) + 1) then (0, 0, 0, 0, 30)
 else (numB ((r.drop 11).take (numB ((r.drop 5).take 6) + 1)) * 2 ^ (64 - numB (r.take 5) - (numB ((r.drop 5).take 6) + 1)), 11 + (numB ((r.drop 5).take 6) + 1), numB (r.take 5), numB ((r.drop 5).take 6) + 1, 0)
def decD (s : XV) (r : List Bool) : Nat × Nat × Nat × Nat × Nat :=
 if s.has = false then (if r.length < 64 then (0, 0, 0, 0, 10) else (numB (r.take 64), 64, 0, 0, 0))
 else match r with
 | [] => (0, 0, 0, 0, 10)
 | false :: _ => (0, 1, s.lead, s.width, 0)
 | [true] => (0, 0, 0, 0, 10)
 | true :: false :: r => ((oldD s.lead s.width r).1, 2 + (oldD s.lead s.width r).2.1, (oldD s.lead s.width r).2.2)
 | true :: true :: r => ((newD s.lead s.width r).1, 2 + (newD s.lead s.width r).2.1, (newD s.lead s.width r).2.2)
def upD (s : XV) (D : Nat × Nat × Nat × Nat × Nat) : Nat × Nat × XV × Nat :=
 if D.2.2.2.2 = 0 then (D.1 ^^^ s.prev, D.2.1, ⟨true, D.1 ^^^ s.prev, D.2.2.1, D.2.2.2.1⟩, 0) else (0, 0, xv0, D.2.2.2.2)
theorem decX_D {s : XV} (hs : soundX s = true) (r : List Bool) : decX s r = upD s (decD s r) := by
 unfold decX decD
 by_cases hh : s.has = false
 ·rw [if_pos hh, if_pos hh]
  unfold soundX at hs
  rw [hh] at hs
  simp at hs
  split
  ·rfl
  ·unfold upD
   simp [hs.1]
 ·rw [if_neg hh, if_neg hh]
  have ht : s.has = true := by simpa using hh
  rcases r with _ | ⟨_ | _, r⟩
  ·rfl
  ·obtain ⟨h, p, l, b⟩ := s
   simp at ht
   simp [upD, ht]
  ·rcases r with _ | ⟨_ | _, r⟩
   ·rfl
   ·dsimp only
    by_cases h1 : r.length < s.width
    ·simp only [oldD, h1, ↓reduceIte]; rfl
    ·by_cases h2 : numB (r.take s.width) = 0
     ·simp only [oldD, h1, h2, ↓reduceIte]; rfl
     ·simp only [oldD, h1, h2, ↓reduceIte]; rfl
   ·dsimp only
    by_cases h1 : r.length < 11
    ·simp only [newD, h1, ↓reduceIte]; rfl
    ·simp only [newD, h1, ↓reduceIte]
     generalize numB (r.take 5) = L at *
     generalize numB ((r.drop 5).take 6) = X at *
     by_cases h2 : 64 < L + (X + 1)
     ·simp only [h2, ↓reduceIte]; rfl
     ·simp only [h2, ↓reduceIte]
      by_cases h3 : r.length < 11 + (X + 1)
      ·simp only [h3, ↓reduceIte]; rfl
      ·simp only [h3, ↓reduceIte]
       generalize numB ((r.drop 11).take (X + 1)) * 2 ^ (64 - L - (X + 1)) = d at *
       by_cases h4 : holdsX s.lead s.width d = true ∨ ¬ (leadX d = L ∧ widX d = X + 1)
       ·rw [if_pos h4, if_pos h4]; rfl
       ·rw [if_neg h4, if_neg h4]
        simp only [upD, ↓reduceIte]
        rw [show 13 + (X + 1) = 2 + (11 + (X + 1)) by omega]
theorem old_facts {l : List UInt8} {m a L W : Nat} (hs : soundB l (m : Int) = true) (ha : a ≤ m) (hLW : L + W ≤ 64) :
  ∃ g1 g2 : Nat, getSpec l (m : Int) (a : Int) (W : Int) = (g1, g2) ∧ g1 < 2 ^ W ∧ g2 ≤ 11 ∧ (oldD L W ((bitl l m).drop a)).2.2.2.2 = (if g2 = 0 ∧ g1 = 0 then 30 else g2) ∧
   ((oldD L W ((bitl l m).drop a)).2.2.2.2 = 0 → g1 * 2 ^ (64 - L - W) = (oldD L W ((bitl l m).drop a)).1 ∧ (oldD L W ((bitl l m).drop a)).2.1 = W ∧ (oldD L W ((bitl l m).drop a)).2.2.1 = L ∧ (oldD L W ((bitl l m).drop a)).2.2.2.1 = W) := by
 rw [get_front hs ha (by omega)]
 generalize (bitl l m).drop a = r
 by_cases h1 : r.length < W
 ·refine ⟨0, 10, by rw [if_pos h1], Nat.two_pow_pos _, by omega, ?_, ?_⟩ <;> simp [oldD, h1]
 ·have hl := numB_lt (r.take W)
  rw [List.length_take, Nat.min_eq_left (by omega)] at hl
  refine ⟨numB (r.take W), 0, by rw [if_neg h1], hl, by omega, ?_, ?_⟩ <;> by_cases h2 : numB (r.take W) = 0 <;> simp [oldD, h1, h2]
theorem shl_lt {g W L : Nat} (h : g < 2 ^ W) (hLW : L + W ≤ 64) : g * 2 ^ (64 - L - W) < 18446744073709551616 := by
 have h1 : g * 2 ^ (64 - L - W) < 2 ^ W * 2 ^ (64 - L - W) := Nat.mul_lt_mul_of_pos_right h (Nat.two_pow_pos _)
 rw [← Nat.pow_add, show W + (64 - L - W) = 64 - L by omega] at h1
 exact Nat.lt_of_lt_of_le h1 (show 2 ^ (64 - L) ≤ 2 ^ 64 from Nat.pow_le_pow_right (by decide) (by omega))
theorem new_facts {l : List UInt8} {m a L W : Nat} (hs : soundB l (m : Int) = true) (ha : a ≤ m) :
  ∃ g1 g2 : Nat, getSpec l (m : Int) (a : Int) 11 = (g1, g2) ∧ ((g2 = 10 ∧ g1 = 0 ∧ newD L W ((bitl l m).drop a) = (0, 0, 0, 0, 10)) ∨
   (g2 = 0 ∧ g1 < 2048 ∧ a + 11 ≤ m ∧ ((64 < g1 / 64 + (g1 % 64 + 1) ∧ newD L W ((bitl l m).drop a) = (0, 0, 0, 0, 30)) ∨
    (g1 / 64 + (g1 % 64 + 1) ≤ 64 ∧ ∃ n1 n2 : Nat, getSpec l (m : Int) ((a + 11 : Nat) : Int) ((g1 % 64 + 1 : Nat) : Int) = (n1, n2) ∧ n1 < 2 ^ (g1 % 64 + 1) ∧
     ((n2 = 10 ∧ n1 = 0 ∧ newD L W ((bitl l m).drop a) = (0, 0, 0, 0, 10)) ∨
      (n2 = 0 ∧ ((holdsX L W (n1 * 2 ^ (64 - g1 / 64 - (g1 % 64 + 1))) = true ∧ newD L W ((bitl l m).drop a) = (0, 0, 0, 0, 30)) ∨
       (holdsX L W (n1 * 2 ^ (64 - g1 / 64 - (g1 % 64 + 1))) = false ∧ ((¬ (leadX (n1 * 2 ^ (64 - g1 / 64 - (g1 % 64 + 1))) = g1 / 64 ∧ widX (n1 * 2 ^ (64 - g1 / 64 - (g1 % 64 + 1))) = g1 % 64 + 1) ∧ newD L W ((bitl l m).drop a) = (0, 0, 0, 0, 30)) ∨
         ((leadX (n1 * 2 ^ (64 - g1 / 64 - (g1 % 64 + 1))) = g1 / 64 ∧ widX (n1 * 2 ^ (64 - g1 / 64 - (g1 % 64 + 1))) = g1 % 64 + 1) ∧ newD L W ((bitl l m).drop a) = (n1 * 2 ^ (64 - g1 / 64 - (g1 % 64 + 1)), 11 + (g1 % 64 + 1), g1 / 64, g1 % 64 + 1, 0))))))))))) := by
 have h0 := get_front (d := 11) hs ha (by omega)
 rw [show ((11 : Nat) : Int) = 11 from rfl] at h0
 rw [h0]
 have hlen : ((bitl l m).drop a).length = m - a := by rw [List.length_drop, bitl_length]
 have hdr : (bitl l m).drop (a + 11) = ((bitl l m).drop a).drop 11 := by rw [List.drop_drop]
 by_cases h1 : ((bitl l m).drop a).length < 11
 ·refine ⟨0, 10, by rw [if_pos h1], Or.inl ⟨rfl, rfl, ?_⟩⟩
  simp only [newD, h1, ↓reduceIte]
 ·rw [if_neg h1]
  have hg := get_front (a := a + 11) (d := numB (((bitl l m).drop a).take 11) % 64 + 1) hs (by omega) (by omega)
  rw [hdr] at hg
  obtain ⟨e1, e2⟩ := numB_eleven ((bitl l m).drop a) (by omega)
  have hlt := numB_lt (((bitl l m).drop a).take 11)
  rw [List.length_take, Nat.min_eq_left (by omega)] at hlt
  refine ⟨_, 0, rfl, Or.inr ⟨rfl, hlt, by omega, ?_⟩⟩
  generalize (bitl l m).drop a = r at *
  unfold newD
  rw [if_neg h1, ← e1, ← e2]
  generalize numB (r.take 11) = g at *
  by_cases h2 : 64 < g / 64 + (g % 64 + 1)
  ·exact Or.inl ⟨h2, by rw [if_pos h2]⟩
  ·rw [if_neg h2]
   refine Or.inr ⟨by omega, ?_⟩
   rw [hg, List.length_drop]
   by_cases h3 : r.length < 11 + (g % 64 + 1)
   ·rw [if_pos (by omega), if_pos h3]
    exact ⟨0, 10, rfl, Nat.two_pow_pos _, Or.inl ⟨rfl, rfl, rfl⟩⟩
   ·rw [if_neg (by omega), if_neg h3]
    have hl := numB_lt ((r.drop 11).take (g % 64 + 1))
    rw [List.length_take, List.length_drop, Nat.min_eq_left (by omega)] at hl
    refine ⟨_, 0, rfl, hl, Or.inr ⟨rfl, ?_⟩⟩
    generalize numB ((r.drop 11).take (g % 64 + 1)) * 2 ^ (64 - g / 64 - (g % 64 + 1)) = d
    cases h4 : holdsX L W d
    ·refine Or.inr ⟨rfl, ?_⟩
     by_cases h5 : leadX d = g / 64 ∧ widX d = g % 64 + 1
     ·exact Or.inr ⟨h5, by rw [if_neg (fun hh => hh.elim (fun h => by cases h) (fun h => h h5))]⟩
     ·exact Or.inl ⟨h5, by rw [if_pos (Or.inr h5)]⟩
    ·exact Or.inl ⟨rfl, by rw [if_pos (Or.inl rfl)]⟩
end Go.Proofs.YtmcdollkmlcpbaaGreatDoor
namespace Go.Proofs.YtmcdollkmlcpbaaGreatDoor
structure EC where
 n : Int
 last : Int
 delta : Int
 val : XV
def ec0 : EC := ⟨0, 0, 0, xv0⟩
def w64 (x : Int) : Int := (x + 9223372036854775808) % 18446744073709551616 - 9223372036854775808
def u64 (x : Int) : Nat := (x % 18446744073709551616).toNat
def in64 (x : Int) : Prop := -9223372036854775808 ≤ x ∧ x ≤ 9223372036854775807
theorem w64_in (x : Int) : in64 (w64 x) := by unfold w64 in64; omega
theorem w64_id {x : Int} (h : in64 x) : w64 x = x := by unfold w64 in64 at *; omega
theorem u64_lt (x : Int) : u64 x < 18446744073709551616 := by unfold u64; omega
theorem w64_u64 {x : Int} (h : in64 x) : w64 (u64 x : Int) = x := by unfold w64 u64 in64 at *; omega
def soundC (e : EC) : Bool := if e.n = 0 then decide (e.last = 0 ∧ e.delta = 0 ∧ e.val.has = false ∧ e.val.prev = 0 ∧ e.val.lead = 0 ∧ e.val.width = 0) else decide (0 < e.n) && (e.val.has && soundX e.val)
def deltaC (e : EC) (t : Int) : Int := if e.n = 0 then 0 else w64 (t - e.last)
def timeC (e : EC) (t : Int) : List Bool := if e.n = 0 then valB (u64 t) 64 else zenc (foldZ (w64 (w64 (t - e.last) - e.delta)))
def encC (e : EC) (t : Int) (v : Nat) : List Bool × EC := (timeC e t ++ (encX e.val v).1, ⟨w64 (e.n + 1), t, deltaC e t, (encX e.val v).2⟩)
def mayC (e : EC) (t : Int) : Nat := if soundC e = false then 61 else if e.n ≠ 0 ∧ t ≤ e.last then 60 else 0
def dtC (e : EC) (r : List Bool) : Option (Int × Nat) :=
 if e.n = 0 then (if r.length < 64 then none else some (w64 (numB (r.take 64) : Int), 64))
 else if (zget r).2.2 = 0 then some (w64 (e.last + e.delta + unfoldZ (zget r).1), (zget r).2.1) else none
def decC (e : EC) (r : List Bool) : Option (Int × Nat × Nat × EC) :=
 match dtC e r with
 | none => none
 | some (t, k) => if e.n ≠ 0 ∧ t ≤ e.last then none
  else if (decX e.val (r.drop k)).2.2.2 = 0 then some (t, (decX e.val (r.drop k)).1, k + (decX e.val (r.drop k)).2.1, ⟨w64 (e.n + 1), t, deltaC e t, (decX e.val (r.drop k)).2.2.1⟩) else none
structure OkC (e : EC) : Prop where
 snd : soundC e = true
 n : in64 e.n
 last : in64 e.last
 delta : in64 e.delta
 prev : e.val.prev < 18446744073709551616
theorem OkC.val {e : EC} (h : OkC e) : soundX e.val = true := by
 have hs := h.snd
 unfold soundC at hs
 split at hs
 ·simp only [decide_eq_true_eq] at hs
  unfold soundX
  rw [hs.2.2.1]
  simp [hs.2.2.2]
 ·simp only [Bool.and_eq_true] at hs
  exact hs.2.2
theorem in00 : in64 0 := by unfold in64; omega
theorem ok0 : OkC ec0 := ⟨rfl, in00, in00, in00, by decide⟩
theorem timeC_length (e : EC) (t : Int) : 1 ≤ (timeC e t).length ∧ (timeC e t).length ≤ 69 := by
 unfold timeC
 split
 ·rw [valB_length]; omega
 ·exact zenc_pos _
theorem encC_length {e : EC} (he : OkC e) (t : Int) {v : Nat} (hv : v < 18446744073709551616) : 2 ≤ (encC e t v).1.length ∧ (encC e t v).1.length ≤ 146 := by
 have h1 := timeC_length e t
 have h2 := enc_len he.val he.prev hv
 simp only [encC, List.length_append]
 omega
theorem encC_ok {e : EC} (he : OkC e) (hn : 0 ≤ e.n ∧ e.n < 9223372036854775807) {t : Int} (ht : in64 t) {v : Nat} (hv : v < 18446744073709551616) : OkC (encC e t v).2 ∧ (encC e t v).2.n = e.n + 1 ∧ (encC e t v).2.last = t := by
 obtain ⟨h1, h2, h3, -, -⟩ := enc_sound he.val he.prev hv
 have e1 : w64 (e.n + 1) = e.n + 1 := w64_id (by unfold in64; omega)
 refine ⟨⟨?_, ?_, ht, ?_, ?_⟩, e1, rfl⟩
 ·show soundC ⟨w64 (e.n + 1), t, deltaC e t, (encX e.val v).2⟩ = true
  rw [e1]
  unfold soundC
  rw [if_neg (by simp only; omega)]
  simp only [h1, h3, Bool.and_true, Bool.true_and, decide_eq_true_eq]
  omega
 ·exact w64_in _
 ·show in64 (deltaC e t)
  unfold deltaC
  split
  ·exact in00
  ·exact w64_in _
 ·show (encX e.val v).2.prev < _
  rw [h2]; exact hv
theorem time_back {last delta t : Int} (ht : in64 t) (hd : in64 delta) : w64 (last + delta + w64 (w64 (t - last) - delta)) = t := by unfold w64 in64 at *; omega
theorem time_only {last delta d : Int} (hd : in64 d) : w64 (w64 (w64 (last + delta + d) - last) - delta) = d := by unfold w64 in64 at *; omega
theorem dtC_enc {e : EC} (he : OkC e) {t : Int} (ht : in64 t) (q : List Bool) : dtC e (timeC e t ++ q) = some (t, (timeC e t).length) := by
 unfold dtC timeC
 split
 ·have hl : (valB (u64 t) 64).length = 64 := valB_length _ _
  rw [if_neg (by rw [List.length_append, hl]; omega), hl, numB_front _ _ _ (u64_lt t), w64_u64 ht]
 ·have hz := zget_enc (foldZ (w64 (w64 (t - e.last) - e.delta))) (foldZ_lt _ (w64_in _)) q
  rw [hz]
  rw [if_pos rfl, unfold_fold, time_back ht he.delta]
theorem decC_enc {e : EC} (he : OkC e) {t : Int} (ht : in64 t) {v : Nat} (hv : v < 18446744073709551616) (hr : e.n ≠ 0 → e.last < t) (q : List Bool) : decC e ((encC e t v).1 ++ q) = some (t, v, (encC e t v).1.length, (encC e t v).2) := by
 unfold decC
 have hd := dtC_enc he ht ((encX e.val v).1 ++ q)
 have e0 : (encC e t v).1 ++ q = timeC e t ++ ((encX e.val v).1 ++ q) := by simp [encC]
 rw [e0, hd]
 dsimp only
 rw [if_neg (by intro h; have := hr h.1; omega), List.drop_left, dec_enc he.val he.prev hv]
 simp [encC]
theorem decC_only {e : EC} (he : OkC e) {r : List Bool} {t : Int} {v k : Nat} {e' : EC} (h : decC e r = some (t, v, k, e')) :
  k ≤ r.length ∧ encC e t v = (r.take k, e') ∧ in64 t ∧ v < 18446744073709551616 ∧ 2 ≤ k ∧ (e.n ≠ 0 → e.last < t) ∧ k ≤ 146 := by
 unfold decC at h
 cases hd : dtC e r with
 | none => rw [hd] at h; cases h
 | some p =>
  obtain ⟨t', k'⟩ := p
  rw [hd] at h
  dsimp only at h
  split at h
  ·cases h
  ·rename_i hrise
   split at h
   ·rename_i hx
    obtain ⟨v', n', T', c', hX⟩ : ∃ v' n' T' c', decX e.val (r.drop k') = (v', n', T', c') := ⟨_, _, _, _, rfl⟩
    rw [hX] at h hx
    simp only at hx
    subst hx
    simp only [Option.some.injEq, Prod.mk.injEq] at h
    obtain ⟨rfl, rfl, rfl, rfl⟩ := h
    obtain ⟨h1, h2, h3, h4, h5⟩ := dec_only he.val he.prev hX
    have key : in64 t' ∧ k' ≤ r.length ∧ timeC e t' = r.take k' ∧ 1 ≤ k' ∧ k' ≤ 69 := by
     unfold dtC at hd
     split at hd
     ·rename_i hn
      split at hd
      ·cases hd
      ·rename_i hl
       simp only [Option.some.injEq, Prod.mk.injEq] at hd
       obtain ⟨rfl, rfl⟩ := hd
       have hlt := take_lt r 64
       refine ⟨w64_in _, by omega, ?_, by omega, by omega⟩
       unfold timeC
       rw [if_pos hn]
       have : u64 (w64 (numB (r.take 64) : Int)) = numB (r.take 64) := by
        have hlt' : numB (r.take 64) < 18446744073709551616 := hlt
        unfold u64 w64; omega
       rw [this, valB_take (by omega)]
     ·rename_i hn
      split at hd
      ·rename_i hz
       simp only [Option.some.injEq, Prod.mk.injEq] at hd
       obtain ⟨rfl, rfl⟩ := hd
       obtain ⟨m, len, c, hZ⟩ : ∃ m len c, zget r = (m, len, c) := ⟨_, _, _, rfl⟩
       rw [hZ] at hz ⊢
       simp only at hz
       subst hz
       obtain ⟨z1, z2, z3⟩ := zget_only hZ
       have hlen := zenc_pos m
       have hll : len = (zenc m).length := by rw [← z1, List.length_take]; omega
       refine ⟨w64_in _, z2, ?_, by simp only; omega, by simp only; omega⟩
       unfold timeC
       rw [if_neg hn, time_only (unfoldZ_bd m z3), fold_unfold]
       exact z1.symm
      ·cases hd
    obtain ⟨a1, a2, a3, a4, a5⟩ := key
    rw [List.length_drop] at h1
    refine ⟨by omega, ?_, a1, h3, by omega, fun hn => ?_, by omega⟩
    ·unfold encC
     rw [a3, h2]
     simp only [Prod.mk.injEq, and_true]
     rw [List.take_add]
    ·by_cases h9 : t' ≤ e.last
     ·exact absurd ⟨hn, h9⟩ hrise
     ·omega
   ·cases h
def lastC (e : EC) (l : List (Int × Nat)) : EC := l.foldl (fun e s => (encC e s.1 s.2).2) e
def codesC (e : EC) : List (Int × Nat) → List Bool
 | [] => []
 | s :: l => (encC e s.1 s.2).1 ++ codesC (encC e s.1 s.2).2 l
theorem lastC_snoc (e : EC) (l : List (Int × Nat)) (s : Int × Nat) : lastC e (l ++ [s]) = (encC (lastC e l) s.1 s.2).2 := by simp [lastC, List.foldl_append]
theorem codesC_snoc (l : List (Int × Nat)) (s : Int × Nat) : ∀ e : EC, codesC e (l ++ [s]) = codesC e l ++ (encC (lastC e l) s.1 s.2).1 := by
 induction l with
 | nil => intro e; simp [codesC, lastC]
 | cons u l ih => intro e; simp only [List.cons_append, codesC, ih, List.append_assoc]; rfl
theorem codesC_app (l m : List (Int × Nat)) : ∀ e : EC, codesC e (l ++ m) = codesC e l ++ codesC (lastC e l) m := by
 induction l with
 | nil => intro e; simp [codesC, lastC]
 | cons u l ih => intro e; simp only [List.cons_append, codesC, ih, List.append_assoc]; rfl
def InC (l : List (Int × Nat)) : Prop := ∀ s ∈ l, in64 s.1 ∧ s.2 < 18446744073709551616
def RiseC (e : EC) : List (Int × Nat) → Prop
 | [] => True
 | s :: l => (e.n ≠ 0 → e.last < s.1) ∧ RiseC (encC e s.1 s.2).2 l
theorem rows_ok (l : List (Int × Nat)) : ∀ e : EC, OkC e → 0 ≤ e.n → e.n + l.length ≤ 1000000 → InC l → OkC (lastC e l) ∧ (lastC e l).n = e.n + l.length ∧ (codesC e l).length ≤ 146 * l.length ∧ 2 * l.length ≤ (codesC e l).length := by
 induction l with
 | nil => intro e he hn hb _; exact ⟨he, by simp [lastC], by simp [codesC], by simp [codesC]⟩
 | cons s l ih =>
  intro e he hn hb hi
  obtain ⟨i1, i2⟩ := hi s List.mem_cons_self
  simp only [List.length_cons] at hb
  obtain ⟨h1, h2, -⟩ := encC_ok he ⟨hn, by omega⟩ i1 i2
  obtain ⟨k1, k2, k3, k4⟩ := ih _ h1 (by omega) (by rw [h2]; omega) (fun x hx => hi x (List.mem_cons_of_mem _ hx))
  have := encC_length he s.1 i2
  refine ⟨k1, by show (lastC (encC e s.1 s.2).2 l).n = _; rw [k2, h2]; simp; omega, ?_, ?_⟩
  ·simp only [codesC, List.length_append, List.length_cons]; omega
  ·simp only [codesC, List.length_append, List.length_cons]; omega
theorem mayC_zero {e : EC} (he : OkC e) (t : Int) : mayC e t = 0 ↔ (e.n ≠ 0 → e.last < t) := by
 unfold mayC
 rw [if_neg (by rw [he.snd]; decide)]
 by_cases h : e.n ≠ 0 ∧ t ≤ e.last
 ·rw [if_pos h]
  constructor
  ·intro h0; cases h0
  ·intro h0; have := h0 h.1; omega
 ·rw [if_neg h]
  refine ⟨fun _ hn => ?_, fun _ => rfl⟩
  by_cases h2 : t ≤ e.last
  ·exact absurd ⟨hn, h2⟩ h
  ·omega
end Go.Proofs.YtmcdollkmlcpbaaGreatDoor
namespace Go.Proofs.YtmcdollkmlcpbaaGreatDoor
theorem RiseC.snoc {l : List (Int × Nat)} {s : Int × Nat} : ∀ {e : EC}, RiseC e l → ((lastC e l).n ≠ 0 → (lastC e l).last < s.1) → RiseC e (l ++ [s]) := by
 induction l with
 | nil => intro e _ h; exact ⟨h, trivial⟩
 | cons u l ih => intro e h1 h2; exact ⟨h1.1, ih h1.2 h2⟩
theorem RiseC.next {l : List (Int × Nat)} {s : Int × Nat} : ∀ {e : EC}, RiseC e (l ++ [s]) → RiseC e l ∧ ((lastC e l).n ≠ 0 → (lastC e l).last < s.1) := by
 induction l with
 | nil => intro e h; exact ⟨trivial, h.1⟩
 | cons u l ih => intro e h; exact ⟨⟨h.1, (ih h.2).1⟩, (ih h.2).2⟩
theorem lastC_last (l : List (Int × Nat)) (s : Int × Nat) (e : EC) : (lastC e (l ++ [s])).last = s.1 := by rw [lastC_snoc]; rfl
theorem RiseC_iff (l : List (Int × Nat)) : InC l → l.length ≤ 1000000 → (RiseC ec0 l ↔ ∀ i (h : i + 1 < l.length), (l[i]'(by omega)).1 < l[i + 1].1) := by
 refine snoc_ind (P := fun l => InC l → l.length ≤ 1000000 → (RiseC ec0 l ↔ ∀ i (h : i + 1 < l.length), (l[i]'(by omega)).1 < l[i + 1].1)) ?_ ?_ l
 ·intro _ _
  exact ⟨fun _ i h => by simp at h, fun _ => trivial⟩
 ·intro l s ih hi hb
  have hi' : InC l := fun x hx => hi x (by simp [hx])
  rw [List.length_append, List.length_singleton] at hb
  have hk := rows_ok l ec0 ok0 (Int.le_refl _) (by show (0 : Int) + _ ≤ _; omega) hi'
  have hn : (lastC ec0 l).n = l.length := by rw [hk.2.1]; show (0 : Int) + _ = _; omega
  constructor
  ·intro h i hl
   obtain ⟨h1, h2⟩ := RiseC.next h
   rw [List.length_append, List.length_singleton] at hl
   by_cases hlt : i + 1 < l.length
   ·rw [List.getElem_append_left (by omega), List.getElem_append_left hlt]
    exact (ih hi' (by omega)).1 h1 i hlt
   ·have hil : i + 1 = l.length := by omega
    have e2 : (l ++ [s])[i + 1] = s := by rw [List.getElem_append_right (by omega)]; simp [hil]
    rw [e2, List.getElem_append_left (by omega)]
    have hlast : (lastC ec0 l).last = (l[i]'(by omega)).1 := by
     have : l = l.take i ++ [l[i]'(by omega)] := by rw [List.take_append_getElem (by omega), List.take_of_length_le (by omega)]
     conv => lhs; rw [this]
     exact lastC_last _ _ _
    rw [← hlast]
    exact h2 (by rw [hn]; omega)
  ·intro h
   refine RiseC.snoc ((ih hi' (by omega)).2 fun i hl => ?_) fun hne => ?_
   ·have := h i (by rw [List.length_append, List.length_singleton]; omega)
    rwa [List.getElem_append_left (by omega), List.getElem_append_left hl] at this
   ·have hpos : 0 < l.length := by rw [hn] at hne; omega
    have := h (l.length - 1) (by rw [List.length_append, List.length_singleton]; omega)
    rw [List.getElem_append_left (by omega), List.getElem_append_right (by omega)] at this
    simp only [show l.length - 1 + 1 - l.length = 0 by omega, List.getElem_cons_zero] at this
    have hlast : (lastC ec0 l).last = (l[l.length - 1]'(by omega)).1 := by
     have : l = l.take (l.length - 1) ++ [l[l.length - 1]'(by omega)] := by rw [List.take_append_getElem (by omega), List.take_of_length_le (by omega)]
     conv => lhs; rw [this]
     exact lastC_last _ _ _
    rw [hlast]; exact this
end Go.Proofs.YtmcdollkmlcpbaaGreatDoor
set_option linter.unusedSimpArgs false
set_option linter.unusedVariables false
namespace Go.Proofs.YtmcdollkmlcpbaaGreatDoor
abbrev Sm := Int × Nat
def bitsL (L : List Sm) : List Bool := codesC ec0 L
def endN (L : List Sm) (j : Nat) : Nat := (bitsL (L.take j)).length
def endsI (L : List Sm) : List Int := (List.range L.length).map fun j => ((endN L (j + 1) : Nat) : Int)
theorem endN_zero (L : List Sm) : endN L 0 = 0 := rfl
theorem endN_all (L : List Sm) : endN L L.length = (bitsL L).length := by unfold endN; rw [List.take_length]
theorem endN_snoc (L : List Sm) (s : Sm) (j : Nat) (h : j ≤ L.length) : endN (L ++ [s]) j = endN L j := by
 unfold endN
 rw [List.take_append_of_le_length h]
theorem endsI_len (L : List Sm) : (endsI L).length = L.length := by unfold endsI; simp
theorem endsI_get {L : List Sm} {j : Nat} (h : j < L.length) : (endsI L)[j]? = some ((endN L (j + 1) : Nat) : Int) := by
 unfold endsI
 rw [List.getElem?_map, List.getElem?_range h]
 rfl
theorem endsI_snoc (L : List Sm) (s : Sm) : endsI (L ++ [s]) = endsI L ++ [(((bitsL (L ++ [s])).length : Nat) : Int)] := by
 refine List.ext_getElem? fun j => ?_
 rcases Nat.lt_trichotomy j L.length with h | h | h
 ·rw [endsI_get (by rw [List.length_append]; omega), List.getElem?_append_left (by rw [endsI_len]; exact h), endsI_get h, endN_snoc L s _ (by omega)]
 ·subst h
  rw [endsI_get (by rw [List.length_append]; simp), List.getElem?_append_right (by rw [endsI_len]; exact Nat.le_refl _), endsI_len, Nat.sub_self]
  have : endN (L ++ [s]) (L.length + 1) = (bitsL (L ++ [s])).length := by
   have := endN_all (L ++ [s])
   rw [List.length_append] at this
   exact this
  rw [this]
  rfl
 ·rw [List.getElem?_eq_none (by rw [endsI_len, List.length_append]; simp; omega), List.getElem?_eq_none (by rw [List.length_append, endsI_len]; simp; omega)]
theorem endN_mono (L : List Sm) {i j : Nat} (h : i ≤ j) : endN L i ≤ endN L j := by
 unfold endN
 have e : L.take j = L.take i ++ (L.take j).drop i := by
  have := List.take_append_drop i (L.take j)
  rw [List.take_take, Nat.min_eq_left h] at this
  exact this.symm
 rw [e]
 unfold bitsL
 rw [codesC_app, List.length_append]
 omega
theorem endN_le (L : List Sm) (j : Nat) : endN L j ≤ (bitsL L).length := by
 rcases Nat.lt_or_ge j L.length with h | h
 ·rw [← endN_all]; exact endN_mono L (Nat.le_of_lt h)
 ·unfold endN; rw [List.take_of_length_le h]; exact Nat.le_refl _
def cutB (L : List Sm) (i j : Nat) : List Bool := ((bitsL L).take (endN L j)).drop (endN L i)
theorem cutB_len (L : List Sm) {i j : Nat} (h : i ≤ j) : (cutB L i j).length = endN L j - endN L i := by
 unfold cutB
 rw [List.length_drop, List.length_take]
 have := endN_le L j
 omega
def cutGo (L : List Sm) (a : Nat) (most : Int) : Nat → Nat → Nat
 | 0, c => c
 | f + 1, c => if c < L.length ∧ ((endN L (c + 1) : Nat) : Int) - ((endN L a : Nat) : Int) ≤ most then cutGo L a most f (c + 1) else c
def cutTo (L : List Sm) (a : Nat) (most : Int) : Nat := cutGo L a most (L.length - (a + 1)) (a + 1)
theorem cutGo_le (L : List Sm) (a : Nat) (most : Int) : ∀ f c, c ≤ cutGo L a most f c ∧ cutGo L a most f c ≤ c + f
 | 0, c => ⟨Nat.le_refl _, Nat.le_refl _⟩
 | f + 1, c => by
  unfold cutGo
  split
  ·have := cutGo_le L a most f (c + 1); omega
  ·omega
theorem cutTo_le {L : List Sm} {a : Nat} {most : Int} (h : a < L.length) : a < cutTo L a most ∧ cutTo L a most ≤ L.length := by
 have := cutGo_le L a most (L.length - (a + 1)) (a + 1)
 unfold cutTo
 omega
end Go.Proofs.YtmcdollkmlcpbaaGreatDoor
namespace Go.Proofs.YtmcdollkmlcpbaaGreatDoor
theorem get_bit {l : List UInt8} {m a : Nat} (hs : soundB l (m : Int) = true) (ha : a ≤ m) :
  ((bitl l m).drop a = [] ∧ m = a ∧ getSpec l (m : Int) (a : Int) 1 = (0, 10)) ∨
  (∃ (b : Bool) (r : List Bool), (bitl l m).drop a = b :: r ∧ a + 1 ≤ m ∧ (bitl l m).drop (a + 1) = r ∧ getSpec l (m : Int) (a : Int) 1 = (b2n b, 0)) := by
 have h0 := get_front (d := 1) hs ha (by omega)
 rw [show ((1 : Nat) : Int) = 1 from rfl] at h0
 have hlen : ((bitl l m).drop a).length = m - a := by rw [List.length_drop, bitl_length]
 have hdr : (bitl l m).drop (a + 1) = ((bitl l m).drop a).drop 1 := by rw [List.drop_drop]
 rw [hdr, h0]
 cases h : (bitl l m).drop a with
 | nil =>
  rw [h] at hlen
  simp only [List.length_nil] at hlen
  exact Or.inl ⟨rfl, by omega, by simp⟩
 | cons b r =>
  rw [h] at hlen
  simp only [List.length_cons] at hlen
  refine Or.inr ⟨b, r, rfl, by omega, rfl, ?_⟩
  rw [if_neg (by simp)]
  simp only [List.take_succ_cons, List.take_zero]
  have : numB [b] = b2n b := by
   have := numB_snoc [] b
   rw [numB_nil] at this
   simpa using this
  rw [this]
end Go.Proofs.YtmcdollkmlcpbaaGreatDoor
