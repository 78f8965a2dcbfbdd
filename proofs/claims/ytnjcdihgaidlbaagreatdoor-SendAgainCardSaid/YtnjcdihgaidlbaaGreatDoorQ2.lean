/- Joined: MathX, MathK, MathM, MathB. -/
import Derived.Test.YtnjcdihgaidlbaaGreatDoorQ1
import Derived.Lib.TrailingZeros
import Derived.Lib.BitFns
import Derived.Lib.ItoaNum
set_option linter.unusedSimpArgs false
set_option linter.unusedVariables false
namespace Go.Proofs.YtnjcdihgaidlbaaGreatDoor
structure XV where
 has : Bool
 prev : Nat
 lead : Nat
 width : Nat
def xv0 : XV := ⟨false, 0, 0, 0⟩
def soundX (s : XV) : Bool := if s.has then decide (s.lead ≤ 31 ∧ s.lead + s.width ≤ 64 ∧ (0 < s.width ∨ s.lead = 0)) else decide (s.prev = 0 ∧ s.lead = 0 ∧ s.width = 0)
def holdsX (lead width d : Nat) : Bool := decide (d % 2 ^ (64 - lead - width) = 0 ∧ d < 2 ^ (64 - lead))
def leadX (d : Nat) : Nat := min (64 - Lib.bitLen d) 31
def widX (d : Nat) : Nat := 64 - leadX d - Lib.ctz 64 d
def encX (s : XV) (v : Nat) : List Bool × XV :=
 if s.has = false then (valB v 64, ⟨true, v, 0, 0⟩)
 else if v ^^^ s.prev = 0 then ([false], s)
 else if holdsX s.lead s.width (v ^^^ s.prev) then (true :: false :: valB ((v ^^^ s.prev) / 2 ^ (64 - s.lead - s.width)) s.width, ⟨true, v, s.lead, s.width⟩)
 else (true :: true :: (valB (leadX (v ^^^ s.prev)) 5 ++ valB (widX (v ^^^ s.prev) - 1) 6 ++ valB ((v ^^^ s.prev) / 2 ^ (64 - leadX (v ^^^ s.prev) - widX (v ^^^ s.prev))) (widX (v ^^^ s.prev))), ⟨true, v, leadX (v ^^^ s.prev), widX (v ^^^ s.prev)⟩)
theorem bitLen_two (d : Nat) (h0 : d ≠ 0) (h : d < 2 ^ 64) : 1 ≤ Lib.bitLen d ∧ Lib.bitLen d ≤ 64 ∧ 2 ^ (Lib.bitLen d - 1) ≤ d ∧ d < 2 ^ Lib.bitLen d := by
 have := Lib.bitLenAux_bounds 64 d h h0
 exact ⟨this.1, Lib.bitLen_le d 64 (Nat.le_refl _) h, this.2.1, this.2.2⟩
theorem ctz_two (d : Nat) (h0 : d ≠ 0) (h : d < 2 ^ 64) : ∃ m, d = 2 ^ Lib.ctz 64 d * (2 * m + 1) ∧ Lib.ctz 64 d < 64 := by
 unfold Lib.ctz
 rw [if_neg h0]
 exact Lib.ctzFrom_spec 64 d (by omega) h
theorem ctz_dvd (d : Nat) (h0 : d ≠ 0) (h : d < 2 ^ 64) (k : Nat) : d % 2 ^ k = 0 ↔ k ≤ Lib.ctz 64 d := by
 obtain ⟨m, hm, _⟩ := ctz_two d h0 h
 generalize Lib.ctz 64 d = c at *
 subst hm
 constructor
 ·intro hd
  rcases Nat.lt_or_ge c k with hlt | hge
  ·exfalso
   have h1 : 2 ^ (c + 1) ∣ 2 ^ c * (2 * m + 1) := Nat.dvd_trans (Nat.pow_dvd_pow 2 hlt) (Nat.dvd_of_mod_eq_zero hd)
   rw [Nat.pow_succ] at h1
   have := Nat.dvd_of_mul_dvd_mul_left (Nat.two_pow_pos c) h1
   omega
  ·exact hge
 ·intro hk
  exact Nat.mod_eq_zero_of_dvd (Nat.dvd_trans (Nat.pow_dvd_pow 2 hk) (Nat.dvd_mul_right _ _))
theorem bitLen_lt (d : Nat) (h0 : d ≠ 0) (h : d < 2 ^ 64) (k : Nat) : d < 2 ^ k ↔ Lib.bitLen d ≤ k := by
 obtain ⟨h1, h2, h3, h4⟩ := bitLen_two d h0 h
 constructor
 ·intro hd
  rcases Nat.lt_or_ge k (Lib.bitLen d) with hlt | hge
  ·have := Nat.pow_le_pow_right (show 0 < 2 by decide) (show k ≤ Lib.bitLen d - 1 by omega)
   omega
  ·exact hge
 ·intro hk
  have := Nat.pow_le_pow_right (show 0 < 2 by decide) hk
  omega
theorem ctz_lt_len (d : Nat) (h0 : d ≠ 0) (h : d < 2 ^ 64) : Lib.ctz 64 d < Lib.bitLen d := by
 obtain ⟨m, hm, hc⟩ := ctz_two d h0 h
 have h4 := (bitLen_two d h0 h).2.2.2
 rcases Nat.lt_or_ge (Lib.ctz 64 d) (Lib.bitLen d) with hlt | hge
 ·exact hlt
 ·exfalso
  have h5 := Nat.pow_le_pow_right (show 0 < 2 by decide) hge
  have h6 : 2 ^ Lib.ctz 64 d * 1 ≤ 2 ^ Lib.ctz 64 d * (2 * m + 1) := Nat.mul_le_mul_left _ (by omega)
  omega
theorem narrow_facts (d : Nat) (h0 : d ≠ 0) (h : d < 2 ^ 64) : leadX d ≤ 31 ∧ 1 ≤ widX d ∧ leadX d + widX d ≤ 64 ∧ 64 - leadX d - widX d = Lib.ctz 64 d ∧ holdsX (leadX d) (widX d) d = true := by
 have h1 := bitLen_two d h0 h
 have h2 := ctz_lt_len d h0 h
 have hc := (ctz_two d h0 h).choose_spec.2
 have hl : leadX d ≤ 64 - Lib.bitLen d := Nat.min_le_left _ _
 have hl2 : leadX d ≤ 31 := Nat.min_le_right _ _
 have e : 64 - leadX d - widX d = Lib.ctz 64 d := by unfold widX; omega
 refine ⟨hl2, by unfold widX; omega, by unfold widX; omega, e, ?_⟩
 unfold holdsX
 rw [e, decide_eq_true_eq]
 exact ⟨(ctz_dvd d h0 h _).2 (Nat.le_refl _), (bitLen_lt d h0 h _).2 (by omega)⟩
theorem xor_back (v p : Nat) : (v ^^^ p) ^^^ p = v := by rw [Nat.xor_assoc, Nat.xor_self, Nat.xor_zero]
theorem xor_lt64 {v p : Nat} (hv : v < 2 ^ 64) (hp : p < 2 ^ 64) : v ^^^ p < 2 ^ 64 := Nat.xor_lt_two_pow hv hp
theorem xor_zero_iff {v p : Nat} : v ^^^ p = 0 ↔ v = p := by
 constructor
 ·intro h
  have := xor_back v p
  rw [h, Nat.zero_xor] at this
  exact this.symm
 ·rintro rfl; exact Nat.xor_self _
theorem enc_sound {s : XV} {v : Nat} (hs : soundX s = true) (hp : s.prev < 2 ^ 64) (hv : v < 2 ^ 64) : soundX (encX s v).2 = true ∧ (encX s v).2.prev = v ∧ (encX s v).2.has = true ∧ (encX s v).2.lead ≤ 31 ∧ (encX s v).2.width ≤ 64 := by
 unfold encX
 split
 ·exact ⟨rfl, rfl, rfl, Nat.zero_le _, Nat.zero_le _⟩
 ·rename_i hh
  have hh : s.has = true := by simpa using hh
  have hs' := hs
  unfold soundX at hs'
  rw [hh] at hs'
  simp only [if_true, decide_eq_true_eq] at hs'
  split
  ·rename_i h0
   exact ⟨hs, (xor_zero_iff.1 h0).symm, hh, hs'.1, by simp only; omega⟩
  ·rename_i h0
   split
   ·refine ⟨?_, rfl, rfl, hs'.1, by simp only; omega⟩
    unfold soundX
    simp only [if_true, decide_eq_true_eq]
    exact hs'
   ·obtain ⟨n1, n2, n3, _⟩ := narrow_facts _ h0 (xor_lt64 hv hp)
    refine ⟨?_, rfl, rfl, n1, by simp only; omega⟩
    unfold soundX
    simp only [if_true, decide_eq_true_eq]
    exact ⟨n1, n3, .inl (by omega)⟩
theorem enc_len {s : XV} {v : Nat} (hs : soundX s = true) (hp : s.prev < 2 ^ 64) (hv : v < 2 ^ 64) : 1 ≤ (encX s v).1.length ∧ (encX s v).1.length ≤ 77 := by
 unfold encX
 split
 ·simp [valB_length]
 ·rename_i hh
  have hh : s.has = true := by simpa using hh
  unfold soundX at hs
  rw [hh] at hs
  simp only [if_true, decide_eq_true_eq] at hs
  split
  ·simp
  ·rename_i h0
   obtain ⟨n1, n2, n3, _⟩ := narrow_facts _ h0 (xor_lt64 hv hp)
   split
   ·simp [valB_length]; omega
   ·simp [valB_length]; omega
end Go.Proofs.YtnjcdihgaidlbaaGreatDoor
namespace Go.Proofs.YtnjcdihgaidlbaaGreatDoor
structure EC where
 n : Int
 last : Int
 delta : Int
 val : XV
def ec0 : EC := ⟨0, 0, 0, xv0⟩
def w64 (x : Int) : Int := (x + 9223372036854775808) % 18446744073709551616 - 9223372036854775808
def u64 (x : Int) : Nat := (x % 18446744073709551616).toNat
def in64 (x : Int) : Prop := -9223372036854775808 ≤ x ∧ x ≤ 9223372036854775807
theorem w64_in (x : Int) : in64 (w64 x) := by unfold w64 in64; omega
theorem w64_id {x : Int} (h : in64 x) : w64 x = x := by unfold w64 in64 at *; omega
theorem u64_lt (x : Int) : u64 x < 18446744073709551616 := by unfold u64; omega
def soundC (e : EC) : Bool := if e.n = 0 then decide (e.last = 0 ∧ e.delta = 0 ∧ e.val.has = false ∧ e.val.prev = 0 ∧ e.val.lead = 0 ∧ e.val.width = 0) else decide (0 < e.n) && (e.val.has && soundX e.val)
def deltaC (e : EC) (t : Int) : Int := if e.n = 0 then 0 else w64 (t - e.last)
def timeC (e : EC) (t : Int) : List Bool := if e.n = 0 then valB (u64 t) 64 else zenc (foldZ (w64 (w64 (t - e.last) - e.delta)))
def encC (e : EC) (t : Int) (v : Nat) : List Bool × EC := (timeC e t ++ (encX e.val v).1, ⟨w64 (e.n + 1), t, deltaC e t, (encX e.val v).2⟩)
def mayC (e : EC) (t : Int) : Nat := if soundC e = false then 61 else if e.n ≠ 0 ∧ t ≤ e.last then 60 else 0
structure OkC (e : EC) : Prop where
 snd : soundC e = true
 n : in64 e.n
 last : in64 e.last
 delta : in64 e.delta
 prev : e.val.prev < 18446744073709551616
theorem OkC.val {e : EC} (h : OkC e) : soundX e.val = true := by
 have hs := h.snd
 unfold soundC at hs
 split at hs
 ·simp only [decide_eq_true_eq] at hs
  unfold soundX
  rw [hs.2.2.1]
  simp [hs.2.2.2]
 ·simp only [Bool.and_eq_true] at hs
  exact hs.2.2
theorem in00 : in64 0 := by unfold in64; omega
theorem ok0 : OkC ec0 := ⟨rfl, in00, in00, in00, by decide⟩
theorem timeC_length (e : EC) (t : Int) : 1 ≤ (timeC e t).length ∧ (timeC e t).length ≤ 69 := by
 unfold timeC
 split
 ·rw [valB_length]; omega
 ·exact zenc_pos _
theorem encC_length {e : EC} (he : OkC e) (t : Int) {v : Nat} (hv : v < 18446744073709551616) : 2 ≤ (encC e t v).1.length ∧ (encC e t v).1.length ≤ 146 := by
 have h1 := timeC_length e t
 have h2 := enc_len he.val he.prev hv
 simp only [encC, List.length_append]
 omega
theorem encC_ok {e : EC} (he : OkC e) (hn : 0 ≤ e.n ∧ e.n < 9223372036854775807) {t : Int} (ht : in64 t) {v : Nat} (hv : v < 18446744073709551616) : OkC (encC e t v).2 ∧ (encC e t v).2.n = e.n + 1 ∧ (encC e t v).2.last = t := by
 obtain ⟨h1, h2, h3, -, -⟩ := enc_sound he.val he.prev hv
 have e1 : w64 (e.n + 1) = e.n + 1 := w64_id (by unfold in64; omega)
 refine ⟨⟨?_, ?_, ht, ?_, ?_⟩, e1, rfl⟩
 ·show soundC ⟨w64 (e.n + 1), t, deltaC e t, (encX e.val v).2⟩ = true
  rw [e1]
  unfold soundC
  rw [if_neg (by simp only; omega)]
  simp only [h1, h3, Bool.and_true, Bool.true_and, decide_eq_true_eq]
  omega
 ·exact w64_in _
 ·show in64 (deltaC e t)
  unfold deltaC
  split
  ·exact in00
  ·exact w64_in _
 ·show (encX e.val v).2.prev < _
  rw [h2]; exact hv
def lastC (e : EC) (l : List (Int × Nat)) : EC := l.foldl (fun e s => (encC e s.1 s.2).2) e
def codesC (e : EC) : List (Int × Nat) → List Bool
 | [] => []
 | s :: l => (encC e s.1 s.2).1 ++ codesC (encC e s.1 s.2).2 l
theorem lastC_snoc (e : EC) (l : List (Int × Nat)) (s : Int × Nat) : lastC e (l ++ [s]) = (encC (lastC e l) s.1 s.2).2 := by simp [lastC, List.foldl_append]
theorem codesC_snoc (l : List (Int × Nat)) (s : Int × Nat) : ∀ e : EC, codesC e (l ++ [s]) = codesC e l ++ (encC (lastC e l) s.1 s.2).1 := by
 induction l with
 | nil => intro e; simp [codesC, lastC]
 | cons u l ih => intro e; simp only [List.cons_append, codesC, ih, List.append_assoc]; rfl
theorem codesC_app (l m : List (Int × Nat)) : ∀ e : EC, codesC e (l ++ m) = codesC e l ++ codesC (lastC e l) m := by
 induction l with
 | nil => intro e; simp [codesC, lastC]
 | cons u l ih => intro e; simp only [List.cons_append, codesC, ih, List.append_assoc]; rfl
def InC (l : List (Int × Nat)) : Prop := ∀ s ∈ l, in64 s.1 ∧ s.2 < 18446744073709551616
theorem rows_ok (l : List (Int × Nat)) : ∀ e : EC, OkC e → 0 ≤ e.n → e.n + l.length ≤ 1000000 → InC l → OkC (lastC e l) ∧ (lastC e l).n = e.n + l.length ∧ (codesC e l).length ≤ 146 * l.length ∧ 2 * l.length ≤ (codesC e l).length := by
 induction l with
 | nil => intro e he hn hb _; exact ⟨he, by simp [lastC], by simp [codesC], by simp [codesC]⟩
 | cons s l ih =>
  intro e he hn hb hi
  obtain ⟨i1, i2⟩ := hi s List.mem_cons_self
  simp only [List.length_cons] at hb
  obtain ⟨h1, h2, -⟩ := encC_ok he ⟨hn, by omega⟩ i1 i2
  obtain ⟨k1, k2, k3, k4⟩ := ih _ h1 (by omega) (by rw [h2]; omega) (fun x hx => hi x (List.mem_cons_of_mem _ hx))
  have := encC_length he s.1 i2
  refine ⟨k1, by show (lastC (encC e s.1 s.2).2 l).n = _; rw [k2, h2]; simp; omega, ?_, ?_⟩
  ·simp only [codesC, List.length_append, List.length_cons]; omega
  ·simp only [codesC, List.length_append, List.length_cons]; omega
theorem mayC_zero {e : EC} (he : OkC e) (t : Int) : mayC e t = 0 ↔ (e.n ≠ 0 → e.last < t) := by
 unfold mayC
 rw [if_neg (by rw [he.snd]; decide)]
 by_cases h : e.n ≠ 0 ∧ t ≤ e.last
 ·rw [if_pos h]
  constructor
  ·intro h0; cases h0
  ·intro h0; have := h0 h.1; omega
 ·rw [if_neg h]
  refine ⟨fun _ hn => ?_, fun _ => rfl⟩
  by_cases h2 : t ≤ e.last
  ·exact absurd ⟨hn, h2⟩ h
  ·omega
end Go.Proofs.YtnjcdihgaidlbaaGreatDoor
namespace Go.Proofs.YtnjcdihgaidlbaaGreatDoor
theorem lastC_last (l : List (Int × Nat)) (s : Int × Nat) (e : EC) : (lastC e (l ++ [s])).last = s.1 := by rw [lastC_snoc]; rfl
end Go.Proofs.YtnjcdihgaidlbaaGreatDoor
set_option linter.unusedSimpArgs false
set_option linter.unusedVariables false
namespace Go.Proofs.YtnjcdihgaidlbaaGreatDoor
abbrev Sm := Int × Nat
def bitsL (L : List Sm) : List Bool := codesC ec0 L
def endN (L : List Sm) (j : Nat) : Nat := (bitsL (L.take j)).length
def endsI (L : List Sm) : List Int := (List.range L.length).map fun j => ((endN L (j + 1) : Nat) : Int)
theorem endN_zero (L : List Sm) : endN L 0 = 0 := rfl
theorem endN_all (L : List Sm) : endN L L.length = (bitsL L).length := by unfold endN; rw [List.take_length]
theorem endN_snoc (L : List Sm) (s : Sm) (j : Nat) (h : j ≤ L.length) : endN (L ++ [s]) j = endN L j := by
 unfold endN
 rw [List.take_append_of_le_length h]
theorem endsI_len (L : List Sm) : (endsI L).length = L.length := by unfold endsI; simp
theorem endsI_get {L : List Sm} {j : Nat} (h : j < L.length) : (endsI L)[j]? = some ((endN L (j + 1) : Nat) : Int) := by
 unfold endsI
 rw [List.getElem?_map, List.getElem?_range h]
 rfl
theorem endsI_snoc (L : List Sm) (s : Sm) : endsI (L ++ [s]) = endsI L ++ [(((bitsL (L ++ [s])).length : Nat) : Int)] := by
 refine List.ext_getElem? fun j => ?_
 rcases Nat.lt_trichotomy j L.length with h | h | h
 ·rw [endsI_get (by rw [List.length_append]; omega), List.getElem?_append_left (by rw [endsI_len]; exact h), endsI_get h, endN_snoc L s _ (by omega)]
 ·subst h
  rw [endsI_get (by rw [List.length_append]; simp), List.getElem?_append_right (by rw [endsI_len]; exact Nat.le_refl _), endsI_len, Nat.sub_self]
  have : endN (L ++ [s]) (L.length + 1) = (bitsL (L ++ [s])).length := by
   have := endN_all (L ++ [s])
   rw [List.length_append] at this
   exact this
  rw [this]
  rfl
 ·rw [List.getElem?_eq_none (by rw [endsI_len, List.length_append]; simp; omega), List.getElem?_eq_none (by rw [List.length_append, endsI_len]; simp; omega)]
theorem endN_mono (L : List Sm) {i j : Nat} (h : i ≤ j) : endN L i ≤ endN L j := by
 unfold endN
 have e : L.take j = L.take i ++ (L.take j).drop i := by
  have := List.take_append_drop i (L.take j)
  rw [List.take_take, Nat.min_eq_left h] at this
  exact this.symm
 rw [e]
 unfold bitsL
 rw [codesC_app, List.length_append]
 omega
theorem endN_le (L : List Sm) (j : Nat) : endN L j ≤ (bitsL L).length := by
 rcases Nat.lt_or_ge j L.length with h | h
 ·rw [← endN_all]; exact endN_mono L (Nat.le_of_lt h)
 ·unfold endN; rw [List.take_of_length_le h]; exact Nat.le_refl _
def cutB (L : List Sm) (i j : Nat) : List Bool := ((bitsL L).take (endN L j)).drop (endN L i)
theorem cutB_len (L : List Sm) {i j : Nat} (h : i ≤ j) : (cutB L i j).length = endN L j - endN L i := by
 unfold cutB
 rw [List.length_drop, List.length_take]
 have := endN_le L j
 omega
def cutGo (L : List Sm) (a : Nat) (most : Int) : Nat → Nat → Nat
 | 0, c => c
 | f + 1, c => if c < L.length ∧ ((endN L (c + 1) : Nat) : Int) - ((endN L a : Nat) : Int) ≤ most then cutGo L a most f (c + 1) else c
def cutTo (L : List Sm) (a : Nat) (most : Int) : Nat := cutGo L a most (L.length - (a + 1)) (a + 1)
theorem cutGo_le (L : List Sm) (a : Nat) (most : Int) : ∀ f c, c ≤ cutGo L a most f c ∧ cutGo L a most f c ≤ c + f
 | 0, c => ⟨Nat.le_refl _, Nat.le_refl _⟩
 | f + 1, c => by
  unfold cutGo
  split
  ·have := cutGo_le L a most f (c + 1); omega
  ·omega
theorem cutTo_le {L : List Sm} {a : Nat} {most : Int} (h : a < L.length) : a < cutTo L a most ∧ cutTo L a most ≤ L.length := by
 have := cutGo_le L a most (L.length - (a + 1)) (a + 1)
 unfold cutTo
 omega
end Go.Proofs.YtnjcdihgaidlbaaGreatDoor
