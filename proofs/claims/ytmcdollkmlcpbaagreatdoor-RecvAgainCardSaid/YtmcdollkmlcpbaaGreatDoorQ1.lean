/- Joined: Math, MathC, MathL, MathJ, MathZ, MathR. -/
set_option linter.unusedSimpArgs false
set_option linter.unusedVariables false
set_option linter.unusedSimpArgs false
set_option linter.unusedVariables false
namespace Go.Proofs.YtmcdollkmlcpbaaGreatDoor
theorem snoc_ind {α : Type} {P : List α → Prop} (h0 : P []) (h1 : ∀ l a, P l → P (l ++ [a])) (l : List α) : P l := by
 rw [← List.reverse_reverse l]
 induction l.reverse with
 | nil => exact h0
 | cons a r ih => rw [List.reverse_cons]; exact h1 _ _ ih
def nb (n : Nat) : Nat := (n + 7) / 8
def bt (l : List UInt8) (i : Nat) : Bool := (l.getD (i / 8) 0).toNat.testBit (7 - i % 8)
def bitl (l : List UInt8) (n : Nat) : List Bool := (List.range n).map (bt l)
def b2n (b : Bool) : Nat := if b then 1 else 0
def byteOf (f : Nat → Bool) : Nat :=
 b2n (f 0) * 128 + b2n (f 1) * 64 + b2n (f 2) * 32 + b2n (f 3) * 16 + b2n (f 4) * 8 + b2n (f 5) * 4 + b2n (f 6) * 2 + b2n (f 7)
def pack (bs : List Bool) : List UInt8 := (List.range (nb bs.length)).map fun k => UInt8.ofNat (byteOf fun j => bs.getD (8 * k + j) false)
theorem b2n_le (b : Bool) : b2n b ≤ 1 := by cases b <;> decide
theorem byteOf_lt (f : Nat → Bool) : byteOf f < 256 := by
 have := b2n_le (f 0); have := b2n_le (f 1); have := b2n_le (f 2); have := b2n_le (f 3)
 have := b2n_le (f 4); have := b2n_le (f 5); have := b2n_le (f 6); have := b2n_le (f 7)
 unfold byteOf; omega
def eight (a0 a1 a2 a3 a4 a5 a6 a7 : Bool) : Nat := b2n a0 * 128 + b2n a1 * 64 + b2n a2 * 32 + b2n a3 * 16 + b2n a4 * 8 + b2n a5 * 4 + b2n a6 * 2 + b2n a7
theorem eight_bits : ∀ a0 a1 a2 a3 a4 a5 a6 a7 : Bool, (eight a0 a1 a2 a3 a4 a5 a6 a7).testBit 7 = a0 ∧ (eight a0 a1 a2 a3 a4 a5 a6 a7).testBit 6 = a1 ∧ (eight a0 a1 a2 a3 a4 a5 a6 a7).testBit 5 = a2 ∧ (eight a0 a1 a2 a3 a4 a5 a6 a7).testBit 4 = a3 ∧
  (eight a0 a1 a2 a3 a4 a5 a6 a7).testBit 3 = a4 ∧ (eight a0 a1 a2 a3 a4 a5 a6 a7).testBit 2 = a5 ∧ (eight a0 a1 a2 a3 a4 a5 a6 a7).testBit 1 = a6 ∧ (eight a0 a1 a2 a3 a4 a5 a6 a7).testBit 0 = a7 := by decide
theorem byteOf_bit (f : Nat → Bool) (j : Nat) (hj : j < 8) : (byteOf f).testBit (7 - j) = f j := by
 have e : byteOf f = eight (f 0) (f 1) (f 2) (f 3) (f 4) (f 5) (f 6) (f 7) := rfl
 rw [e]
 obtain ⟨h0, h1, h2, h3, h4, h5, h6, h7⟩ := eight_bits (f 0) (f 1) (f 2) (f 3) (f 4) (f 5) (f 6) (f 7)
 match j, hj with
 | 0, _ => exact h0
 | 1, _ => exact h1
 | 2, _ => exact h2
 | 3, _ => exact h3
 | 4, _ => exact h4
 | 5, _ => exact h5
 | 6, _ => exact h6
 | 7, _ => exact h7
theorem pack_length (bs : List Bool) : (pack bs).length = nb bs.length := by simp [pack]
theorem bitl_length (l : List UInt8) (n : Nat) : (bitl l n).length = n := by simp [bitl]
theorem bt_pack (bs : List Bool) (i : Nat) : bt (pack bs) i = bs.getD i false := by
 unfold bt
 by_cases h : i / 8 < nb bs.length
 ·have e : (pack bs).getD (i / 8) 0 = UInt8.ofNat (byteOf fun j => bs.getD (8 * (i / 8) + j) false) := by
   simp [pack, List.getD_eq_getElem?_getD, h]
  rw [e, UInt8.toNat_ofNat_of_lt' (byteOf_lt _), byteOf_bit _ _ (by omega)]
  congr 1; omega
 ·have e : (pack bs).getD (i / 8) 0 = 0 := by
   rw [List.getD_eq_getElem?_getD, List.getElem?_eq_none (by rw [pack_length]; omega)]; rfl
  rw [e]
  have : bs.getD i false = false := by
   rw [List.getD_eq_getElem?_getD, List.getElem?_eq_none (by unfold nb at h; omega)]; rfl
  rw [this]; simp
theorem bitl_succ (l : List UInt8) (n : Nat) : bitl l (n + 1) = bitl l n ++ [bt l n] := by simp [bitl, List.range_succ]
theorem bt_none (l : List UInt8) (i : Nat) (h : 8 * l.length ≤ i) : bt l i = false := by
 unfold bt
 rw [List.getD_eq_getElem?_getD, List.getElem?_eq_none (by omega)]; simp
theorem bytes_ext {l l' : List UInt8} (hl : l.length = l'.length) (h : ∀ i, i < 8 * l.length → bt l i = bt l' i) : l = l' := by
 apply List.ext_getElem hl
 intro k h1 h2
 apply UInt8.toNat_inj.1
 apply Nat.eq_of_testBit_eq
 intro j
 by_cases hj : j < 8
 ·have := h (8 * k + (7 - j)) (by omega)
  unfold bt at this
  rw [show (8 * k + (7 - j)) / 8 = k by omega, show 7 - (8 * k + (7 - j)) % 8 = j by omega] at this
  simpa [List.getD_eq_getElem?_getD, h1, h2] using this
 ·rw [Nat.testBit_lt_two_pow, Nat.testBit_lt_two_pow]
  ·have := l'[k].toNat_lt; exact Nat.lt_of_lt_of_le this (Nat.pow_le_pow_right (by decide) (show 8 ≤ j by omega))
  ·have := l[k].toNat_lt; exact Nat.lt_of_lt_of_le this (Nat.pow_le_pow_right (by decide) (show 8 ≤ j by omega))
def soundB (l : List UInt8) (n : Int) : Bool :=
 decide (0 ≤ n) && (decide (l.length = nb n.toNat) && (decide (n.toNat % 8 = 0) || decide ((l.getD (l.length - 1) 0).toNat * 2 ^ (n.toNat % 8) % 256 = 0)))
theorem low_zero (x k : Nat) (hk : k < 8) : x * 2 ^ k % 256 = 0 ↔ ∀ j, j < 8 - k → x.testBit j = false := by
 constructor
 ·intro h j hj
  have h1 : (x * 2 ^ k % 2 ^ 8).testBit (j + k) = false := by rw [show (2 : Nat) ^ 8 = 256 from rfl, h]; simp
  rw [Nat.testBit_mod_two_pow] at h1
  simpa [Nat.testBit_mul_two_pow, show j + k < 8 by omega] using h1
 ·intro h
  apply Nat.eq_of_testBit_eq
  intro i
  rw [show (256 : Nat) = 2 ^ 8 from rfl, Nat.testBit_mod_two_pow, Nat.testBit_mul_two_pow]
  by_cases h8 : i < 8
  ·by_cases hki : k ≤ i
   ·simp [h (i - k) (by omega)]
   ·simp [hki]
  ·simp [h8]
theorem soundB_iff (l : List UInt8) (n : Int) : soundB l n = true ↔ 0 ≤ n ∧ l.length = nb n.toNat ∧ ∀ i, n.toNat ≤ i → bt l i = false := by
 unfold soundB
 simp only [Bool.and_eq_true, Bool.or_eq_true, decide_eq_true_eq]
 constructor
 ·rintro ⟨h0, hl, h8⟩
  refine ⟨h0, hl, fun i hi => ?_⟩
  by_cases hb : 8 * l.length ≤ i
  ·exact bt_none l i hb
  ·have hlen : l.length = (n.toNat + 7) / 8 := hl
   rcases h8 with h8 | h8
   ·omega
   ·by_cases h8z : n.toNat % 8 = 0
    ·omega
    ·rw [low_zero _ _ (by omega)] at h8
     unfold bt
     rw [show i / 8 = l.length - 1 by omega]
     exact h8 _ (by omega)
 ·rintro ⟨h0, hl, h⟩
  refine ⟨h0, hl, ?_⟩
  by_cases h8z : n.toNat % 8 = 0
  ·exact .inl h8z
  ·right
   have hlen : l.length = (n.toNat + 7) / 8 := hl
   rw [low_zero _ _ (by omega)]
   intro j hj
   have := h (8 * (l.length - 1) + (7 - j)) (by omega)
   unfold bt at this
   rwa [show (8 * (l.length - 1) + (7 - j)) / 8 = l.length - 1 by omega, show 7 - (8 * (l.length - 1) + (7 - j)) % 8 = j by omega] at this
theorem sound_pack (bs : List Bool) : soundB (pack bs) bs.length = true := by
 rw [soundB_iff]
 refine ⟨by omega, by rw [pack_length]; rfl, fun i hi => ?_⟩
 rw [bt_pack, List.getD_eq_getElem?_getD, List.getElem?_eq_none (by omega)]; rfl
theorem bitl_get (l : List UInt8) (n i : Nat) : (bitl l n).getD i false = (if i < n then bt l i else false) := by
 unfold bitl
 rw [List.getD_eq_getElem?_getD, List.getElem?_map]
 by_cases h : i < n
 ·simp [h]
 ·simp [h]
theorem bits_pack (bs : List Bool) : bitl (pack bs) bs.length = bs := by
 apply List.ext_getElem (by simp [bitl_length])
 intro i h1 h2
 simp only [bitl, List.getElem_map, List.getElem_range]
 rw [bt_pack, List.getD_eq_getElem?_getD, List.getElem?_eq_getElem h2]; rfl
def numB (bs : List Bool) : Nat := bs.foldl (fun v b => 2 * v + b2n b) 0
def valB (v width : Nat) : List Bool := (List.range width).map fun i => v.testBit (width - 1 - i)
theorem numB_nil : numB [] = 0 := rfl
theorem numB_snoc (bs : List Bool) (b : Bool) : numB (bs ++ [b]) = 2 * numB bs + b2n b := by simp [numB, List.foldl_append]
theorem valB_length (v n : Nat) : (valB v n).length = n := by simp [valB]
theorem twice_bit (v : Nat) (b : Bool) (j : Nat) : (2 * v + b2n b).testBit j = if j = 0 then b else v.testBit (j - 1) := by
 cases j with
 | zero => cases b <;> simp [b2n, Nat.testBit_zero] <;> omega
 | succ j =>
  rw [Nat.testBit_succ]
  have := b2n_le b
  rw [show (2 * v + b2n b) / 2 = v by omega]
  simp
theorem testBit_numB (bs : List Bool) : ∀ j, (numB bs).testBit j = if j < bs.length then bs.getD (bs.length - 1 - j) false else false := by
 induction bs using snoc_ind with
 | h0 => intro j; simp [numB]
 | h1 bs b ih =>
  intro j
  rw [numB_snoc, twice_bit]
  by_cases hj : j = 0
  ·subst hj; simp
  ·rw [if_neg hj, ih]
   simp only [List.length_append, List.length_cons, List.length_nil]
   by_cases h : j - 1 < bs.length
   ·rw [if_pos h, if_pos (by omega), List.getD_eq_getElem?_getD, List.getD_eq_getElem?_getD, List.getElem?_append_left (by omega)]
    congr 2; omega
   ·rw [if_neg h, if_neg (by omega)]
theorem numB_lt (bs : List Bool) : numB bs < 2 ^ bs.length := by
 induction bs using snoc_ind with
 | h0 => simp [numB]
 | h1 bs b ih =>
  rw [numB_snoc]
  have := b2n_le b
  simp only [List.length_append, List.length_cons, List.length_nil, Nat.pow_succ, Nat.zero_add]
  omega
theorem valB_get (v n i : Nat) : (valB v n).getD i false = if i < n then v.testBit (n - 1 - i) else false := by
 unfold valB
 rw [List.getD_eq_getElem?_getD, List.getElem?_map]
 by_cases h : i < n
 ·simp [h]
 ·simp [h]
theorem numB_valB (v n : Nat) : numB (valB v n) = v % 2 ^ n := by
 apply Nat.eq_of_testBit_eq
 intro j
 rw [testBit_numB, Nat.testBit_mod_two_pow, valB_length, valB_get]
 by_cases h : j < n
 ·rw [if_pos h, if_pos (by omega), show n - 1 - (n - 1 - j) = j by omega]; simp [h]
 ·rw [if_neg h]; simp [h]
theorem valB_numB (bs : List Bool) : valB (numB bs) bs.length = bs := by
 apply List.ext_getElem (by simp [valB])
 intro i h1 h2
 simp only [valB, List.getElem_map, List.getElem_range]
 rw [testBit_numB, if_pos (by omega), show bs.length - 1 - (bs.length - 1 - i) = i by omega, List.getD_eq_getElem?_getD, List.getElem?_eq_getElem h2]; rfl
theorem bt_set (l : List UInt8) (j : Nat) (x : UInt8) (i : Nat) (hj : j < l.length) : bt (l.set j x) i = if i / 8 = j then x.toNat.testBit (7 - i % 8) else bt l i := by
 unfold bt
 rw [List.getD_eq_getElem?_getD, List.getElem?_set]
 by_cases h : j = i / 8
 ·subst h; rw [if_pos rfl, if_pos hj, if_pos rfl]; rfl
 ·rw [if_neg h, if_neg (fun e => h e.symm), ← List.getD_eq_getElem?_getD]
def cutl (l : List UInt8) (a k : Nat) : List Bool := (List.range k).map fun i => bt l (a + i)
theorem cutl_length (l : List UInt8) (a k : Nat) : (cutl l a k).length = k := by simp [cutl]
theorem cutl_get (l : List UInt8) (a k i : Nat) : (cutl l a k).getD i false = if i < k then bt l (a + i) else false := by
 unfold cutl
 rw [List.getD_eq_getElem?_getD, List.getElem?_map]
 by_cases h : i < k
 ·simp [h]
 ·simp [h]
theorem testBit_cut (l : List UInt8) (a k j : Nat) : (numB (cutl l a k)).testBit j = if j < k then bt l (a + (k - 1 - j)) else false := by
 rw [testBit_numB, cutl_length, cutl_get]
 by_cases h : j < k
 ·rw [if_pos h, if_pos (by omega), if_pos h]
 ·rw [if_neg h, if_neg h]
theorem read_step (l : List UInt8) (a t n x q : Nat) (hx : x = a + t) (hq : q = 8 - x % 8) (hn : n ≤ q) (hl : x / 8 < l.length) :
  numB (cutl l a (t + n)) = (numB (cutl l a t) * 2 ^ n) ||| ((l[x / 8]).toNat / 2 ^ (q - n) % 2 ^ n) := by
 apply Nat.eq_of_testBit_eq
 intro j
 rw [testBit_cut, Nat.testBit_or, Nat.testBit_mul_two_pow, Nat.testBit_mod_two_pow, Nat.testBit_div_two_pow, testBit_cut]
 by_cases hjn : n ≤ j
 ·have e1 : ¬ j < n := by omega
  simp only [hjn, e1, decide_true, decide_false, Bool.true_and, Bool.false_and, Bool.or_false]
  by_cases hj : j < t + n
  ·rw [if_pos hj, if_pos (by omega)]; congr 1; omega
  ·rw [if_neg hj, if_neg (by omega)]
 ·have e1 : j < n := by omega
  simp only [hjn, e1, decide_true, decide_false, Bool.true_and, Bool.false_and, Bool.false_or]
  rw [if_pos (by omega)]
  unfold bt
  rw [show (a + (t + n - 1 - j)) / 8 = x / 8 by omega, show 7 - (a + (t + n - 1 - j)) % 8 = j + (q - n) by omega, List.getD_eq_getElem?_getD, List.getElem?_eq_getElem hl]
  rfl
theorem sound_nat {l : List UInt8} {n : Int} (h : soundB l n = true) : ∃ m : Nat, n = m ∧ m ≤ 8 * l.length ∧ l.length = nb m := by
 obtain ⟨h0, hl, _⟩ := (soundB_iff l n).1 h
 obtain ⟨m, rfl⟩ := Int.eq_ofNat_of_zero_le h0
 refine ⟨m, rfl, ?_, hl⟩
 unfold nb at hl; simp at hl; omega
def wrByte (old : UInt8) (v r n q : Nat) : Nat := old.toNat ||| (v / 2 ^ (r - n) % 2 ^ n * 2 ^ (q - n))
theorem wrByte_bit (old : UInt8) (v r n q j : Nat) : (wrByte old v r n q).testBit j = (old.toNat.testBit j || (decide (q - n ≤ j) && (decide (j - (q - n) < n) && v.testBit (j - (q - n) + (r - n))))) := by
 unfold wrByte
 rw [Nat.testBit_or, Nat.testBit_mul_two_pow, Nat.testBit_mod_two_pow, Nat.testBit_div_two_pow]
theorem wrByte_part (v r n q : Nat) (hn : n ≤ q) (hq : q ≤ 8) : v / 2 ^ (r - n) % 2 ^ n * 2 ^ (q - n) < 256 := by
 have h1 : v / 2 ^ (r - n) % 2 ^ n < 2 ^ n := Nat.mod_lt _ (Nat.two_pow_pos n)
 have h2 : v / 2 ^ (r - n) % 2 ^ n * 2 ^ (q - n) < 2 ^ n * 2 ^ (q - n) := Nat.mul_lt_mul_of_pos_right h1 (Nat.two_pow_pos _)
 rw [← Nat.pow_add, show n + (q - n) = q by omega] at h2
 exact Nat.lt_of_lt_of_le h2 (Nat.pow_le_pow_right (by decide) hq : 2 ^ q ≤ 2 ^ 8)
theorem wrByte_lt (old : UInt8) (v r n q : Nat) (hn : n ≤ q) (hq : q ≤ 8) : wrByte old v r n q < 256 := Nat.or_lt_two_pow (n := 8) old.toNat_lt (wrByte_part v r n q hn hq)
def Wrote (l l1 : List UInt8) (a v d t : Nat) : Prop := l1.length = l.length ∧ ∀ i, bt l1 i = if a ≤ i ∧ i < a + t then v.testBit (d - 1 - (i - a)) else bt l i
theorem Wrote.zero (l : List UInt8) (a v d : Nat) : Wrote l l a v d 0 := ⟨rfl, fun i => by rw [if_neg (by omega)]⟩
theorem Wrote.step {l l1 : List UInt8} {a v d t x r n q : Nat} (h : Wrote l l1 a v d t) (hz : ∀ i, a ≤ i → i < a + d → bt l i = false) (hx : x = a + t) (hr : r = d - t) (hq : q = 8 - x % 8) (hn : n ≤ q) (hnr : n ≤ r) (hl : x / 8 < l1.length) :
  Wrote l (l1.set (x / 8) (UInt8.ofNat (wrByte l1[x / 8] v r n q))) a v d (t + n) := by
 refine ⟨by rw [List.length_set]; exact h.1, fun i => ?_⟩
 rw [bt_set _ _ _ _ hl]
 by_cases hi : i / 8 = x / 8
 ·rw [if_pos hi, UInt8.toNat_ofNat_of_lt' (wrByte_lt _ _ _ _ _ hn (by omega)), wrByte_bit]
  have hold : l1[x / 8].toNat.testBit (7 - i % 8) = bt l1 i := by
   unfold bt; rw [hi, List.getD_eq_getElem?_getD, List.getElem?_eq_getElem hl]; rfl
  rw [hold, h.2 i]
  by_cases hin : x ≤ i ∧ i < x + n
  ·rw [if_neg (by omega), if_pos (by omega), hz i (by omega) (by omega)]
   have e1 : q - n ≤ 7 - i % 8 := by omega
   have e2 : 7 - i % 8 - (q - n) < n := by omega
   simp only [e1, e2, decide_true, Bool.true_and, Bool.false_or]
   congr 1; omega
  ·have e : (decide (q - n ≤ 7 - i % 8) && (decide (7 - i % 8 - (q - n) < n) && v.testBit (7 - i % 8 - (q - n) + (r - n)))) = false := by
    by_cases e1 : q - n ≤ 7 - i % 8
    ·have e2 : ¬ 7 - i % 8 - (q - n) < n := by omega
     simp [e2]
    ·simp [e1]
   rw [e, Bool.or_false]
   by_cases hc : a ≤ i ∧ i < a + t
   ·rw [if_pos hc, if_pos (by omega)]
   ·rw [if_neg hc, if_neg (by omega)]
 ·rw [if_neg hi, h.2 i]
  by_cases hc : a ≤ i ∧ i < a + t
  ·rw [if_pos hc, if_pos (by omega)]
  ·rw [if_neg hc, if_neg (by omega)]
theorem put_done {l l' : List UInt8} {m v d : Nat} (hs : soundB l m = true) (h : Wrote (l ++ (List.replicate (nb (m + d)) 0).drop l.length) l' m v d d) : l' = pack (bitl l m ++ valB v d) := by
 obtain ⟨_, hl, hz⟩ := (soundB_iff l m).1 hs
 rw [Int.toNat_natCast] at hl hz
 have hlen : (l ++ (List.replicate (nb (m + d)) (0 : UInt8)).drop l.length).length = nb (m + d) := by
  rw [List.length_append, List.length_drop, List.length_replicate, hl]; unfold nb; omega
 apply bytes_ext
 ·rw [h.1, hlen, pack_length, List.length_append, bitl_length, valB_length]
 ·intro i _
  rw [h.2 i, bt_pack]
  have hap : (bitl l m ++ valB v d).getD i false = if i < m then bt l i else (valB v d).getD (i - m) false := by
   simp only [List.getD_eq_getElem?_getD]
   by_cases hi : i < m
   ·rw [List.getElem?_append_left (by rw [bitl_length]; exact hi), if_pos hi, ← List.getD_eq_getElem?_getD, bitl_get, if_pos hi]
   ·rw [List.getElem?_append_right (by rw [bitl_length]; omega), if_neg hi, bitl_length]
  rw [hap, valB_get]
  have hbl : bt (l ++ (List.replicate (nb (m + d)) (0 : UInt8)).drop l.length) i = bt l i := by
   unfold bt
   simp only [List.getD_eq_getElem?_getD]
   by_cases hi : i / 8 < l.length
   ·rw [List.getElem?_append_left hi]
   ·rw [List.getElem?_append_right (by omega), List.getElem?_eq_none (show l.length ≤ i / 8 by omega), List.getElem?_drop, List.getElem?_replicate]
    split <;> simp
  by_cases hi : i < m
  ·rw [if_neg (by omega), if_pos hi, hbl]
  ·rw [if_neg hi]
   by_cases hd : i < m + d
   ·rw [if_pos ⟨by omega, hd⟩, if_pos (by omega)]
   ·rw [if_neg (by omega), if_neg (by omega), hbl, hz i (by omega)]
theorem put_zero {l : List UInt8} {m d : Nat} (hs : soundB l m = true) : ∀ i, m ≤ i → i < m + d → bt (l ++ (List.replicate (nb (m + d)) (0 : UInt8)).drop l.length) i = false := by
 obtain ⟨_, hl, hz⟩ := (soundB_iff l m).1 hs
 rw [Int.toNat_natCast] at hl hz
 intro i hi _
 have hbl : bt (l ++ (List.replicate (nb (m + d)) (0 : UInt8)).drop l.length) i = bt l i := by
  unfold bt
  simp only [List.getD_eq_getElem?_getD]
  by_cases hi : i / 8 < l.length
  ·rw [List.getElem?_append_left hi]
  ·rw [List.getElem?_append_right (by omega), List.getElem?_eq_none (show l.length ≤ i / 8 by omega), List.getElem?_drop, List.getElem?_replicate]
   split <;> simp
 rw [hbl, hz i hi]
def getSpec (l : List UInt8) (n at_ width : Int) : Nat × Nat :=
 if soundB l n = false then (0, 11) else if width < 0 ∨ 64 < width then (0, 1) else if at_ < 0 ∨ n < at_ ∨ n - at_ < width then (0, 10) else (numB (cutl l at_.toNat width.toNat), 0)
theorem cutl_pack (M : List Bool) (a d : Nat) (h : a + d ≤ M.length) : cutl (pack M) a d = (M.drop a).take d := by
 apply List.ext_getElem
 ·rw [cutl_length, List.length_take, List.length_drop]; omega
 ·intro i h1 h2
  rw [cutl_length] at h1
  simp only [cutl, List.getElem_map, List.getElem_range, List.getElem_take, List.getElem_drop]
  rw [bt_pack, List.getD_eq_getElem?_getD, List.getElem?_eq_getElem (by omega)]; rfl
theorem nb_le (n : Nat) : nb n ≤ n + 1 := by unfold nb; omega
theorem pack_le (M : List Bool) {k : Nat} (h : M.length ≤ k) : (pack M).length ≤ k + 1 := by rw [pack_length]; have := nb_le M.length; omega
theorem pack_sound {l : List UInt8} {m : Nat} (h : soundB l m = true) : l = pack (bitl l m) := by
 have h1 := (soundB_iff l m).1 h
 rw [Int.toNat_natCast] at h1
 apply bytes_ext
 ·rw [pack_length, bitl_length]; exact h1.2.1
 ·intro i _
  rw [bt_pack, bitl_get]
  split
  ·rfl
  ·exact h1.2.2 i (by omega)
end Go.Proofs.YtmcdollkmlcpbaaGreatDoor
namespace Go.Proofs.YtmcdollkmlcpbaaGreatDoor
def cutByte (l : List UInt8) (f s i : Nat) : Nat := ((l.getD (f + i) 0).toNat * 2 ^ s % 256) ||| ((l.getD (f + i + 1) 0).toNat / 2 ^ (8 - s))
theorem byte_high (x : UInt8) (j : Nat) (h : 8 ≤ j) : x.toNat.testBit j = false :=
 Nat.testBit_lt_two_pow (Nat.lt_of_lt_of_le x.toNat_lt (Nat.pow_le_pow_right (by decide) h : 2 ^ 8 ≤ 2 ^ j))
theorem cutByte_lt (l : List UInt8) (f s i : Nat) : cutByte l f s i < 256 :=
 Nat.or_lt_two_pow (n := 8) (Nat.mod_lt _ (by decide)) (Nat.lt_of_le_of_lt (Nat.div_le_self _ _) (UInt8.toNat_lt _))
theorem cutByte_bit (l : List UInt8) (f s i j : Nat) (hs : s < 8) (hj : j < 8) : (cutByte l f s i).testBit (7 - j) = bt l (8 * (f + i) + s + j) := by
 unfold cutByte
 rw [Nat.testBit_or, show (256 : Nat) = 2 ^ 8 from rfl, Nat.testBit_mod_two_pow, Nat.testBit_mul_two_pow, Nat.testBit_div_two_pow]
 unfold bt
 have h7 : 7 - j < 8 := by omega
 by_cases h : s + j < 8
 ·rw [show (8 * (f + i) + s + j) / 8 = f + i by omega, show 7 - (8 * (f + i) + s + j) % 8 = 7 - j - s by omega, byte_high _ (7 - j + (8 - s)) (by omega)]
  have h1 : s ≤ 7 - j := by omega
  simp [h7, h1]
 ·rw [show (8 * (f + i) + s + j) / 8 = f + i + 1 by omega, show 7 - (8 * (f + i) + s + j) % 8 = 7 - j + (8 - s) by omega]
  have h1 : ¬ s ≤ 7 - j := by omega
  simp [h1]
def CutAt (l : List UInt8) (a N k : Nat) (b : List UInt8) : Prop := b.length = N ∧ ∀ i, bt b i = if i < 8 * k then bt l (a + i) else false
theorem CutAt.zero (l : List UInt8) (a N : Nat) : CutAt l a N 0 (List.replicate N 0) := by
 refine ⟨List.length_replicate, fun i => ?_⟩
 rw [if_neg (by omega)]
 unfold bt
 rw [List.getD_eq_getElem?_getD, List.getElem?_replicate]
 split <;> simp
theorem CutAt.step {l : List UInt8} {a N k : Nat} {b : List UInt8} (h : CutAt l a N k b) (hk : k < N) : CutAt l a N (k + 1) (b.set k (UInt8.ofNat (cutByte l (a / 8) (a % 8) k))) := by
 refine ⟨by rw [List.length_set]; exact h.1, fun i => ?_⟩
 rw [bt_set _ _ _ _ (by rw [h.1]; exact hk)]
 by_cases hi : i / 8 = k
 ·rw [if_pos hi, UInt8.toNat_ofNat_of_lt' (cutByte_lt _ _ _ _), cutByte_bit _ _ _ _ _ (by omega) (by omega), if_pos (by omega)]
  congr 1; omega
 ·rw [if_neg hi, h.2 i]
  by_cases h2 : i < 8 * k
  ·rw [if_pos h2, if_pos (by omega)]
  ·rw [if_neg h2, if_neg (by omega)]
def maskByte (x : UInt8) (u : Nat) : Nat := x.toNat &&& (255 * 2 ^ (8 - u) % 256)
theorem maskByte_lt (x : UInt8) (u : Nat) : maskByte x u < 256 := Nat.lt_of_le_of_lt Nat.and_le_left x.toNat_lt
theorem maskByte_bit (x : UInt8) (u j : Nat) (hj : j < 8) : (maskByte x u).testBit (7 - j) = (x.toNat.testBit (7 - j) && decide (j < u)) := by
 unfold maskByte
 rw [Nat.testBit_and, show (256 : Nat) = 2 ^ 8 from rfl, Nat.testBit_mod_two_pow, Nat.testBit_mul_two_pow, show (255 : Nat) = 2 ^ 8 - 1 from rfl, Nat.testBit_two_pow_sub_one]
 congr 1
 by_cases h : j < u
 ·have h1 : 8 - u ≤ 7 - j := by omega
  have h2 : 7 - j < 8 := by omega
  have h3 : 7 - j - (8 - u) < 8 := by omega
  simp [h, h1, h2, h3]
 ·have h1 : ¬ 8 - u ≤ 7 - j := by omega
  simp [h, h1]
theorem cut_even {l : List UInt8} {a n : Nat} {b : List UInt8} (h : CutAt l a (nb n) (nb n) b) (h8 : n % 8 = 0) : b = pack (cutl l a n) := by
 apply bytes_ext
 ·rw [h.1, pack_length, cutl_length]
 ·intro i _
  rw [h.2 i, bt_pack, cutl_get, show 8 * nb n = n by unfold nb; omega]
theorem cut_odd {l : List UInt8} {a n : Nat} {b : List UInt8} (h : CutAt l a (nb n) (nb n) b) (h8 : ¬ n % 8 = 0) (x : UInt8) (hx : b[nb n - 1]? = some x) :
  b.set (nb n - 1) (UInt8.ofNat (maskByte x (n % 8))) = pack (cutl l a n) := by
 have hN : 0 < nb n := by unfold nb; omega
 apply bytes_ext
 ·rw [List.length_set, h.1, pack_length, cutl_length]
 ·intro i hi
  rw [List.length_set, h.1] at hi
  rw [bt_set _ _ _ _ (by rw [h.1]; omega), bt_pack, cutl_get]
  by_cases hl : i / 8 = nb n - 1
  ·rw [if_pos hl, UInt8.toNat_ofNat_of_lt' (maskByte_lt _ _), maskByte_bit _ _ _ (by omega)]
   have e : x.toNat.testBit (7 - i % 8) = bt b i := by
    unfold bt; rw [List.getD_eq_getElem?_getD, hl, hx]; rfl
   rw [e, h.2 i, if_pos (by omega)]
   by_cases hn : i < n
   ·have h2 : i % 8 < n % 8 := by unfold nb at hl; omega
    rw [if_pos hn]; simp [h2]
   ·have h2 : ¬ i % 8 < n % 8 := by unfold nb at hl; omega
    rw [if_neg hn]; simp [h2]
  ·rw [if_neg hl, h.2 i]
   have hn : i < n := by unfold nb at hl hi; omega
   rw [if_pos (by unfold nb at hi; unfold nb; omega), if_pos hn]
end Go.Proofs.YtmcdollkmlcpbaaGreatDoor
namespace Go.Proofs.YtmcdollkmlcpbaaGreatDoor
theorem bt_or (b : List UInt8) (j y i : Nat) (hj : j < b.length) (hy : y < 256) :
  bt (b.set j (UInt8.ofNat (b[j].toNat ||| y))) i = (bt b i || (decide (i / 8 = j) && y.testBit (7 - i % 8))) := by
 rw [bt_set _ _ _ _ hj]
 by_cases h : i / 8 = j
 ·rw [if_pos h, UInt8.toNat_ofNat_of_lt' (Nat.or_lt_two_pow (n := 8) (UInt8.toNat_lt _) hy), Nat.testBit_or]
  have e : b[j].toNat.testBit (7 - i % 8) = bt b i := by
   unfold bt; rw [h, List.getD_eq_getElem?_getD, List.getElem?_eq_getElem hj]; rfl
  rw [e]; simp [h]
 ·rw [if_neg h]; simp [h]
def lowOf (c : UInt8) (s : Nat) : Nat := c.toNat * 2 ^ (8 - s) % 256
theorem lowOf_lt (c : UInt8) (s : Nat) : lowOf c s < 256 := Nat.mod_lt _ (by decide)
theorem lowOf_bit (c : UInt8) (s j : Nat) (hs : s < 8) (hj : j < 8) : (lowOf c s).testBit (7 - j) = (decide (j < s) && c.toNat.testBit (s - 1 - j)) := by
 unfold lowOf
 rw [show (256 : Nat) = 2 ^ 8 from rfl, Nat.testBit_mod_two_pow, Nat.testBit_mul_two_pow]
 by_cases h : j < s
 ·have h1 : 7 - j < 8 := by omega
  have h2 : 8 - s ≤ 7 - j := by omega
  rw [show 7 - j - (8 - s) = s - 1 - j by omega]; simp [h, h1, h2]
 ·have h2 : ¬ 8 - s ≤ 7 - j := by omega
  simp [h, h2]
theorem shr_bits (c : UInt8) (s j : Nat) (hj : j < 8) : (c.toNat / 2 ^ s).testBit (7 - j) = (decide (s ≤ j) && c.toNat.testBit (7 - j + s)) := by
 rw [Nat.testBit_div_two_pow]
 by_cases h : s ≤ j
 ·simp [h]
 ·rw [byte_high c (7 - j + s) (by omega)]; simp
theorem lay_byte (x : List UInt8) (c : UInt8) (a k i : Nat) (hx : x[k]? = some c) :
  ((decide (i / 8 = a / 8 + k) && (c.toNat / 2 ^ (a % 8)).testBit (7 - i % 8)) || (decide (i / 8 = a / 8 + k + 1) && (lowOf c (a % 8)).testBit (7 - i % 8))) = (decide (a + 8 * k ≤ i ∧ i < a + 8 * k + 8) && bt x (i - a)) := by
 rw [shr_bits _ _ _ (by omega), lowOf_bit _ _ _ (by omega) (by omega)]
 by_cases h : a + 8 * k ≤ i ∧ i < a + 8 * k + 8
 ·have e : bt x (i - a) = c.toNat.testBit (7 - (i - a) % 8) := by
   unfold bt; rw [show (i - a) / 8 = k by omega, List.getD_eq_getElem?_getD, hx]; rfl
  rw [e]
  by_cases h1 : i / 8 = a / 8 + k
  ·have h2 : ¬ i / 8 = a / 8 + k + 1 := by omega
   have h3 : a % 8 ≤ i % 8 := by omega
   rw [show 7 - (i - a) % 8 = 7 - i % 8 + a % 8 by omega]
   simp [h, h1, h2, h3]
  ·have h2 : i / 8 = a / 8 + k + 1 := by omega
   have h3 : i % 8 < a % 8 := by omega
   rw [show 7 - (i - a) % 8 = a % 8 - 1 - i % 8 by omega]
   simp [h, h1, h2, h3]
 ·have e1 : (decide (i / 8 = a / 8 + k) && (decide (a % 8 ≤ i % 8) && c.toNat.testBit (7 - i % 8 + a % 8))) = false := by
   by_cases h1 : i / 8 = a / 8 + k
   ·have h2 : ¬ a % 8 ≤ i % 8 := by omega
    simp [h2]
   ·simp [h1]
  have e2 : (decide (i / 8 = a / 8 + k + 1) && (decide (i % 8 < a % 8) && c.toNat.testBit (a % 8 - 1 - i % 8))) = false := by
   by_cases h1 : i / 8 = a / 8 + k + 1
   ·have h2 : ¬ i % 8 < a % 8 := by omega
    simp [h2]
   ·simp [h1]
  rw [e1, e2]; simp [h]
def LayAt (L x : List UInt8) (a k : Nat) (b : List UInt8) : Prop := b.length = L.length ∧ ∀ i, bt b i = (bt L i || (decide (a ≤ i ∧ i < a + 8 * k) && bt x (i - a)))
theorem LayAt.zero (L x : List UInt8) (a : Nat) : LayAt L x a 0 L := ⟨rfl, fun i => by
 have e : decide (a ≤ i ∧ i < a + 8 * 0) = false := decide_eq_false (by omega)
 rw [e]; simp⟩
theorem lay_join (P Q R : Prop) [Decidable P] [Decidable Q] [Decidable R] (u t : Bool) (h : R ↔ P ∨ Q) (_ : ¬ (P ∧ Q)) : (u || (decide R && t)) = ((u || (decide P && t)) || (decide Q && t)) := by
 by_cases hp : P <;> by_cases hq : Q <;> simp [h, hp, hq]
theorem LayAt.step1 {L x b : List UInt8} {a k : Nat} {c : UInt8} (h : LayAt L x a k b) (hx : x[k]? = some c) (hj : a / 8 + k < b.length) (h0 : lowOf c (a % 8) = 0) :
  LayAt L x a (k + 1) (b.set (a / 8 + k) (UInt8.ofNat (b[a / 8 + k].toNat ||| c.toNat / 2 ^ (a % 8)))) := by
 refine ⟨by rw [List.length_set]; exact h.1, fun i => ?_⟩
 have hb := lay_byte x c a k i hx
 rw [h0] at hb
 simp only [Nat.zero_testBit, Bool.and_false, Bool.or_false] at hb
 rw [bt_or _ _ _ _ hj (Nat.lt_of_le_of_lt (Nat.div_le_self _ _) c.toNat_lt), h.2 i, hb]
 exact (lay_join _ _ _ _ _ (by omega) (by omega)).symm
theorem LayAt.step2 {L x b : List UInt8} {a k : Nat} {c : UInt8} (h : LayAt L x a k b) (hx : x[k]? = some c) (hj : a / 8 + k < b.length) (hj2 : a / 8 + k + 1 < b.length) :
  LayAt L x a (k + 1) ((b.set (a / 8 + k) (UInt8.ofNat (b[a / 8 + k].toNat ||| c.toNat / 2 ^ (a % 8)))).set (a / 8 + k + 1) (UInt8.ofNat (b[a / 8 + k + 1].toNat ||| lowOf c (a % 8)))) := by
 refine ⟨by rw [List.length_set, List.length_set]; exact h.1, fun i => ?_⟩
 have hb := lay_byte x c a k i hx
 have h2 := bt_or (b.set (a / 8 + k) (UInt8.ofNat (b[a / 8 + k].toNat ||| c.toNat / 2 ^ (a % 8)))) (a / 8 + k + 1) (lowOf c (a % 8)) i (by rw [List.length_set]; exact hj2) (lowOf_lt _ _)
 rw [List.getElem_set_ne (by omega)] at h2
 rw [h2, bt_or _ _ _ _ hj (Nat.lt_of_le_of_lt (Nat.div_le_self _ _) c.toNat_lt), Bool.or_assoc, hb, h.2 i]
 exact (lay_join _ _ _ _ _ (by omega) (by omega)).symm
theorem lay_room {x : List UInt8} {c : UInt8} {a k n M : Nat} (hx : x[k]? = some c) (hz : ∀ i, n ≤ i → bt x i = false) (hM : a + n ≤ 8 * M) (h0 : lowOf c (a % 8) ≠ 0) : a / 8 + k + 1 < M := by
 apply Classical.byContradiction
 intro hge
 apply h0
 apply Nat.eq_of_testBit_eq
 intro j
 rw [Nat.zero_testBit]
 by_cases hj : j < 8
 ·rw [show j = 7 - (7 - j) by omega, lowOf_bit _ _ _ (by omega) (by omega)]
  by_cases hs : 7 - j < a % 8
  ·have e : c.toNat.testBit (a % 8 - 1 - (7 - j)) = bt x (8 * k + 8 - a % 8 + (7 - j)) := by
    unfold bt
    rw [show (8 * k + 8 - a % 8 + (7 - j)) / 8 = k by omega, show 7 - (8 * k + 8 - a % 8 + (7 - j)) % 8 = a % 8 - 1 - (7 - j) by omega, List.getD_eq_getElem?_getD, hx]; rfl
   rw [e, hz _ (by omega)]; simp
  ·simp [hs]
 ·exact Nat.testBit_lt_two_pow (Nat.lt_of_lt_of_le (lowOf_lt _ _) (Nat.pow_le_pow_right (by decide) (show 8 ≤ j by omega) : 2 ^ 8 ≤ 2 ^ j))
end Go.Proofs.YtmcdollkmlcpbaaGreatDoor
namespace Go.Proofs.YtmcdollkmlcpbaaGreatDoor
def catE (E : List (List UInt8 × Int)) : List Bool := E.flatMap fun e => bitl e.1 e.2.toNat
def soundE (E : List (List UInt8 × Int)) : Bool := E.all fun e => soundB e.1 e.2
theorem catE_snoc (E : List (List UInt8 × Int)) (k : Nat) (h : k < E.length) : catE (E.take (k + 1)) = catE (E.take k) ++ bitl E[k].1 E[k].2.toNat := by
 unfold catE
 rw [List.take_succ_eq_append_getElem h, List.flatMap_append]; simp only [List.flatMap_cons, List.flatMap_nil, List.append_nil]
theorem soundE_get {E : List (List UInt8 × Int)} (h : soundE E = true) (k : Nat) (hk : k < E.length) : soundB E[k].1 E[k].2 = true := by
 unfold soundE at h
 rw [List.all_eq_true] at h
 exact h _ (List.getElem_mem hk)
theorem soundE_first {E : List (List UInt8 × Int)} (h : soundE E = false) : ∃ k, ∃ hk : k < E.length, soundB E[k].1 E[k].2 = false ∧ ∀ j (hj : j < k), soundB (E[j]'(by omega)).1 (E[j]'(by omega)).2 = true := by
 induction E with
 | nil => simp [soundE] at h
 | cons e E ih =>
  by_cases he : soundB e.1 e.2 = true
  ·have h2 : soundE E = false := by simpa [soundE, he] using h
   obtain ⟨k, hk, h3, h4⟩ := ih h2
   refine ⟨k + 1, by simp; omega, h3, fun j hj => ?_⟩
   cases j with
   | zero => exact he
   | succ j => exact h4 j (by omega)
  ·exact ⟨0, by simp, by simpa using he, fun j hj => by omega⟩
theorem catE_len (E : List (List UInt8 × Int)) (B : Nat) (hs : soundE E = true) (h : ∀ e ∈ E, e.1.length ≤ B) : (catE E).length ≤ 8 * B * E.length := by
 induction E with
 | nil => simp [catE]
 | cons e E ih =>
  have h1 : soundB e.1 e.2 = true ∧ soundE E = true := by simpa [soundE] using hs
  have h2 := ih h1.2 (fun x hx => h x (List.mem_cons_of_mem _ hx))
  obtain ⟨m, hm, hm8, _⟩ := sound_nat h1.1
  have h3 := h e (List.mem_cons_self ..)
  have e1 : catE (e :: E) = bitl e.1 e.2.toNat ++ catE E := by simp [catE]
  rw [e1, List.length_append, bitl_length, List.length_cons, Nat.mul_add]
  omega
theorem catE_take_len (E : List (List UInt8 × Int)) (k : Nat) (h : k < E.length) : (catE (E.take k)).length + E[k].2.toNat ≤ (catE E).length := by
 have h1 : catE E = catE (E.take k) ++ (bitl E[k].1 E[k].2.toNat ++ catE (E.drop (k + 1))) := by
  conv => lhs; rw [← List.take_append_drop k E, List.drop_eq_getElem_cons h]
  unfold catE
  rw [List.flatMap_append, List.flatMap_cons]
 rw [h1, List.length_append, List.length_append, bitl_length]
 omega
def Begins (b : List UInt8) (M : List Bool) : Prop := ∀ i, bt b i = M.getD i false
theorem Begins.zero (N : Nat) : Begins (List.replicate N 0) [] := fun i => by
 unfold bt
 rw [List.getD_eq_getElem?_getD, List.getElem?_replicate]
 split <;> simp
theorem Begins.lay {L x L' : List UInt8} {M : List Bool} {n : Nat} (h : Begins L M) (hs : soundB x n = true) (hl : LayAt L x M.length x.length L') : Begins L' (M ++ bitl x n) := fun i => by
 rw [hl.2 i, h i]
 obtain ⟨m, hm, hm8, hnb⟩ := sound_nat hs
 obtain rfl : n = m := by omega
 have hz := ((soundB_iff x n).1 hs).2.2
 rw [List.getD_eq_getElem?_getD, List.getD_eq_getElem?_getD]
 by_cases hi : i < M.length
 ·rw [List.getElem?_append_left hi, List.getElem?_eq_getElem hi]
  have : ¬ (M.length ≤ i ∧ i < M.length + 8 * x.length) := by omega
  simp [this]
 ·rw [List.getElem?_append_right (by omega), List.getElem?_eq_none (by omega)]
  have e : (bitl x n)[i - M.length]?.getD false = (bitl x n).getD (i - M.length) false := by rw [List.getD_eq_getElem?_getD]
  rw [e, bitl_get]
  by_cases h2 : i < M.length + n
  ·rw [if_pos (by omega), decide_eq_true (show M.length ≤ i ∧ i < M.length + 8 * x.length by omega)]; simp
  ·rw [if_neg (by omega), hz _ (by omega)]; simp
theorem Begins.pack {b : List UInt8} {M : List Bool} (h : Begins b M) (hl : b.length = nb M.length) : b = pack M := by
 apply bytes_ext
 ·rw [hl, pack_length]
 ·intro i _
  rw [h i, bt_pack]
def joinSpec (E : List (List UInt8 × Int)) : List UInt8 × Nat × Nat := if soundE E = true then (pack (catE E), (catE E).length, 0) else ([], 0, 11)
end Go.Proofs.YtmcdollkmlcpbaaGreatDoor
namespace Go.Proofs.YtmcdollkmlcpbaaGreatDoor
def foldZ (v : Int) : Nat := if 0 ≤ v then 2 * v.toNat else 2 * (-(v + 1)).toNat + 1
def unfoldZ (n : Nat) : Int := if n % 2 = 0 then ((n / 2 : Nat) : Int) else -((n / 2 : Nat) : Int) - 1
theorem foldZ_lt (v : Int) (h : -9223372036854775808 ≤ v ∧ v ≤ 9223372036854775807) : foldZ v < 18446744073709551616 := by unfold foldZ; split <;> omega
theorem unfold_fold (v : Int) : unfoldZ (foldZ v) = v := by unfold foldZ unfoldZ; split <;> split <;> omega
theorem fold_unfold (n : Nat) : foldZ (unfoldZ n) = n := by unfold foldZ unfoldZ; split <;> split <;> omega
theorem unfoldZ_bd (n : Nat) (h : n < 18446744073709551616) : -9223372036854775808 ≤ unfoldZ n ∧ unfoldZ n ≤ 9223372036854775807 := by unfold unfoldZ; split <;> omega
def zw : Nat → Nat | 0 => 0 | 1 => 7 | 2 => 9 | 3 => 12 | 4 => 32 | _ => 64
def zl : Nat → Nat | 0 => 1 | 1 => 2 | 2 => 3 | 3 => 4 | _ => 5
def zp : Nat → Nat | 0 => 0 | 1 => 2 | 2 => 6 | 3 => 14 | 4 => 30 | _ => 31
def zk (n : Nat) : Nat := if n < 1 then 0 else if n < 128 then 1 else if n < 512 then 2 else if n < 4096 then 3 else if n < 4294967296 then 4 else 5
def zenc (n : Nat) : List Bool := valB (zp (zk n)) (zl (zk n)) ++ valB n (zw (zk n))
theorem zk_le (n : Nat) : zk n ≤ 5 := by unfold zk; (repeat' split) <;> omega
theorem zl_pos (k : Nat) : 1 ≤ zl k ∧ zl k ≤ 5 := by unfold zl; split <;> omega
theorem zw_le (k : Nat) : zw k ≤ 64 := by unfold zw; split <;> omega
theorem zenc_length (n : Nat) : (zenc n).length = zl (zk n) + zw (zk n) := by unfold zenc; rw [List.length_append, valB_length, valB_length]
theorem zenc_pos (n : Nat) : 1 ≤ (zenc n).length ∧ (zenc n).length ≤ 69 := by
 rw [zenc_length]; have := zl_pos (zk n); have := zw_le (zk n); omega
theorem zk_fits (n : Nat) (h : n < 18446744073709551616) : n < 2 ^ zw (zk n) := by
 unfold zk
 repeat' split
 all_goals simp only [zw]; omega
theorem zk_first (n k : Nat) (h : n < 2 ^ zw k) (hk : k ≤ 5) : zk n ≤ k := by
 unfold zk
 match k, hk with
 | 0, _ => simp only [zw] at h; (repeat' split) <;> omega
 | 1, _ => simp only [zw] at h; (repeat' split) <;> omega
 | 2, _ => simp only [zw] at h; (repeat' split) <;> omega
 | 3, _ => simp only [zw] at h; (repeat' split) <;> omega
 | 4, _ => simp only [zw] at h; (repeat' split) <;> omega
 | 5, _ => (repeat' split) <;> omega
theorem zk_not (n k : Nat) (h : k < zk n) : ¬ n < 2 ^ zw k := fun h1 => by
 have := zk_first n k h1 (by have := zk_le n; omega); omega
def ones : Nat → List Bool → Nat
 | k + 1, true :: r => ones k r + 1
 | _, _ => 0
theorem ones_le (k : Nat) (L : List Bool) : ones k L ≤ k := by
 induction k generalizing L with
 | zero => simp [ones]
 | succ k ih =>
  cases L with
  | nil => simp [ones]
  | cons b r => cases b <;> simp [ones]; exact ih r
theorem ones_len (k : Nat) (L : List Bool) : ones k L ≤ L.length := by
 induction k generalizing L with
 | zero => simp [ones]
 | succ k ih =>
  cases L with
  | nil => simp [ones]
  | cons b r => cases b <;> simp [ones]; exact ih r
def zrow (L : List Bool) : Nat := ones 5 L
theorem zrow_front (L : List Bool) (h : zl (zrow L) ≤ L.length) : L.take (zl (zrow L)) = valB (zp (zrow L)) (zl (zrow L)) := by
 revert h
 unfold zrow
 rcases L with _ | ⟨a, _ | ⟨b, _ | ⟨c, _ | ⟨d, _ | ⟨e, r⟩⟩⟩⟩⟩
 ·simp [ones, zl]
 ·cases a <;> simp [ones, zl, zp, valB, List.range_succ]
 ·cases a <;> cases b <;> simp [ones, zl, zp, valB, List.range_succ] <;> decide
 ·cases a <;> cases b <;> cases c <;> simp [ones, zl, zp, valB, List.range_succ] <;> decide
 ·cases a <;> cases b <;> cases c <;> cases d <;> simp [ones, zl, zp, valB, List.range_succ] <;> decide
 ·cases a <;> cases b <;> cases c <;> cases d <;> cases e <;> simp [ones, zl, zp, valB, List.range_succ] <;> decide
theorem zrow_num (L : List Bool) (h : zl (zrow L) ≤ L.length) : numB (L.take (zl (zrow L))) = zp (zrow L) := by
 rw [zrow_front L h, numB_valB]
 have : ∀ k ≤ 5, zp k % 2 ^ zl k = zp k := by decide
 exact this _ (ones_le 5 L)
theorem zrow_not (L : List Bool) (k : Nat) (hk : k < zrow L) (h : zl k ≤ L.length) : numB (L.take (zl k)) ≠ zp k := by
 revert h hk
 unfold zrow
 rcases L with _ | ⟨a, _ | ⟨b, _ | ⟨c, _ | ⟨d, _ | ⟨e, r⟩⟩⟩⟩⟩
 ·simp [ones]
 ·cases a <;> simp [ones] <;> (intro hk; obtain rfl : k = 0 := by omega) <;> simp [zl, zp, numB, b2n]
 ·cases a <;> cases b <;> simp [ones] <;> intro hk <;> (obtain rfl | rfl : k = 0 ∨ k = 1 := by omega) <;> simp_all [zl, zp, numB, b2n]
 ·cases a <;> cases b <;> cases c <;> simp [ones] <;> intro hk <;> (obtain rfl | rfl | rfl : k = 0 ∨ k = 1 ∨ k = 2 := by omega) <;> simp_all [zl, zp, numB, b2n]
 ·cases a <;> cases b <;> cases c <;> cases d <;> simp [ones] <;> intro hk <;> (obtain rfl | rfl | rfl | rfl : k = 0 ∨ k = 1 ∨ k = 2 ∨ k = 3 := by omega) <;> simp_all [zl, zp, numB, b2n]
 ·cases a <;> cases b <;> cases c <;> cases d <;> cases e <;> simp [ones] <;> intro hk <;> (obtain rfl | rfl | rfl | rfl | rfl : k = 0 ∨ k = 1 ∨ k = 2 ∨ k = 3 ∨ k = 4 := by omega) <;> simp_all [zl, zp, numB, b2n]
def zget (L : List Bool) : Nat × Nat × Nat :=
 if L.length < zl (zrow L) + zw (zrow L) then (0, 0, 10)
 else if zk (numB ((L.drop (zl (zrow L))).take (zw (zrow L)))) ≠ zrow L then (0, 0, 11)
 else (numB ((L.drop (zl (zrow L))).take (zw (zrow L))), zl (zrow L) + zw (zrow L), 0)
theorem zrow_enc (k : Nat) (hk : k ≤ 5) (r : List Bool) : zrow (valB (zp k) (zl k) ++ r) = k := by
 match k, hk with
 | 0, _ => rfl
 | 1, _ => rfl
 | 2, _ => rfl
 | 3, _ => rfl
 | 4, _ => rfl
 | 5, _ => rfl
theorem zget_enc (n : Nat) (h : n < 18446744073709551616) (r : List Bool) : zget (zenc n ++ r) = (n, (zenc n).length, 0) := by
 have e : zrow (zenc n ++ r) = zk n := by unfold zenc; rw [List.append_assoc]; exact zrow_enc _ (zk_le n) _
 have e2 : ((zenc n ++ r).drop (zl (zk n))).take (zw (zk n)) = valB n (zw (zk n)) := by
  unfold zenc
  rw [List.append_assoc, List.drop_left' (valB_length _ _), List.take_left' (valB_length _ _)]
 unfold zget
 rw [e, e2, numB_valB, Nat.mod_eq_of_lt (zk_fits n h), if_neg (by rw [List.length_append, zenc_length]; omega), if_neg (by simp), zenc_length]
theorem zget_only {L : List Bool} {n len : Nat} (h : zget L = (n, len, 0)) : L.take len = zenc n ∧ len ≤ L.length ∧ n < 18446744073709551616 := by
 unfold zget at h
 split at h
 ·simp at h
 ·split at h
  ·simp at h
  ·rename_i h1 h2
   injection h with e1 e2
   injection e2 with e2 _
   have h3 : zk n = zrow L := by rw [← e1]; simpa using h2
   have hlen : ((L.drop (zl (zrow L))).take (zw (zrow L))).length = zw (zrow L) := by rw [List.length_take, List.length_drop]; omega
   have hv : valB n (zw (zrow L)) = (L.drop (zl (zrow L))).take (zw (zrow L)) := by
    rw [← e1]
    have := valB_numB ((L.drop (zl (zrow L))).take (zw (zrow L)))
    rwa [hlen] at this
   refine ⟨?_, by omega, ?_⟩
   ·unfold zenc
    rw [h3, hv, ← zrow_front L (by omega), ← e2, List.take_add]
   ·have h4 := numB_lt ((L.drop (zl (zrow L))).take (zw (zrow L)))
    rw [e1, hlen] at h4
    have h5 : 2 ^ zw (zrow L) ≤ 2 ^ 64 := Nat.pow_le_pow_right (by decide) (zw_le _)
    omega
theorem zget_len (L : List Bool) : (zget L).2.1 ≤ L.length := by
 unfold zget
 split
 ·exact Nat.zero_le _
 ·split
  ·exact Nat.zero_le _
  ·show zl _ + zw _ ≤ _; omega
end Go.Proofs.YtmcdollkmlcpbaaGreatDoor
namespace Go.Proofs.YtmcdollkmlcpbaaGreatDoor
section
variable (P F : Nat)
def stepG (s a : Nat) : Nat := (s * F + a) % P
def moreG (s : Nat) (bs : List Bool) : Nat := bs.foldl (fun s b => stepG P F s (1 + b2n b)) (s % P)
theorem moreG_snoc (s : Nat) (bs : List Bool) (b : Bool) : moreG P F s (bs ++ [b]) = stepG P F (moreG P F s bs) (1 + b2n b) := by unfold moreG; rw [List.foldl_append]; rfl
theorem moreG_lt (h : 0 < P) (s : Nat) (bs : List Bool) : moreG P F s bs < P := by
 induction bs using snoc_ind with
 | h0 => exact Nat.mod_lt _ h
 | h1 bs b _ => rw [moreG_snoc]; exact Nat.mod_lt _ h
end
def stepR (s a : Nat) : Nat := stepG 2305843009213693951 1000000007 s a
def moreR (s : Nat) (bs : List Bool) : Nat := moreG 2305843009213693951 1000000007 s bs
theorem moreR_lt (s : Nat) (bs : List Bool) : moreR s bs < 2305843009213693951 := moreG_lt _ _ (by decide) s bs
theorem stepR_val (s a : Nat) : stepR s a = (s * 1000000007 + a) % 2305843009213693951 := by unfold stepR stepG; exact Eq.refl _
end Go.Proofs.YtmcdollkmlcpbaaGreatDoor
