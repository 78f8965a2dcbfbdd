/- Joined: Math, MathFs, MathFs2, MathFs3, MathStuff, MathFs4. -/
set_option linter.unusedSimpArgs false
set_option linter.unusedVariables false
/-
  Plain mathematics of bit strings: bits of a list of bytes, bytes of a list of bits, numbers of a list of bits. Imports nothing of the program.
-/
set_option linter.unusedSimpArgs false
set_option linter.unusedVariables false
namespace Go.Proofs.YtiogckgchlnldaaGreat

theorem snoc_ind {α : Type} {P : List α → Prop} (h0 : P []) (h1 : ∀ l a, P l → P (l ++ [a])) (l : List α) : P l := by
  rw [← List.reverse_reverse l]
  induction l.reverse with
  | nil => exact h0
  | cons a r ih => rw [List.reverse_cons]; exact h1 _ _ ih

/-- how many bytes so many bits take -/
def nb (n : Nat) : Nat := (n + 7) / 8

/-- bit number i, the highest of each byte first -/
def bt (l : List UInt8) (i : Nat) : Bool := (l.getD (i / 8) 0).toNat.testBit (7 - i % 8)

/-- the first n bits -/
def bitl (l : List UInt8) (n : Nat) : List Bool := (List.range n).map (bt l)

def b2n (b : Bool) : Nat := if b then 1 else 0
def b2u (b : Bool) : UInt8 := if b then 1 else 0

/-- a byte of eight bits, the highest first -/
def byteOf (f : Nat → Bool) : Nat :=
  b2n (f 0) * 128 + b2n (f 1) * 64 + b2n (f 2) * 32 + b2n (f 3) * 16 + b2n (f 4) * 8 + b2n (f 5) * 4 + b2n (f 6) * 2 + b2n (f 7)

/-- the bytes of a list of bits -/
def pack (bs : List Bool) : List UInt8 := (List.range (nb bs.length)).map fun k => UInt8.ofNat (byteOf fun j => bs.getD (8 * k + j) false)

theorem b2u_toNat (b : Bool) : (b2u b).toNat = b2n b := by cases b <;> rfl
theorem b2n_le (b : Bool) : b2n b ≤ 1 := by cases b <;> decide

theorem byteOf_lt (f : Nat → Bool) : byteOf f < 256 := by
  have := b2n_le (f 0); have := b2n_le (f 1); have := b2n_le (f 2); have := b2n_le (f 3)
  have := b2n_le (f 4); have := b2n_le (f 5); have := b2n_le (f 6); have := b2n_le (f 7)
  unfold byteOf; omega

def eight (a0 a1 a2 a3 a4 a5 a6 a7 : Bool) : Nat := b2n a0 * 128 + b2n a1 * 64 + b2n a2 * 32 + b2n a3 * 16 + b2n a4 * 8 + b2n a5 * 4 + b2n a6 * 2 + b2n a7
theorem eight_bits : ∀ a0 a1 a2 a3 a4 a5 a6 a7 : Bool, (eight a0 a1 a2 a3 a4 a5 a6 a7).testBit 7 = a0 ∧ (eight a0 a1 a2 a3 a4 a5 a6 a7).testBit 6 = a1 ∧ (eight a0 a1 a2 a3 a4 a5 a6 a7).testBit 5 = a2 ∧ (eight a0 a1 a2 a3 a4 a5 a6 a7).testBit 4 = a3 ∧
    (eight a0 a1 a2 a3 a4 a5 a6 a7).testBit 3 = a4 ∧ (eight a0 a1 a2 a3 a4 a5 a6 a7).testBit 2 = a5 ∧ (eight a0 a1 a2 a3 a4 a5 a6 a7).testBit 1 = a6 ∧ (eight a0 a1 a2 a3 a4 a5 a6 a7).testBit 0 = a7 := by decide
theorem byteOf_bit (f : Nat → Bool) (j : Nat) (hj : j < 8) : (byteOf f).testBit (7 - j) = f j := by
  have e : byteOf f = eight (f 0) (f 1) (f 2) (f 3) (f 4) (f 5) (f 6) (f 7) := rfl
  rw [e]
  obtain ⟨h0, h1, h2, h3, h4, h5, h6, h7⟩ := eight_bits (f 0) (f 1) (f 2) (f 3) (f 4) (f 5) (f 6) (f 7)
  match j, hj with
  | 0, _ => exact h0
  | 1, _ => exact h1
  | 2, _ => exact h2
  | 3, _ => exact h3
  | 4, _ => exact h4
  | 5, _ => exact h5
  | 6, _ => exact h6
  | 7, _ => exact h7

theorem pack_length (bs : List Bool) : (pack bs).length = nb bs.length := by simp [pack]

theorem bitl_length (l : List UInt8) (n : Nat) : (bitl l n).length = n := by simp [bitl]

theorem bt_pack (bs : List Bool) (i : Nat) : bt (pack bs) i = bs.getD i false := by
  unfold bt
  by_cases h : i / 8 < nb bs.length
  · have e : (pack bs).getD (i / 8) 0 = UInt8.ofNat (byteOf fun j => bs.getD (8 * (i / 8) + j) false) := by
      simp [pack, List.getD_eq_getElem?_getD, h]
    rw [e, UInt8.toNat_ofNat_of_lt' (byteOf_lt _), byteOf_bit _ _ (by omega)]
    congr 1; omega
  · have e : (pack bs).getD (i / 8) 0 = 0 := by
      rw [List.getD_eq_getElem?_getD, List.getElem?_eq_none (by rw [pack_length]; omega)]; rfl
    rw [e]
    have : bs.getD i false = false := by
      rw [List.getD_eq_getElem?_getD, List.getElem?_eq_none (by unfold nb at h; omega)]; rfl
    rw [this]; simp

theorem bitl_succ (l : List UInt8) (n : Nat) : bitl l (n + 1) = bitl l n ++ [bt l n] := by simp [bitl, List.range_succ]

theorem bt_none (l : List UInt8) (i : Nat) (h : 8 * l.length ≤ i) : bt l i = false := by
  unfold bt
  rw [List.getD_eq_getElem?_getD, List.getElem?_eq_none (by omega)]; simp

/-- bytes are alike if their bits are -/
theorem bytes_ext {l l' : List UInt8} (hl : l.length = l'.length) (h : ∀ i, i < 8 * l.length → bt l i = bt l' i) : l = l' := by
  apply List.ext_getElem hl
  intro k h1 h2
  apply UInt8.toNat_inj.1
  apply Nat.eq_of_testBit_eq
  intro j
  by_cases hj : j < 8
  · have := h (8 * k + (7 - j)) (by omega)
    unfold bt at this
    rw [show (8 * k + (7 - j)) / 8 = k by omega, show 7 - (8 * k + (7 - j)) % 8 = j by omega] at this
    simpa [List.getD_eq_getElem?_getD, h1, h2] using this
  · rw [Nat.testBit_lt_two_pow, Nat.testBit_lt_two_pow]
    · have := l'[k].toNat_lt; exact Nat.lt_of_lt_of_le this (Nat.pow_le_pow_right (by decide) (show 8 ≤ j by omega))
    · have := l[k].toNat_lt; exact Nat.lt_of_lt_of_le this (Nat.pow_le_pow_right (by decide) (show 8 ≤ j by omega))

/-- may they be bits? -/
def soundB (l : List UInt8) (n : Int) : Bool :=
  decide (0 ≤ n) && (decide (l.length = nb n.toNat) && (decide (n.toNat % 8 = 0) || decide ((l.getD (l.length - 1) 0).toNat * 2 ^ (n.toNat % 8) % 256 = 0)))

theorem low_zero (x k : Nat) (hk : k < 8) : x * 2 ^ k % 256 = 0 ↔ ∀ j, j < 8 - k → x.testBit j = false := by
  constructor
  · intro h j hj
    have h1 : (x * 2 ^ k % 2 ^ 8).testBit (j + k) = false := by rw [show (2 : Nat) ^ 8 = 256 from rfl, h]; simp
    rw [Nat.testBit_mod_two_pow] at h1
    simpa [Nat.testBit_mul_two_pow, show j + k < 8 by omega] using h1
  · intro h
    apply Nat.eq_of_testBit_eq
    intro i
    rw [show (256 : Nat) = 2 ^ 8 from rfl, Nat.testBit_mod_two_pow, Nat.testBit_mul_two_pow]
    by_cases h8 : i < 8
    · by_cases hki : k ≤ i
      · simp [h (i - k) (by omega)]
      · simp [hki]
    · simp [h8]

theorem soundB_iff (l : List UInt8) (n : Int) : soundB l n = true ↔ 0 ≤ n ∧ l.length = nb n.toNat ∧ ∀ i, n.toNat ≤ i → bt l i = false := by
  unfold soundB
  simp only [Bool.and_eq_true, Bool.or_eq_true, decide_eq_true_eq]
  constructor
  · rintro ⟨h0, hl, h8⟩
    refine ⟨h0, hl, fun i hi => ?_⟩
    by_cases hb : 8 * l.length ≤ i
    · exact bt_none l i hb
    · have hlen : l.length = (n.toNat + 7) / 8 := hl
      rcases h8 with h8 | h8
      · omega
      · by_cases h8z : n.toNat % 8 = 0
        · omega
        · rw [low_zero _ _ (by omega)] at h8
          unfold bt
          rw [show i / 8 = l.length - 1 by omega]
          exact h8 _ (by omega)
  · rintro ⟨h0, hl, h⟩
    refine ⟨h0, hl, ?_⟩
    by_cases h8z : n.toNat % 8 = 0
    · exact .inl h8z
    · right
      have hlen : l.length = (n.toNat + 7) / 8 := hl
      rw [low_zero _ _ (by omega)]
      intro j hj
      have := h (8 * (l.length - 1) + (7 - j)) (by omega)
      unfold bt at this
      rwa [show (8 * (l.length - 1) + (7 - j)) / 8 = l.length - 1 by omega, show 7 - (8 * (l.length - 1) + (7 - j)) % 8 = j by omega] at this

theorem sound_pack (bs : List Bool) : soundB (pack bs) bs.length = true := by
  rw [soundB_iff]
  refine ⟨by omega, by rw [pack_length]; rfl, fun i hi => ?_⟩
  rw [bt_pack, List.getD_eq_getElem?_getD, List.getElem?_eq_none (by omega)]; rfl

theorem bitl_get (l : List UInt8) (n i : Nat) : (bitl l n).getD i false = (if i < n then bt l i else false) := by
  unfold bitl
  rw [List.getD_eq_getElem?_getD, List.getElem?_map]
  by_cases h : i < n
  · simp [h]
  · simp [h]

/-- sound bits are the bytes of their bits -/
theorem pack_bits {l : List UInt8} {n : Nat} (h : soundB l n = true) : pack (bitl l n) = l := by
  rw [soundB_iff] at h
  obtain ⟨_, hl, hz⟩ := h
  apply bytes_ext
  · rw [pack_length, bitl_length, hl]; rfl
  · intro i _
    rw [bt_pack, bitl_get]
    split
    · rfl
    · rename_i hn; exact (hz i (by simpa using hn)).symm

theorem bits_pack (bs : List Bool) : bitl (pack bs) bs.length = bs := by
  apply List.ext_getElem (by simp [bitl_length])
  intro i h1 h2
  simp only [bitl, List.getElem_map, List.getElem_range]
  rw [bt_pack, List.getD_eq_getElem?_getD, List.getElem?_eq_getElem h2]; rfl

theorem pack_inj {a b : List Bool} (hl : a.length = b.length) (h : pack a = pack b) : a = b := by
  rw [← bits_pack a, ← bits_pack b, h, hl]

/-- the number that bits are -/
def numB (bs : List Bool) : Nat := bs.foldl (fun v b => 2 * v + b2n b) 0
/-- the last bits of a number -/
def valB (v width : Nat) : List Bool := (List.range width).map fun i => v.testBit (width - 1 - i)

theorem numB_nil : numB [] = 0 := rfl
theorem numB_snoc (bs : List Bool) (b : Bool) : numB (bs ++ [b]) = 2 * numB bs + b2n b := by simp [numB, List.foldl_append]
theorem valB_length (v n : Nat) : (valB v n).length = n := by simp [valB]
theorem b2n_bit (b : Bool) (j : Nat) : (b2n b).testBit j = (decide (j = 0) && b) := by
  cases b
  · simp [b2n]
  · cases j with
    | zero => rfl
    | succ j => simp [b2n, Nat.testBit_succ]
theorem twice_bit (v : Nat) (b : Bool) (j : Nat) : (2 * v + b2n b).testBit j = if j = 0 then b else v.testBit (j - 1) := by
  cases j with
  | zero => cases b <;> simp [b2n, Nat.testBit_zero] <;> omega
  | succ j =>
    rw [Nat.testBit_succ]
    have := b2n_le b
    rw [show (2 * v + b2n b) / 2 = v by omega]
    simp
theorem testBit_numB (bs : List Bool) : ∀ j, (numB bs).testBit j = if j < bs.length then bs.getD (bs.length - 1 - j) false else false := by
  induction bs using snoc_ind with
  | h0 => intro j; simp [numB]
  | h1 bs b ih =>
    intro j
    rw [numB_snoc, twice_bit]
    by_cases hj : j = 0
    · subst hj; simp
    · rw [if_neg hj, ih]
      simp only [List.length_append, List.length_cons, List.length_nil]
      by_cases h : j - 1 < bs.length
      · rw [if_pos h, if_pos (by omega), List.getD_eq_getElem?_getD, List.getD_eq_getElem?_getD, List.getElem?_append_left (by omega)]
        congr 2; omega
      · rw [if_neg h, if_neg (by omega)]
theorem numB_lt (bs : List Bool) : numB bs < 2 ^ bs.length := by
  induction bs using snoc_ind with
  | h0 => simp [numB]
  | h1 bs b ih =>
    rw [numB_snoc]
    have := b2n_le b
    simp only [List.length_append, List.length_cons, List.length_nil, Nat.pow_succ, Nat.zero_add]
    omega
theorem valB_get (v n i : Nat) : (valB v n).getD i false = if i < n then v.testBit (n - 1 - i) else false := by
  unfold valB
  rw [List.getD_eq_getElem?_getD, List.getElem?_map]
  by_cases h : i < n
  · simp [h]
  · simp [h]
theorem numB_valB (v n : Nat) : numB (valB v n) = v % 2 ^ n := by
  apply Nat.eq_of_testBit_eq
  intro j
  rw [testBit_numB, Nat.testBit_mod_two_pow, valB_length, valB_get]
  by_cases h : j < n
  · rw [if_pos h, if_pos (by omega), show n - 1 - (n - 1 - j) = j by omega]; simp [h]
  · rw [if_neg h]; simp [h]
theorem valB_mod (v n : Nat) : valB (v % 2 ^ n) n = valB v n := by
  unfold valB
  apply List.map_congr_left
  intro i hi
  rw [List.mem_range] at hi
  rw [Nat.testBit_mod_two_pow]; simp; omega
theorem valB_numB (bs : List Bool) : valB (numB bs) bs.length = bs := by
  apply List.ext_getElem (by simp [valB])
  intro i h1 h2
  simp only [valB, List.getElem_map, List.getElem_range]
  rw [testBit_numB, if_pos (by omega), show bs.length - 1 - (bs.length - 1 - i) = i by omega, List.getD_eq_getElem?_getD, List.getElem?_eq_getElem h2]; rfl

theorem bt_set (l : List UInt8) (j : Nat) (x : UInt8) (i : Nat) (hj : j < l.length) : bt (l.set j x) i = if i / 8 = j then x.toNat.testBit (7 - i % 8) else bt l i := by
  unfold bt
  rw [List.getD_eq_getElem?_getD, List.getElem?_set]
  by_cases h : j = i / 8
  · subst h; rw [if_pos rfl, if_pos hj, if_pos rfl]; rfl
  · rw [if_neg h, if_neg (fun e => h e.symm), ← List.getD_eq_getElem?_getD]

theorem bt_snoc (l : List UInt8) (x : UInt8) (i : Nat) : bt (l ++ [x]) i = if i / 8 = l.length then x.toNat.testBit (7 - i % 8) else bt l i := by
  unfold bt
  rw [List.getD_eq_getElem?_getD, List.getD_eq_getElem?_getD]
  by_cases h : i / 8 < l.length
  · rw [List.getElem?_append_left h, if_neg (by omega)]
  · rw [List.getElem?_append_right (by omega)]
    by_cases h2 : i / 8 = l.length
    · rw [if_pos h2, h2]; simp
    · rw [if_neg h2, List.getElem?_eq_none (show l.length ≤ i / 8 by omega), List.getElem?_eq_none (by simp; omega)]

theorem pack_zero (bs : List Bool) (h : bs.length % 8 = 0) : (pack bs ++ [0]).length = bs.length / 8 + 1 := by rw [List.length_append, pack_length]; simp [nb]; omega

theorem shl_byte (b : Bool) (k : Nat) (hk : k < 8) : b2n b * 2 ^ k < 256 := by
  have h1 := b2n_le b
  have h2 : 2 ^ k ≤ 2 ^ 7 := Nat.pow_le_pow_right (by decide) (by omega)
  have h3 : b2n b * 2 ^ k ≤ 1 * 2 ^ k := Nat.mul_le_mul_right _ h1
  omega

theorem or_byte (x : UInt8) (b : Bool) (k : Nat) (hk : k < 8) : (x.toNat ||| b2n b * 2 ^ k) < 256 :=
  Nat.or_lt_two_pow (n := 8) x.toNat_lt (shl_byte b k hk)

/-- the byte that takes one more bit -/
def orBit (x : UInt8) (b : Bool) (k : Nat) : UInt8 := UInt8.ofNat (x.toNat ||| b2n b * 2 ^ k)
theorem orBit_toNat (x : UInt8) (b : Bool) (k : Nat) (hk : k < 8) : (orBit x b k).toNat = x.toNat ||| b2n b * 2 ^ k := UInt8.toNat_ofNat_of_lt' (or_byte x b k hk)
theorem orBit_bit (x : UInt8) (b : Bool) (k j : Nat) (hk : k < 8) : (orBit x b k).toNat.testBit j = (x.toNat.testBit j || (decide (j = k) && b)) := by
  rw [orBit_toNat _ _ _ hk, Nat.testBit_or, Nat.testBit_mul_two_pow, b2n_bit]
  congr 1
  by_cases h : k ≤ j
  · by_cases h2 : j = k
    · subst h2; simp
    · have : ¬ j - k = 0 := by omega
      simp [h, h2, this]
  · have : ¬ j = k := by omega
    simp [h, this]

/-- one more bit -/
theorem pack_snoc (bs : List Bool) (b : Bool) (L : List UInt8) (x : UInt8) (hL : L = if bs.length % 8 = 0 then pack bs ++ [0] else pack bs) (hx : L[bs.length / 8]? = some x) :
    L.set (bs.length / 8) (orBit x b (7 - bs.length % 8)) = pack (bs ++ [b]) := by
  have hlen : L.length = bs.length / 8 + 1 := by
    rw [hL]; split
    · exact pack_zero bs (by assumption)
    · rw [pack_length]; unfold nb; omega
  have hbt : ∀ i, bt L i = bs.getD i false := by
    intro i
    rw [hL]; split
    · rw [bt_snoc]; split
      · rename_i h8 hi
        rw [pack_length] at hi
        rw [List.getD_eq_getElem?_getD, List.getElem?_eq_none (by unfold nb at hi; omega)]; simp
      · exact bt_pack bs i
    · exact bt_pack bs i
  apply bytes_ext
  · rw [List.length_set, hlen, pack_length, List.length_append]; unfold nb; simp; omega
  · intro i hi
    rw [List.length_set, hlen] at hi
    rw [bt_set _ _ _ _ (by omega), bt_pack, orBit_bit _ _ _ _ (by omega)]
    have hxi : i / 8 = bs.length / 8 → x.toNat.testBit (7 - i % 8) = bs.getD i false := by
      intro h
      rw [← hbt i]; unfold bt
      rw [List.getD_eq_getElem?_getD, h, hx]; rfl
    have hap : (bs ++ [b]).getD i false = if i = bs.length then b else bs.getD i false := by
      simp only [List.getD_eq_getElem?_getD]
      rcases Nat.lt_trichotomy i bs.length with h | h | h
      · rw [List.getElem?_append_left h, if_neg (by omega)]
      · subst h; simp
      · rw [List.getElem?_eq_none (by simp; omega), if_neg (by omega), List.getElem?_eq_none (by omega)]
    rw [hap]
    by_cases h : i / 8 = bs.length / 8
    · rw [if_pos h, hxi h]
      by_cases h2 : i = bs.length
      · subst h2; rw [List.getD_eq_getElem?_getD, List.getElem?_eq_none (by omega)]; simp
      · have : ¬ (7 - i % 8 = 7 - bs.length % 8) := by omega
        simp [h2, this]
    · rw [if_neg h, if_neg (by omega), hbt]

theorem pack_take (bs : List Bool) (k : Nat) (hk : k < bs.length) (L : List UInt8) (x : UInt8) (hL : L = if k % 8 = 0 then pack (bs.take k) ++ [0] else pack (bs.take k)) (hx : L[k / 8]? = some x) :
    L.set (k / 8) (orBit x bs[k] (7 - k % 8)) = pack (bs.take (k + 1)) := by
  have e : (bs.take k).length = k := by simp; omega
  have h := pack_snoc (bs.take k) bs[k] L x (by rw [e]; exact hL) (by rw [e]; exact hx)
  rw [e] at h
  rw [h, List.take_succ_eq_append_getElem hk]

/-- bits as bytes -/
def u8s (bs : List Bool) : List UInt8 := bs.map b2u
theorem u8s_nil : u8s [] = [] := rfl
theorem u8s_snoc (bs : List Bool) (b : Bool) : u8s (bs ++ [b]) = u8s bs ++ [b2u b] := by simp [u8s]
theorem u8s_append (a b : List Bool) : u8s (a ++ b) = u8s a ++ u8s b := by simp [u8s]
theorem u8s_length (bs : List Bool) : (u8s bs).length = bs.length := by simp [u8s]
theorem u8s_get (bs : List Bool) (k : Nat) (h : k < (u8s bs).length) : (u8s bs)[k] = b2u (bs[k]'(by rwa [u8s_length] at h)) := by simp [u8s]

/-- k bits from a on -/
def cutl (l : List UInt8) (a k : Nat) : List Bool := (List.range k).map fun i => bt l (a + i)
theorem cutl_length (l : List UInt8) (a k : Nat) : (cutl l a k).length = k := by simp [cutl]
theorem cutl_succ (l : List UInt8) (a k : Nat) : cutl l a (k + 1) = cutl l a k ++ [bt l (a + k)] := by simp [cutl, List.range_succ]
theorem cutl_zero (l : List UInt8) (a : Nat) : cutl l a 0 = [] := rfl
theorem cutl_get (l : List UInt8) (a k i : Nat) : (cutl l a k).getD i false = if i < k then bt l (a + i) else false := by
  unfold cutl
  rw [List.getD_eq_getElem?_getD, List.getElem?_map]
  by_cases h : i < k
  · simp [h]
  · simp [h]
theorem cutl_all (l : List UInt8) (n : Nat) : cutl l 0 n = bitl l n := by simp [cutl, bitl]

theorem testBit_cut (l : List UInt8) (a k j : Nat) : (numB (cutl l a k)).testBit j = if j < k then bt l (a + (k - 1 - j)) else false := by
  rw [testBit_numB, cutl_length, cutl_get]
  by_cases h : j < k
  · rw [if_pos h, if_pos (by omega), if_pos h]
  · rw [if_neg h, if_neg h]

theorem read_step (l : List UInt8) (a t n x q : Nat) (hx : x = a + t) (hq : q = 8 - x % 8) (hn : n ≤ q) (hl : x / 8 < l.length) :
    numB (cutl l a (t + n)) = (numB (cutl l a t) * 2 ^ n) ||| ((l[x / 8]).toNat / 2 ^ (q - n) % 2 ^ n) := by
  apply Nat.eq_of_testBit_eq
  intro j
  rw [testBit_cut, Nat.testBit_or, Nat.testBit_mul_two_pow, Nat.testBit_mod_two_pow, Nat.testBit_div_two_pow, testBit_cut]
  by_cases hjn : n ≤ j
  · have e1 : ¬ j < n := by omega
    simp only [hjn, e1, decide_true, decide_false, Bool.true_and, Bool.false_and, Bool.or_false]
    by_cases hj : j < t + n
    · rw [if_pos hj, if_pos (by omega)]; congr 1; omega
    · rw [if_neg hj, if_neg (by omega)]
  · have e1 : j < n := by omega
    simp only [hjn, e1, decide_true, decide_false, Bool.true_and, Bool.false_and, Bool.false_or]
    rw [if_pos (by omega)]
    unfold bt
    rw [show (a + (t + n - 1 - j)) / 8 = x / 8 by omega, show 7 - (a + (t + n - 1 - j)) % 8 = j + (q - n) by omega, List.getD_eq_getElem?_getD, List.getElem?_eq_getElem hl]
    rfl

theorem sound_nat {l : List UInt8} {n : Int} (h : soundB l n = true) : ∃ m : Nat, n = m ∧ m ≤ 8 * l.length ∧ l.length = nb m := by
  obtain ⟨h0, hl, _⟩ := (soundB_iff l n).1 h
  obtain ⟨m, rfl⟩ := Int.eq_ofNat_of_zero_le h0
  refine ⟨m, rfl, ?_, hl⟩
  unfold nb at hl; simp at hl; omega

/-- the byte into which n bits of v are written, q - n places from its lowest -/
def wrByte (old : UInt8) (v r n q : Nat) : Nat := old.toNat ||| (v / 2 ^ (r - n) % 2 ^ n * 2 ^ (q - n))
theorem wrByte_bit (old : UInt8) (v r n q j : Nat) : (wrByte old v r n q).testBit j = (old.toNat.testBit j || (decide (q - n ≤ j) && (decide (j - (q - n) < n) && v.testBit (j - (q - n) + (r - n))))) := by
  unfold wrByte
  rw [Nat.testBit_or, Nat.testBit_mul_two_pow, Nat.testBit_mod_two_pow, Nat.testBit_div_two_pow]
theorem wrByte_part (v r n q : Nat) (hn : n ≤ q) (hq : q ≤ 8) : v / 2 ^ (r - n) % 2 ^ n * 2 ^ (q - n) < 256 := by
  have h1 : v / 2 ^ (r - n) % 2 ^ n < 2 ^ n := Nat.mod_lt _ (Nat.two_pow_pos n)
  have h2 : v / 2 ^ (r - n) % 2 ^ n * 2 ^ (q - n) < 2 ^ n * 2 ^ (q - n) := Nat.mul_lt_mul_of_pos_right h1 (Nat.two_pow_pos _)
  rw [← Nat.pow_add, show n + (q - n) = q by omega] at h2
  exact Nat.lt_of_lt_of_le h2 (Nat.pow_le_pow_right (by decide) hq : 2 ^ q ≤ 2 ^ 8)
theorem wrByte_lt (old : UInt8) (v r n q : Nat) (hn : n ≤ q) (hq : q ≤ 8) : wrByte old v r n q < 256 := Nat.or_lt_two_pow (n := 8) old.toNat_lt (wrByte_part v r n q hn hq)

/-- after t of d bits of v are written from a on -/
def Wrote (l l1 : List UInt8) (a v d t : Nat) : Prop := l1.length = l.length ∧ ∀ i, bt l1 i = if a ≤ i ∧ i < a + t then v.testBit (d - 1 - (i - a)) else bt l i

theorem Wrote.zero (l : List UInt8) (a v d : Nat) : Wrote l l a v d 0 := ⟨rfl, fun i => by rw [if_neg (by omega)]⟩
theorem Wrote.step {l l1 : List UInt8} {a v d t x r n q : Nat} (h : Wrote l l1 a v d t) (hz : ∀ i, a ≤ i → i < a + d → bt l i = false) (hx : x = a + t) (hr : r = d - t) (hq : q = 8 - x % 8) (hn : n ≤ q) (hnr : n ≤ r) (hl : x / 8 < l1.length) :
    Wrote l (l1.set (x / 8) (UInt8.ofNat (wrByte l1[x / 8] v r n q))) a v d (t + n) := by
  refine ⟨by rw [List.length_set]; exact h.1, fun i => ?_⟩
  rw [bt_set _ _ _ _ hl]
  by_cases hi : i / 8 = x / 8
  · rw [if_pos hi, UInt8.toNat_ofNat_of_lt' (wrByte_lt _ _ _ _ _ hn (by omega)), wrByte_bit]
    have hold : l1[x / 8].toNat.testBit (7 - i % 8) = bt l1 i := by
      unfold bt; rw [hi, List.getD_eq_getElem?_getD, List.getElem?_eq_getElem hl]; rfl
    rw [hold, h.2 i]
    by_cases hin : x ≤ i ∧ i < x + n
    · rw [if_neg (by omega), if_pos (by omega), hz i (by omega) (by omega)]
      have e1 : q - n ≤ 7 - i % 8 := by omega
      have e2 : 7 - i % 8 - (q - n) < n := by omega
      simp only [e1, e2, decide_true, Bool.true_and, Bool.false_or]
      congr 1; omega
    · have e : (decide (q - n ≤ 7 - i % 8) && (decide (7 - i % 8 - (q - n) < n) && v.testBit (7 - i % 8 - (q - n) + (r - n)))) = false := by
        by_cases e1 : q - n ≤ 7 - i % 8
        · have e2 : ¬ 7 - i % 8 - (q - n) < n := by omega
          simp [e2]
        · simp [e1]
      rw [e, Bool.or_false]
      by_cases hc : a ≤ i ∧ i < a + t
      · rw [if_pos hc, if_pos (by omega)]
      · rw [if_neg hc, if_neg (by omega)]
  · rw [if_neg hi, h.2 i]
    by_cases hc : a ≤ i ∧ i < a + t
    · rw [if_pos hc, if_pos (by omega)]
    · rw [if_neg hc, if_neg (by omega)]

/-- bytes with d bits of v behind the first m -/
theorem put_done {l l' : List UInt8} {m v d : Nat} (hs : soundB l m = true) (h : Wrote (l ++ (List.replicate (nb (m + d)) 0).drop l.length) l' m v d d) : l' = pack (bitl l m ++ valB v d) := by
  obtain ⟨_, hl, hz⟩ := (soundB_iff l m).1 hs
  rw [Int.toNat_natCast] at hl hz
  have hlen : (l ++ (List.replicate (nb (m + d)) (0 : UInt8)).drop l.length).length = nb (m + d) := by
    rw [List.length_append, List.length_drop, List.length_replicate, hl]; unfold nb; omega
  apply bytes_ext
  · rw [h.1, hlen, pack_length, List.length_append, bitl_length, valB_length]
  · intro i _
    rw [h.2 i, bt_pack]
    have hap : (bitl l m ++ valB v d).getD i false = if i < m then bt l i else (valB v d).getD (i - m) false := by
      simp only [List.getD_eq_getElem?_getD]
      by_cases hi : i < m
      · rw [List.getElem?_append_left (by rw [bitl_length]; exact hi), if_pos hi, ← List.getD_eq_getElem?_getD, bitl_get, if_pos hi]
      · rw [List.getElem?_append_right (by rw [bitl_length]; omega), if_neg hi, bitl_length]
    rw [hap, valB_get]
    have hbl : bt (l ++ (List.replicate (nb (m + d)) (0 : UInt8)).drop l.length) i = bt l i := by
      unfold bt
      simp only [List.getD_eq_getElem?_getD]
      by_cases hi : i / 8 < l.length
      · rw [List.getElem?_append_left hi]
      · rw [List.getElem?_append_right (by omega), List.getElem?_eq_none (show l.length ≤ i / 8 by omega), List.getElem?_drop, List.getElem?_replicate]
        split <;> simp
    by_cases hi : i < m
    · rw [if_neg (by omega), if_pos hi, hbl]
    · rw [if_neg hi]
      by_cases hd : i < m + d
      · rw [if_pos ⟨by omega, hd⟩, if_pos (by omega)]
      · rw [if_neg (by omega), if_neg (by omega), hbl, hz i (by omega)]

theorem put_zero {l : List UInt8} {m d : Nat} (hs : soundB l m = true) : ∀ i, m ≤ i → i < m + d → bt (l ++ (List.replicate (nb (m + d)) (0 : UInt8)).drop l.length) i = false := by
  obtain ⟨_, hl, hz⟩ := (soundB_iff l m).1 hs
  rw [Int.toNat_natCast] at hl hz
  intro i hi _
  have hbl : bt (l ++ (List.replicate (nb (m + d)) (0 : UInt8)).drop l.length) i = bt l i := by
    unfold bt
    simp only [List.getD_eq_getElem?_getD]
    by_cases hi : i / 8 < l.length
    · rw [List.getElem?_append_left hi]
    · rw [List.getElem?_append_right (by omega), List.getElem?_eq_none (show l.length ≤ i / 8 by omega), List.getElem?_drop, List.getElem?_replicate]
      split <;> simp
  rw [hbl, hz i hi]

/-- what Put answers: bytes, bits, the error -/
def putSpec (l : List UInt8) (n : Int) (v : Nat) (width : Int) : List UInt8 × Nat × Nat :=
  if soundB l n = false then ([], 0, 11) else if width < 0 ∨ 64 < width then ([], 0, 1) else (pack (bitl l n.toNat ++ valB v width.toNat), n.toNat + width.toNat, 0)

/-- what Get answers: a number, the error -/
def getSpec (l : List UInt8) (n at_ width : Int) : Nat × Nat :=
  if soundB l n = false then (0, 11) else if width < 0 ∨ 64 < width then (0, 1) else if at_ < 0 ∨ n < at_ ∨ n - at_ < width then (0, 10) else (numB (cutl l at_.toNat width.toNat), 0)

/-- what Cut answers: bytes, bits, the error -/
def cutSpec (l : List UInt8) (n a b : Int) : List UInt8 × Nat × Nat :=
  if soundB l n = false then ([], 0, 11) else if a < 0 ∨ b < a ∨ n < b then ([], 0, 10) else (pack (cutl l a.toNat (b - a).toNat), (b - a).toNat, 0)

theorem getSpec_code (l : List UInt8) (n a b : Int) : (getSpec l n a b).2 ≤ 11 := by
  unfold getSpec
  split
  · exact Nat.le_refl _
  · split
    · show 1 ≤ 11; decide
    · split
      · show 10 ≤ 11; decide
      · exact Nat.zero_le _
theorem putSpec_code (l : List UInt8) (n : Int) (v : Nat) (b : Int) : (putSpec l n v b).2.2 ≤ 11 := by
  unfold putSpec
  split
  · exact Nat.le_refl _
  · split
    · show 1 ≤ 11; decide
    · exact Nat.zero_le _
theorem cutSpec_code (l : List UInt8) (n a b : Int) : (cutSpec l n a b).2.2 ≤ 11 := by
  unfold cutSpec
  split
  · exact Nat.le_refl _
  · split
    · show 10 ≤ 11; decide
    · exact Nat.zero_le _

theorem cutl_pack (M : List Bool) (a d : Nat) (h : a + d ≤ M.length) : cutl (pack M) a d = (M.drop a).take d := by
  apply List.ext_getElem
  · rw [cutl_length, List.length_take, List.length_drop]; omega
  · intro i h1 h2
    rw [cutl_length] at h1
    simp only [cutl, List.getElem_map, List.getElem_range, List.getElem_take, List.getElem_drop]
    rw [bt_pack, List.getD_eq_getElem?_getD, List.getElem?_eq_getElem (by omega)]; rfl

theorem valB_split (v W k : Nat) (hk : k ≤ W) : valB v W = valB (v / 2 ^ k) (W - k) ++ valB v k := by
  apply List.ext_getElem
  · rw [List.length_append, valB_length, valB_length, valB_length]; omega
  · intro i h1 h2
    rw [valB_length] at h1
    rw [List.getElem_append]
    split
    · rename_i h
      simp only [valB, List.getElem_map, List.getElem_range]
      rw [Nat.testBit_div_two_pow]
      congr 1
      rw [valB_length] at h
      omega
    · rename_i h
      rw [valB_length] at h
      simp only [valB, List.getElem_map, List.getElem_range, List.length_map, List.length_range]
      congr 1
      omega

theorem valB_zero (v : Nat) : valB v 0 = [] := rfl
theorem valB_eq_iff (v u d : Nat) : valB v d = valB u d ↔ v % 2 ^ d = u % 2 ^ d := by
  constructor
  · intro h
    rw [← numB_valB, h, numB_valB]
  · intro h
    rw [← valB_mod v, h, valB_mod]

theorem pack_eq_iff (a b : List Bool) : (a.length = b.length ∧ pack a = pack b) ↔ a = b :=
  ⟨fun h => pack_inj h.1 h.2, fun h => by rw [h]; exact ⟨rfl, rfl⟩⟩

theorem nb_le (n : Nat) : nb n ≤ n + 1 := by unfold nb; omega
theorem pack_le (M : List Bool) {k : Nat} (h : M.length ≤ k) : (pack M).length ≤ k + 1 := by rw [pack_length]; have := nb_le M.length; omega

/-- bits that are sound are those of a list -/
theorem pack_sound {l : List UInt8} {m : Nat} (h : soundB l m = true) : l = pack (bitl l m) := by
  have h1 := (soundB_iff l m).1 h
  rw [Int.toNat_natCast] at h1
  apply bytes_ext
  · rw [pack_length, bitl_length]; exact h1.2.1
  · intro i _
    rw [bt_pack, bitl_get]
    split
    · rfl
    · exact h1.2.2 i (by omega)

end Go.Proofs.YtiogckgchlnldaaGreat

/- Layer 8: a file system's data, as the document has them. -/
set_option linter.unusedSimpArgs false
set_option linter.unusedVariables false
namespace Go.Proofs.YtiogckgchlnldaaGreat

abbrev Nm := List UInt8
/-- files by rising names, with their durable bytes; pieces; is there a halt, how many calls are left, was one lost -/
structure Fd where
  F : List (Nm × List UInt8)
  P : List (Nm × List UInt8)
  st : Bool
  lf : Nat
  dd : Bool

/-- a name ahead of another -/
def ltN : Nm → Nm → Bool
  | _, [] => false
  | [], _ :: _ => true
  | a :: as, b :: bs => if a = b then ltN as bs else decide (a < b)
theorem ltN_irrefl : ∀ a, ltN a a = false
  | [] => rfl
  | a :: as => by unfold ltN; rw [if_pos rfl]; exact ltN_irrefl as
theorem ltN_asymm : ∀ a b, ltN a b = true → ltN b a = false
  | _, [], h => by cases ‹Nm› <;> cases h
  | [], _ :: _, _ => rfl
  | a :: as, b :: bs, h => by
    unfold ltN at h ⊢
    by_cases e : a = b
    · subst e
      rw [if_pos rfl] at h ⊢
      exact ltN_asymm as bs h
    · rw [if_neg e] at h
      rw [if_neg (fun x => e x.symm)]
      have := of_decide_eq_true h
      exact decide_eq_false (fun x => UInt8.lt_asymm this x)
theorem ltN_trans : ∀ a b c, ltN a b = true → ltN b c = true → ltN a c = true
  | a, [], c, h, _ => by cases a <;> cases h
  | a, _ :: _, [], _, h => by cases h
  | [], _ :: _, _ :: _, _, _ => rfl
  | a :: as, b :: bs, c :: cs, h, k => by
    unfold ltN at h k ⊢
    by_cases e : a = b
    · subst e
      rw [if_pos rfl] at h
      by_cases e2 : a = c
      · subst e2
        rw [if_pos rfl] at k ⊢
        exact ltN_trans as bs cs h k
      · rw [if_neg e2] at k ⊢
        exact k
    · rw [if_neg e] at h
      by_cases e2 : b = c
      · subst e2
        rw [if_neg e]
        exact h
      · rw [if_neg e2] at k
        have h1 := of_decide_eq_true h
        have h2 := of_decide_eq_true k
        have h3 := UInt8.lt_trans h1 h2
        have h4 : a ≠ c := fun x => by subst x; exact UInt8.lt_irrefl _ h3
        rw [if_neg h4]
        exact decide_eq_true h3
theorem ltN_total : ∀ a b, a ≠ b → ltN a b = false → ltN b a = true
  | [], [], h, _ => absurd rfl h
  | [], _ :: _, _, h => by cases h
  | _ :: _, [], _, _ => rfl
  | a :: as, b :: bs, h, k => by
    unfold ltN at k ⊢
    by_cases e : a = b
    · subst e
      rw [if_pos rfl] at k ⊢
      exact ltN_total as bs (fun x => h (by rw [x])) k
    · rw [if_neg e] at k
      rw [if_neg (fun x => e x.symm)]
      have h1 := of_decide_eq_false k
      refine decide_eq_true ?_
      rcases UInt8.lt_or_lt_of_ne e with h2 | h2
      · exact absurd h2 h1
      · exact h2

/-- files stand by rising names -/
def upN (F : List (Nm × List UInt8)) : Prop := F.Pairwise fun a b => ltN a.1 b.1 = true
/-- the bytes of a name's pieces -/
def pcs (P : List (Nm × List UInt8)) (n : Nm) : List UInt8 := (P.filter fun p => p.1 == n).flatMap (·.2)
def atF (F : List (Nm × List UInt8)) (n : Nm) : Option (List UInt8) := (F.find? fun f => f.1 == n).map (·.2)
/-- all bytes of a file -/
def rdD (d : Fd) (n : Nm) : Option (List UInt8) := (atF d.F n).map (· ++ pcs d.P n)
def usedD (d : Fd) : Nat := (d.F.map fun f => (f.2 ++ pcs d.P f.1).length).sum
def insF (f : Nm × List UInt8) : List (Nm × List UInt8) → List (Nm × List UInt8)
  | [] => [f]
  | x :: xs => if ltN x.1 f.1 = true then x :: insF f xs else f :: x :: xs
def dropN (n : Nm) (F : List (Nm × List UInt8)) : List (Nm × List UInt8) := F.filter fun f => !(f.1 == n)
def setF (n : Nm) (b : List UInt8) (F : List (Nm × List UInt8)) : List (Nm × List UInt8) := F.map fun f => if f.1 == n then (n, b) else f
def okN (n : Nm) : Bool := decide (1 ≤ n.length ∧ n.length ≤ 16)
/-- is a call carried out; what is left -/
def runsD (d : Fd) : Bool × Fd := if d.st = false then (true, d) else if 0 < d.lf then (true, { d with lf := d.lf - 1 }) else (false, { d with dd := true })
def createD (d : Fd) (n : Nm) : Nat × Fd :=
  if okN n = false then (1, d) else if (atF d.F n).isSome then (81, d) else if 8 ≤ d.F.length then (3, d)
  else let r := runsD d; (0, if r.1 = true then { r.2 with F := insF (n, []) r.2.F } else r.2)
def appendD (room : Int) (d : Fd) (n : Nm) (b : List UInt8) : Nat × Fd :=
  if (atF d.F n).isNone then (80, d) else if room < usedD d + b.length then (82, d) else if b = [] then (0, d)
  else let r := runsD d; (0, if r.1 = true then { r.2 with P := r.2.P ++ [(n, b)] } else r.2)
def syncD (d : Fd) (n : Nm) : Nat × Fd :=
  match rdD d n with
  | none => (80, d)
  | some b => let r := runsD d; (0, if r.1 = true then { r.2 with F := setF n b r.2.F, P := dropN n r.2.P } else r.2)
def cutD (d : Fd) (n : Nm) (k : Int) : Nat × Fd :=
  match rdD d n with
  | none => (80, d)
  | some b => if k < 0 ∨ (b.length : Int) < k then (1, d) else
    let r := runsD d; (0, if r.1 = true then { r.2 with F := setF n (b.take k.toNat) r.2.F, P := dropN n r.2.P } else r.2)
def renameD (d : Fd) (n m : Nm) : Nat × Fd :=
  match atF d.F n with
  | none => (80, d)
  | some b => if okN m = false then (1, d) else if n = m then (0, d) else
    let r := runsD d
    (0, if r.1 = true then { r.2 with F := insF (m, b) (dropN n (dropN m r.2.F)), P := (dropN m r.2.P).map fun p => if p.1 == n then (m, p.2) else p } else r.2)
def removeD (d : Fd) (n : Nm) : Nat × Fd :=
  if (atF d.F n).isNone then (80, d) else
    let r := runsD d; (0, if r.1 = true then { r.2 with F := dropN n r.2.F, P := dropN n r.2.P } else r.2)
def haltD (d : Fd) (n : Int) : Fd := { d with st := true, lf := n.toNat }
/-- what a crash leaves of one file: pieces with their number, durable bytes so far, noughts that wait -/
def crashF (kept : Nat → Bool) (last torn : Int) (n : Nm) : List (Nm × List UInt8) → Nat → List UInt8 → List UInt8 → List UInt8
  | [], _, b, _ => b
  | p :: ps, i, b, wt => if p.1 == n then
      if kept i = true then crashF kept last torn n ps (i + 1) (b ++ wt ++ (if (i : Int) = last ∧ 0 ≤ torn ∧ torn < p.2.length then p.2.take torn.toNat else p.2)) []
      else crashF kept last torn n ps (i + 1) b (wt ++ List.replicate p.2.length 0)
    else crashF kept last torn n ps (i + 1) b wt
def lastK (kept : Nat → Bool) : Nat → Int
  | 0 => -1
  | k + 1 => if kept k = true then (k : Int) else lastK kept k
def crashD (d : Fd) (kept : Nat → Bool) (torn : Int) : Fd :=
  ⟨d.F.map fun f => (f.1, crashF kept (lastK kept d.P.length) torn f.1 d.P 0 f.2 []), [], false, 0, false⟩

theorem mem_insF {f x : Nm × List UInt8} : ∀ {F : List (Nm × List UInt8)}, x ∈ insF f F ↔ x = f ∨ x ∈ F
  | [] => by simp [insF]
  | y :: ys => by
    unfold insF
    split
    · rw [List.mem_cons, mem_insF, List.mem_cons]
      constructor
      · rintro (h | h | h)
        · exact .inr (.inl h)
        · exact .inl h
        · exact .inr (.inr h)
      · rintro (h | h | h)
        · exact .inr (.inl h)
        · exact .inl h
        · exact .inr (.inr h)
    · simp
theorem insF_up {f : Nm × List UInt8} : ∀ {F : List (Nm × List UInt8)}, upN F → (∀ x ∈ F, x.1 ≠ f.1) → upN (insF f F)
  | [], _, _ => List.pairwise_singleton _ _
  | y :: ys, h, hn => by
    obtain ⟨h1, h2⟩ := List.pairwise_cons.1 h
    unfold insF
    split
    · rename_i hl
      refine List.pairwise_cons.2 ⟨fun a ha => ?_, insF_up h2 (fun x hx => hn x (List.mem_cons_of_mem _ hx))⟩
      rcases mem_insF.1 ha with rfl | ha
      · exact hl
      · exact h1 a ha
    · rename_i hl
      have h3 : ltN f.1 y.1 = true := ltN_total _ _ (hn y List.mem_cons_self) (by simpa using hl)
      refine List.pairwise_cons.2 ⟨fun a ha => ?_, h⟩
      rcases List.mem_cons.1 ha with rfl | ha
      · exact h3
      · exact ltN_trans _ _ _ h3 (h1 a ha)
theorem upN.drop {F : List (Nm × List UInt8)} (h : upN F) (n : Nm) : upN (dropN n F) := List.Pairwise.filter _ h
theorem upN.set {F : List (Nm × List UInt8)} (h : upN F) (n : Nm) (b : List UInt8) : upN (setF n b F) := by
  unfold upN setF
  rw [List.pairwise_map]
  refine List.Pairwise.imp ?_ h
  intro x y hxy
  have e : ∀ z : Nm × List UInt8, (if z.1 == n then (n, b) else z).1 = z.1 := fun z => by
    split
    · rename_i h; exact (beq_iff_eq.1 h).symm
    · rfl
  rw [e, e]
  exact hxy
/-- no two files of one name -/
theorem upN.uniq {F : List (Nm × List UInt8)} (h : upN F) : F.Pairwise fun a b => a.1 ≠ b.1 :=
  List.Pairwise.imp (fun {a b} hab e => by rw [e, ltN_irrefl] at hab; cases hab) h
theorem atF_none {F : List (Nm × List UInt8)} {n : Nm} : atF F n = none ↔ ∀ f ∈ F, f.1 ≠ n := by
  unfold atF
  rw [Option.map_eq_none_iff, List.find?_eq_none]
  simp
theorem atF_some {F : List (Nm × List UInt8)} (hu : upN F) {n : Nm} {b : List UInt8} : atF F n = some b ↔ (n, b) ∈ F := by
  unfold atF
  rw [Option.map_eq_some_iff]
  constructor
  · rintro ⟨f, hf, rfl⟩
    have h1 := List.mem_of_find?_eq_some hf
    have h2 := List.find?_some hf
    simp at h2
    rw [← h2]
    exact h1
  · intro h
    cases hf : F.find? (fun f => f.1 == n) with
    | none =>
      rw [List.find?_eq_none] at hf
      exact absurd (hf _ h) (by simp)
    | some f =>
      refine ⟨f, rfl, ?_⟩
      have h1 := List.mem_of_find?_eq_some hf
      have h2 := List.find?_some hf
      simp at h2
      have := hu.uniq
      have h3 : f = (n, b) := by
        rcases List.getElem_of_mem h1 with ⟨i, hi, ei⟩
        rcases List.getElem_of_mem h with ⟨j, hj, ej⟩
        have hp := List.pairwise_iff_getElem.1 this
        rcases Nat.lt_trichotomy i j with hij | hij | hij
        · exact absurd (by rw [ei, ej, h2]) (hp i j hi hj hij)
        · subst hij; rw [← ei, ← ej]
        · exact absurd (by rw [ei, ej, h2]) (hp j i hj hi hij)
      rw [h3]

end Go.Proofs.YtiogckgchlnldaaGreat

/- Layer 8: where the pieces of files lie in the files' bytes. -/
set_option linter.unusedSimpArgs false
set_option linter.unusedVariables false
namespace Go.Proofs.YtiogckgchlnldaaGreat

def bump (pos : Nm → Nat) (n : Nm) (k : Nat) : Nm → Nat := fun m => if m = n then pos m + k else pos m
theorem bump_same (pos : Nm → Nat) (n : Nm) (k : Nat) : bump pos n k n = pos n + k := if_pos rfl
theorem bump_ne {pos : Nm → Nat} {n m : Nm} {k : Nat} (h : m ≠ n) : bump pos n k m = pos m := if_neg h
/-- each piece's name, and where it begins and ends in its file -/
def spans : (Nm → Nat) → List (Nm × List UInt8) → List (Nm × Nat × Nat)
  | _, [] => []
  | pos, p :: ps => (p.1, pos p.1, pos p.1 + p.2.length) :: spans (bump pos p.1 p.2.length) ps
theorem spans_cons (pos : Nm → Nat) (p : Nm × List UInt8) (ps : List (Nm × List UInt8)) : spans pos (p :: ps) = (p.1, pos p.1, pos p.1 + p.2.length) :: spans (bump pos p.1 p.2.length) ps := rfl
theorem spans_len : ∀ (P : List (Nm × List UInt8)) (pos : Nm → Nat), (spans pos P).length = P.length
  | [], _ => rfl
  | p :: ps, pos => by unfold spans; rw [List.length_cons, List.length_cons, spans_len ps]
theorem pcs_nil (n : Nm) : pcs [] n = [] := rfl
theorem pcs_cons_same (p : Nm × List UInt8) (P : List (Nm × List UInt8)) : pcs (p :: P) p.1 = p.2 ++ pcs P p.1 := by
  unfold pcs
  rw [List.filter_cons, if_pos (beq_self_eq_true p.1), List.flatMap_cons]
theorem pcs_cons_ne {p : Nm × List UInt8} {P : List (Nm × List UInt8)} {n : Nm} (h : p.1 ≠ n) : pcs (p :: P) n = pcs P n := by
  unfold pcs
  rw [List.filter_cons, if_neg (by simpa using h)]
theorem pcs_append (P Q : List (Nm × List UInt8)) (n : Nm) : pcs (P ++ Q) n = pcs P n ++ pcs Q n := by
  unfold pcs
  rw [List.filter_append, List.flatMap_append]
theorem pcs_drop_same (P : List (Nm × List UInt8)) (n : Nm) : pcs (dropN n P) n = [] := by
  unfold pcs dropN
  rw [List.filter_filter]
  rw [List.filter_eq_nil_iff.2]
  · rfl
  · intro a _ h
    cases hh : a.1 == n <;> simp [hh] at h
theorem pcs_drop_ne {n m : Nm} (h : m ≠ n) (P : List (Nm × List UInt8)) : pcs (dropN n P) m = pcs P m := by
  unfold pcs dropN
  rw [List.filter_filter]
  congr 1
  apply List.filter_congr
  intro a _
  by_cases hm : a.1 = m
  · subst hm
    simp [h]
  · simp [hm]
theorem spans_congr : ∀ {P : List (Nm × List UInt8)} {pos pos' : Nm → Nat}, (∀ p ∈ P, pos p.1 = pos' p.1) → spans pos P = spans pos' P
  | [], _, _, _ => rfl
  | p :: ps, pos, pos', h => by
    unfold spans
    rw [h p List.mem_cons_self]
    congr 1
    apply spans_congr
    intro q hq
    unfold bump
    rw [h q (List.mem_cons_of_mem _ hq)]
theorem spans_snoc : ∀ (P : List (Nm × List UInt8)) (pos : Nm → Nat) (n : Nm) (b : List UInt8), spans pos (P ++ [(n, b)]) = spans pos P ++ [(n, pos n + (pcs P n).length, pos n + (pcs P n).length + b.length)]
  | [], pos, n, b => by simp [spans, pcs_nil]
  | p :: ps, pos, n, b => by
    rw [List.cons_append]
    unfold spans
    rw [spans_snoc ps]
    by_cases h : p.1 = n
    · subst h
      rw [bump_same, pcs_cons_same, List.length_append, Nat.add_assoc]
      rfl
    · rw [bump_ne (fun e => h e.symm), pcs_cons_ne h]
      rfl
theorem spans_drop : ∀ (P : List (Nm × List UInt8)) (pos : Nm → Nat) (n : Nm), spans pos (dropN n P) = (spans pos P).filter fun s => !(s.1 == n)
  | [], _, _ => rfl
  | p :: ps, pos, n => by
    rw [spans_cons]
    by_cases h : p.1 = n
    · have e : dropN n (p :: ps) = dropN n ps := by unfold dropN; rw [List.filter_cons, if_neg (by simp [h])]
      rw [e, List.filter_cons, if_neg (by simp [h]), ← spans_drop ps]
      apply spans_congr
      intro q hq
      have hq2 : q.1 ≠ n := by
        have := (List.mem_filter.1 hq).2
        simpa using this
      rw [bump_ne (by rw [h]; exact hq2)]
    · have e : dropN n (p :: ps) = p :: dropN n ps := by unfold dropN; rw [List.filter_cons, if_pos (by simp [h])]
      rw [e, List.filter_cons, if_pos (by simp [h]), ← spans_drop ps, spans_cons]
/-- a name in the place of another -/
def renP (n m : Nm) (P : List (Nm × List UInt8)) : List (Nm × List UInt8) := P.map fun p => if p.1 == n then (m, p.2) else p
theorem spans_ren : ∀ (P : List (Nm × List UInt8)) (pos pos' : Nm → Nat) (n m : Nm), (∀ p ∈ P, p.1 ≠ m) → pos' m = pos n → (∀ k, k ≠ m → k ≠ n → pos' k = pos k) → spans pos' (renP n m P) = (spans pos P).map fun s => if s.1 == n then (m, s.2) else s
  | [], _, _, _, _, _, _, _ => rfl
  | p :: ps, pos, pos', n, m, hm, h1, h2 => by
    have hpm := hm p List.mem_cons_self
    unfold renP
    rw [List.map_cons]
    unfold spans
    rw [List.map_cons]
    by_cases h : p.1 = n
    · subst h
      rw [if_pos (beq_self_eq_true p.1)]
      simp only [beq_self_eq_true, if_true]
      rw [h1]
      congr 1
      refine spans_ren ps _ _ _ _ (fun q hq => hm q (List.mem_cons_of_mem _ hq)) ?_ (fun k hk hk2 => ?_)
      · rw [bump_same, bump_same, h1]
      · rw [bump_ne hk, bump_ne hk2, h2 k hk hk2]
    · rw [if_neg (by simpa using h)]
      have hb : (p.1 == n) = false := by simpa using h
      simp only [hb, Bool.false_eq_true, if_false]
      rw [h2 p.1 hpm h]
      congr 1
      refine spans_ren ps _ _ _ _ (fun q hq => hm q (List.mem_cons_of_mem _ hq)) ?_ (fun k hk hk2 => ?_)
      · rw [bump_ne (fun e => hpm e.symm), bump_ne (fun e => h e.symm), h1]
      · by_cases hk3 : k = p.1
        · subst hk3
          rw [bump_same, bump_same, h2 _ hk hk2]
        · rw [bump_ne hk3, bump_ne hk3, h2 k hk hk2]
theorem pcs_ren_same (P : List (Nm × List UInt8)) {n m : Nm} (hm : ∀ p ∈ P, p.1 ≠ m) : pcs (renP n m P) m = pcs P n := by
  induction P with
  | nil => rfl
  | cons p ps ih =>
    have hpm := hm p List.mem_cons_self
    have ih := ih (fun q hq => hm q (List.mem_cons_of_mem _ hq))
    show pcs ((if p.1 == n then (m, p.2) else p) :: renP n m ps) m = _
    by_cases h : p.1 = n
    · subst h
      rw [if_pos (beq_self_eq_true p.1), pcs_cons_same (p := p)]
      have := pcs_cons_same (m, p.2) (renP p.1 m ps)
      rw [this, ih]
    · rw [if_neg (by simpa using h), pcs_cons_ne hpm, pcs_cons_ne h, ih]
theorem pcs_ren_ne (P : List (Nm × List UInt8)) {n m k : Nm} (hk : k ≠ n) (hkm : k ≠ m) : pcs (renP n m P) k = pcs P k := by
  induction P with
  | nil => rfl
  | cons p ps ih =>
    show pcs ((if p.1 == n then (m, p.2) else p) :: renP n m ps) k = _
    by_cases h : p.1 = n
    · subst h
      rw [if_pos (beq_self_eq_true p.1), pcs_cons_ne (p := (m, p.2)) (fun e => hkm e.symm), pcs_cons_ne (fun e => hk e.symm), ih]
    · rw [if_neg (by simpa using h)]
      by_cases h2 : p.1 = k
      · subst h2
        rw [pcs_cons_same, pcs_cons_same, ih]
      · rw [pcs_cons_ne h2, pcs_cons_ne h2, ih]
theorem renD (P : List (Nm × List UInt8)) (n m : Nm) : (P.map fun p => if p.1 == n then (m, p.2) else p) = renP n m P := rfl

end Go.Proofs.YtiogckgchlnldaaGreat

/- Layer 8: what a crash leaves, step by step. -/
set_option linter.unusedSimpArgs false
set_option linter.unusedVariables false
namespace Go.Proofs.YtiogckgchlnldaaGreat

def zeroR (l : List UInt8) (fr to_ : Nat) : List UInt8 := l.take fr ++ List.replicate (to_ - fr) 0 ++ l.drop to_
theorem zeroR_len {l : List UInt8} {fr to_ : Nat} (h1 : fr ≤ to_) (h2 : to_ ≤ l.length) : (zeroR l fr to_).length = l.length := by
  unfold zeroR
  simp only [List.length_append, List.length_take, List.length_replicate, List.length_drop]
  omega
theorem zeroR_same (l : List UInt8) (fr : Nat) : zeroR l fr fr = l := by
  unfold zeroR
  rw [Nat.sub_self]
  simp
theorem zeroR_front {l : List UInt8} {fr to_ m : Nat} (h : m ≤ fr) (h2 : fr ≤ l.length) : (zeroR l fr to_).take m = l.take m := by
  unfold zeroR
  rw [List.append_assoc, List.take_append_of_le_length (by rw [List.length_take]; omega), List.take_take, Nat.min_eq_left h]
/-- noughts in the middle -/
theorem zeroR_mid (a b c : List UInt8) : zeroR (a ++ b ++ c) a.length (a.length + b.length) = a ++ List.replicate b.length 0 ++ c := by
  unfold zeroR
  have e1 : (a ++ b ++ c).take a.length = a := by rw [List.append_assoc, List.take_left]
  have e2 : (a ++ b ++ c).drop (a.length + b.length) = c := List.drop_left' (by rw [List.length_append])
  rw [e1, e2, Nat.add_sub_cancel_left]
/-- one piece's turn at a file: bytes, how many are sure -/
def stP (kept : Nat → Bool) (n : Nm) (i : Nat) (s : Nm × Nat × Nat) (x : List UInt8 × Nat) : List UInt8 × Nat :=
  if s.1 == n then (if kept i = true then (x.1, s.2.2) else (zeroR x.1 s.2.1 s.2.2, x.2)) else x
def stF (kept : Nat → Bool) (n : Nm) : List (Nm × Nat × Nat) → Nat → List UInt8 × Nat → List UInt8 × Nat
  | [], _, x => x
  | s :: ss, i, x => stF kept n ss (i + 1) (stP kept n i s x)
theorem stF_snoc (kept : Nat → Bool) (n : Nm) : ∀ (ss : List (Nm × Nat × Nat)) (s : Nm × Nat × Nat) (i : Nat) (x : List UInt8 × Nat), stF kept n (ss ++ [s]) i x = stP kept n (i + ss.length) s (stF kept n ss i x)
  | [], s, i, x => rfl
  | r :: ss, s, i, x => by
    rw [List.cons_append]
    show stF kept n (ss ++ [s]) (i + 1) _ = _
    rw [stF_snoc kept n ss s (i + 1), List.length_cons]
    have e : i + 1 + ss.length = i + (ss.length + 1) := by omega
    rw [e]
    rfl
theorem spans_cons_pcs {P : List (Nm × List UInt8)} {p : Nm × List UInt8} : pcs (p :: P) p.1 = p.2 ++ pcs P p.1 := pcs_cons_same p P
theorem bump_eq {pos : Nm → Nat} {m n : Nm} {k : Nat} (h : m = n) : bump pos m k n = pos n + k := by rw [h, bump_same]
theorem pcs_cons_eq {p : Nm × List UInt8} {P : List (Nm × List UInt8)} {n : Nm} (h : p.1 = n) : pcs (p :: P) n = p.2 ++ pcs P n := by rw [← h]; exact pcs_cons_same p P
section
variable {kept : Nat → Bool} {n : Nm}
theorem stF_front : ∀ (P : List (Nm × List UInt8)) (pos : Nm → Nat) (i : Nat) (b : List UInt8) (su m : Nat), m ≤ pos n → pos n + (pcs P n).length ≤ b.length → (stF kept n (spans pos P) i (b, su)).1.take m = b.take m
  | [], _, _, _, _, _, _, _ => rfl
  | p :: ps, pos, i, b, su, m, hm, hb => by
    rw [spans_cons]
    show (stF kept n _ (i + 1) (stP kept n i (p.1, pos p.1, pos p.1 + p.2.length) (b, su))).1.take m = _
    unfold stP
    by_cases h : p.1 = n
    · rw [pcs_cons_eq h, List.length_append] at hb
      have hpn : pos p.1 = pos n := by rw [h]
      have hbn : bump pos p.1 p.2.length n = pos n + p.2.length := bump_eq h
      rw [if_pos (by simpa using h), hpn]
      cases hk : kept i
      · rw [if_neg (by simp)]
        have hz : (zeroR b (pos n) (pos n + p.2.length)).length = b.length := zeroR_len (by omega) (by omega)
        show (stF kept n _ (i + 1) (zeroR b (pos n) (pos n + p.2.length), su)).1.take m = _
        rw [stF_front ps _ _ _ _ _ (by rw [hbn]; omega) (by rw [hbn, hz]; omega)]
        exact zeroR_front hm (by omega)
      · rw [if_pos rfl]
        exact stF_front ps _ _ _ _ _ (by rw [hbn]; omega) (by rw [hbn]; show _ ≤ b.length; omega)
    · rw [if_neg (by simpa using h)]
      rw [pcs_cons_ne h] at hb
      exact stF_front ps _ _ _ _ _ (by rw [bump_ne (fun e => h e.symm)]; exact hm) (by rw [bump_ne (fun e => h e.symm)]; exact hb)
/-- lengths stay -/
theorem stF_len : ∀ (P : List (Nm × List UInt8)) (pos : Nm → Nat) (i : Nat) (b : List UInt8) (su : Nat), su ≤ b.length → pos n + (pcs P n).length ≤ b.length → (stF kept n (spans pos P) i (b, su)).1.length = b.length ∧ (stF kept n (spans pos P) i (b, su)).2 ≤ b.length
  | [], _, _, _, _, h, _ => ⟨rfl, h⟩
  | p :: ps, pos, i, b, su, hs, hb => by
    rw [spans_cons]
    show (stF kept n _ (i + 1) (stP kept n i (p.1, pos p.1, pos p.1 + p.2.length) (b, su))).1.length = _ ∧ (stF kept n _ (i + 1) (stP kept n i (p.1, pos p.1, pos p.1 + p.2.length) (b, su))).2 ≤ _
    unfold stP
    by_cases h : p.1 = n
    · rw [pcs_cons_eq h, List.length_append] at hb
      have hpn : pos p.1 = pos n := by rw [h]
      have hbn : bump pos p.1 p.2.length n = pos n + p.2.length := bump_eq h
      rw [if_pos (by simpa using h), hpn]
      have hz : (zeroR b (pos n) (pos n + p.2.length)).length = b.length := zeroR_len (by omega) (by omega)
      cases hk : kept i
      · rw [if_neg (by simp)]
        have := stF_len ps (bump pos p.1 p.2.length) (i + 1) (zeroR b (pos n) (pos n + p.2.length)) su (by omega) (by rw [hbn]; omega)
        rw [hz] at this
        exact this
      · rw [if_pos rfl]
        exact stF_len ps (bump pos p.1 p.2.length) (i + 1) b _ (by show pos n + p.2.length ≤ _; omega) (by rw [hbn]; omega)
    · rw [if_neg (by simpa using h)]
      rw [pcs_cons_ne h] at hb
      exact stF_len ps _ _ _ _ hs (by rw [bump_ne (fun e => h e.symm)]; exact hb)
theorem crashF_none {last torn : Int} : ∀ (P : List (Nm × List UInt8)) (i : Nat) (b wt : List UInt8), (∀ j, i ≤ j → j < i + P.length → kept j = false) → crashF kept last torn n P i b wt = b
  | [], _, _, _, _ => rfl
  | p :: ps, i, b, wt, h => by
    have h0 := h i (Nat.le_refl _) (by rw [List.length_cons]; omega)
    have h1 : ∀ j, i + 1 ≤ j → j < i + 1 + ps.length → kept j = false := fun j a c => h j (by omega) (by rw [List.length_cons]; omega)
    unfold crashF
    split
    · rw [if_neg (by rw [h0]; simp)]
      exact crashF_none ps _ _ _ h1
    · exact crashF_none ps _ _ _ h1
theorem crash_sim {last torn : Int} : ∀ (P : List (Nm × List UInt8)) (pos : Nm → Nat) (i : Nat) (pre wt : List UInt8), pos n = (pre ++ wt).length → (∀ k p, P[k]? = some p → ((i + k : Nat) : Int) = last → p.1 = n → ¬ (0 ≤ torn ∧ torn < p.2.length)) →
    (stF kept n (spans pos P) i (pre ++ wt ++ pcs P n, pre.length)).1.take (stF kept n (spans pos P) i (pre ++ wt ++ pcs P n, pre.length)).2 = crashF kept last torn n P i pre wt
  | [], pos, i, pre, wt, _, _ => by
    show (pre ++ wt ++ pcs [] n).take pre.length = pre
    rw [pcs_nil, List.append_nil, List.take_left]
  | p :: ps, pos, i, pre, wt, hpos, ht => by
    have ht' : ∀ k q, ps[k]? = some q → ((i + 1 + k : Nat) : Int) = last → q.1 = n → ¬ (0 ≤ torn ∧ torn < q.2.length) := fun k q hk hl => ht (k + 1) q (by simpa using hk) (by rw [← hl]; congr 1; omega)
    rw [spans_cons]
    show (stF kept n _ (i + 1) (stP kept n i (p.1, pos p.1, pos p.1 + p.2.length) _)).1.take (stF kept n _ (i + 1) (stP kept n i (p.1, pos p.1, pos p.1 + p.2.length) _)).2 = _
    unfold stP crashF
    by_cases h : p.1 = n
    · have hpn : pos p.1 = (pre ++ wt).length := by rw [h]; exact hpos
      have hbn : bump pos p.1 p.2.length n = (pre ++ wt).length + p.2.length := by rw [bump_eq h, hpos]
      have hb1 : (p.1 == n) = true := by simpa using h
      rw [if_pos hb1, if_pos hb1, pcs_cons_eq h]
      cases hk : kept i
      · rw [if_neg (by simp), if_neg (by simp)]
        show (stF kept n _ (i + 1) (zeroR (pre ++ wt ++ (p.2 ++ pcs ps n)) (pos p.1) (pos p.1 + p.2.length), pre.length)).1.take (stF kept n _ (i + 1) (zeroR (pre ++ wt ++ (p.2 ++ pcs ps n)) (pos p.1) (pos p.1 + p.2.length), pre.length)).2 = _
        rw [hpn, ← List.append_assoc (pre ++ wt), zeroR_mid]
        have := crash_sim ps (bump pos p.1 p.2.length) (i + 1) pre (wt ++ List.replicate p.2.length 0) (by rw [hbn]; simp only [List.length_append, List.length_replicate]; omega) ht'
        rw [← this, ← List.append_assoc pre wt]
      · rw [if_pos rfl, if_pos rfl]
        have hn : ¬ ((i : Int) = last ∧ 0 ≤ torn ∧ torn < p.2.length) := fun e => ht 0 p rfl e.1 h e.2
        rw [if_neg hn]
        have := crash_sim ps (bump pos p.1 p.2.length) (i + 1) (pre ++ wt ++ p.2) [] (by rw [hbn]; simp only [List.length_append, List.length_nil]; omega) ht'
        rw [← this, List.append_nil, hpn]
        simp only [List.append_assoc, List.length_append]
        rw [Nat.add_assoc]
    · rw [if_neg (by simpa using h), if_neg (by simpa using h), pcs_cons_ne h]
      exact crash_sim ps (bump pos p.1 p.2.length) (i + 1) pre wt (by rw [bump_ne (fun e => h e.symm)]; exact hpos) ht'
theorem crash_torn {last torn : Int} (h0 : 0 ≤ torn) : ∀ (P : List (Nm × List UInt8)) (pos : Nm → Nat) (i : Nat) (pre wt : List UInt8) (k : Nat) (p : Nm × List UInt8) (s : Nm × Nat × Nat), pos n = (pre ++ wt).length → P[k]? = some p → (spans pos P)[k]? = some s → ((i + k : Nat) : Int) = last → kept (i + k) = true → p.1 = n → torn < p.2.length → (∀ j, i + k < j → j < i + P.length → kept j = false) →
    (stF kept n (spans pos P) i (pre ++ wt ++ pcs P n, pre.length)).1.take (s.2.1 + torn.toNat) = crashF kept last torn n P i pre wt
  | [], _, _, _, _, _, _, _, _, hk, _, _, _, _, _, _ => by simp at hk
  | r :: ps, pos, i, pre, wt, 0, p, s, hpos, hk, hs, hl, hkk, hpn, ht, hno => by
    have e1 : r = p := by simpa using hk
    subst e1
    rw [spans_cons] at hs ⊢
    have e2 : s = (r.1, pos r.1, pos r.1 + r.2.length) := by simpa using hs.symm
    subst e2
    subst hpn
    have hkk : kept i = true := hkk
    show (stF kept r.1 _ (i + 1) (stP kept r.1 i (r.1, pos r.1, pos r.1 + r.2.length) _)).1.take _ = _
    unfold stP crashF
    rw [if_pos (beq_self_eq_true _), if_pos (beq_self_eq_true _), pcs_cons_same, if_pos hkk, if_pos hkk, if_pos ⟨hl, h0, ht⟩, crashF_none ps _ _ _ (fun j a c => hno j (by omega) (by rw [List.length_cons]; omega))]
    show (stF kept r.1 (spans (bump pos r.1 r.2.length) ps) (i + 1) (pre ++ wt ++ (r.2 ++ pcs ps r.1), pos r.1 + r.2.length)).1.take (pos r.1 + torn.toNat) = _
    rw [stF_front ps _ _ _ _ _ (by rw [bump_same]; omega) (by rw [bump_same, hpos]; simp only [List.length_append]; omega)]
    rw [hpos, List.take_append, List.take_of_length_le (by omega), Nat.add_sub_cancel_left, List.take_append_of_le_length (by omega)]
  | r :: ps, pos, i, pre, wt, k + 1, p, s, hpos, hk, hs, hl, hkk, hpn, ht, hno => by
    have hk : ps[k]? = some p := by simpa using hk
    rw [spans_cons] at hs ⊢
    have hs : (spans (bump pos r.1 r.2.length) ps)[k]? = some s := by simpa using hs
    have e9 : i + (k + 1) = i + 1 + k := by omega
    rw [e9] at hl hkk hno
    have hno' : ∀ j, i + 1 + k < j → j < i + 1 + ps.length → kept j = false := fun j a c => hno j a (by rw [List.length_cons]; omega)
    show (stF kept n _ (i + 1) (stP kept n i (r.1, pos r.1, pos r.1 + r.2.length) _)).1.take _ = _
    unfold stP crashF
    by_cases h : r.1 = n
    · have hb1 : (r.1 == n) = true := by simpa using h
      rw [if_pos hb1, if_pos hb1, show pcs (r :: ps) n = r.2 ++ pcs ps n by rw [← h]; exact pcs_cons_same r ps]
      have hpr : pos r.1 = (pre ++ wt).length := by rw [h]; exact hpos
      have hb : bump pos r.1 r.2.length n = (pre ++ wt).length + r.2.length := by rw [← h, bump_same, hpr]
      cases hki : kept i
      · rw [if_neg (by simp), if_neg (by simp)]
        show (stF kept n _ (i + 1) (zeroR (pre ++ wt ++ (r.2 ++ pcs ps n)) (pos r.1) (pos r.1 + r.2.length), pre.length)).1.take _ = _
        rw [hpr, ← List.append_assoc (pre ++ wt), zeroR_mid]
        have := crash_torn h0 ps (bump pos r.1 r.2.length) (i + 1) pre (wt ++ List.replicate r.2.length 0) k p s (by rw [hb]; simp only [List.length_append, List.length_replicate]; omega) hk hs hl hkk hpn ht hno'
        rw [← this, ← List.append_assoc pre wt]
      · rw [if_pos rfl, if_pos rfl]
        have hn : ¬ ((i : Int) = last ∧ 0 ≤ torn ∧ torn < r.2.length) := fun e => by have := e.1; omega
        rw [if_neg hn]
        have := crash_torn h0 ps (bump pos r.1 r.2.length) (i + 1) (pre ++ wt ++ r.2) [] k p s (by rw [hb]; simp only [List.length_append, List.length_nil]; omega) hk hs hl hkk hpn ht hno'
        rw [← this, List.append_nil, hpr]
        simp only [List.append_assoc, List.length_append]
        rw [Nat.add_assoc]
    · rw [if_neg (by simpa using h), if_neg (by simpa using h), pcs_cons_ne h]
      exact crash_torn h0 ps (bump pos r.1 r.2.length) (i + 1) pre wt k p s (by rw [bump_ne (fun e => h e.symm)]; exact hpos) hk hs hl hkk hpn ht hno'
end
theorem lastK_ge (kept : Nat → Bool) : ∀ (N j : Nat), kept j = true → j < N → (j : Int) ≤ lastK kept N
  | 0, _, _, h => absurd h (by omega)
  | N + 1, j, hk, h => by
    unfold lastK
    split
    · omega
    · rename_i hN
      have : j ≠ N := fun e => by subst e; exact hN hk
      exact lastK_ge kept N j hk (by omega)
theorem lastK_is (kept : Nat → Bool) : ∀ (N k : Nat), lastK kept N = (k : Int) → kept k = true ∧ k < N
  | 0, k, h => by have : (-1 : Int) = (k : Int) := h; omega
  | N + 1, k, h => by
    unfold lastK at h
    split at h
    · rename_i hN
      have : N = k := by omega
      subst this
      exact ⟨hN, by omega⟩
    · have := lastK_is kept N k h
      exact ⟨this.1, by omega⟩
theorem lastK_lo (kept : Nat → Bool) : ∀ N : Nat, -1 ≤ lastK kept N
  | 0 => by show (-1 : Int) ≤ -1; omega
  | N + 1 => by
    unfold lastK
    split
    · omega
    · exact lastK_lo kept N

end Go.Proofs.YtiogckgchlnldaaGreat

/- Plain mathematics of wrapped bytes: part by part; what is opened is wrapped just so. -/
namespace Go.Proofs.YtiogckgchlnldaaGreat

/-- a part, written -/
def partE (p : List UInt8) : List UInt8 := if p.length ≤ 253 then UInt8.ofNat (p.length + 1) :: p else 255 :: (p.take 254 ++ partE (p.drop 254))
termination_by p.length
decreasing_by simp; omega
/-- what stands between the noughts -/
def parts0 : List UInt8 → List (List UInt8)
  | [] => [[]]
  | b :: l => if b = 0 then [] :: parts0 l else match parts0 l with
    | [] => [[b]]
    | p :: ps => (b :: p) :: ps
def encL (l : List UInt8) : List UInt8 := (parts0 l).flatMap partE
def wrapL (l : List UInt8) : List UInt8 := encL l ++ [0]
def NoZ (l : List UInt8) : Prop := ∀ x ∈ l, x ≠ 0

theorem partE_short {p : List UInt8} (h : p.length ≤ 253) : partE p = UInt8.ofNat (p.length + 1) :: p := by rw [partE, if_pos h]
theorem partE_long {p : List UInt8} (h : 254 ≤ p.length) : partE p = 255 :: (p.take 254 ++ partE (p.drop 254)) := by rw [partE, if_neg (by omega)]
theorem partE_front (a p : List UInt8) (h : a.length = 254) : partE (a ++ p) = 255 :: (a ++ partE p) := by
  rw [partE_long (by rw [List.length_append]; omega), List.take_append_of_le_length (by omega), List.take_of_length_le (by omega), List.drop_append_of_le_length (by omega), List.drop_of_length_le (by omega), List.nil_append]
theorem parts0_ne (l : List UInt8) : parts0 l ≠ [] := by
  cases l with
  | nil => simp [parts0]
  | cons b l =>
    unfold parts0
    split
    · simp
    · split <;> simp
theorem parts0_noz {a : List UInt8} (h : NoZ a) : parts0 a = [a] := by
  induction a with
  | nil => rfl
  | cons b a ih =>
    unfold parts0
    rw [if_neg (h b List.mem_cons_self), ih fun x hx => h x (List.mem_cons_of_mem _ hx)]
theorem parts0_app {a : List UInt8} (h : NoZ a) (r : List UInt8) : parts0 (a ++ 0 :: r) = a :: parts0 r := by
  induction a with
  | nil => show parts0 (0 :: r) = _; rw [parts0, if_pos rfl]
  | cons b a ih =>
    show parts0 (b :: (a ++ 0 :: r)) = _
    rw [parts0, if_neg (h b List.mem_cons_self), ih fun x hx => h x (List.mem_cons_of_mem _ hx)]
theorem parts0_front {a : List UInt8} (h : NoZ a) (r : List UInt8) : ∃ p ps, parts0 r = p :: ps ∧ parts0 (a ++ r) = (a ++ p) :: ps := by
  induction a with
  | nil =>
    cases hr : parts0 r with
    | nil => exact absurd hr (parts0_ne r)
    | cons p ps => exact ⟨p, ps, rfl, hr⟩
  | cons b a ih =>
    obtain ⟨p, ps, h1, h2⟩ := ih fun x hx => h x (List.mem_cons_of_mem _ hx)
    refine ⟨p, ps, h1, ?_⟩
    show parts0 (b :: (a ++ r)) = _
    rw [parts0, if_neg (h b List.mem_cons_self), h2]
    rfl
/-- any bytes: no nought, or up to the first one -/
theorem zero_cases (l : List UInt8) : NoZ l ∨ ∃ a r, NoZ a ∧ l = a ++ 0 :: r := by
  induction l with
  | nil => exact .inl fun x h => by cases h
  | cons b l ih =>
    by_cases hb : b = 0
    · subst hb; exact .inr ⟨[], l, (fun x h => by cases h), rfl⟩
    · rcases ih with h | ⟨a, r, h, rfl⟩
      · exact .inl fun x hx => by
          rcases List.mem_cons.1 hx with rfl | hx
          · exact hb
          · exact h x hx
      · refine .inr ⟨b :: a, r, fun x hx => ?_, rfl⟩
        rcases List.mem_cons.1 hx with rfl | hx
        · exact hb
        · exact h x hx
theorem first_zero {a b r s : List UInt8} (ha : NoZ a) (hb : NoZ b) (h : a ++ 0 :: r = b ++ 0 :: s) : a = b ∧ r = s := by
  induction a generalizing b with
  | nil =>
    cases b with
    | nil => simpa using h
    | cons y b => simp at h; exact absurd h.1.symm (hb y List.mem_cons_self)
  | cons x a ih =>
    cases b with
    | nil => simp at h; exact absurd h.1 (ha x List.mem_cons_self)
    | cons y b =>
      simp at h
      obtain ⟨rfl, h⟩ := h
      obtain ⟨h1, h2⟩ := ih (fun z hz => ha z (List.mem_cons_of_mem _ hz)) (fun z hz => hb z (List.mem_cons_of_mem _ hz)) h
      exact ⟨by rw [h1], h2⟩
theorem encL_noz {a : List UInt8} (h : NoZ a) : encL a = partE a := by unfold encL; rw [parts0_noz h]; simp
theorem encL_app {a : List UInt8} (h : NoZ a) (r : List UInt8) : encL (a ++ 0 :: r) = partE a ++ encL r := by unfold encL; rw [parts0_app h]; simp
theorem encL_front {a : List UInt8} (h : NoZ a) (hl : a.length = 254) (r : List UInt8) : encL (a ++ r) = 255 :: (a ++ encL r) := by
  obtain ⟨p, ps, h1, h2⟩ := parts0_front h r
  unfold encL
  rw [h1, h2, List.flatMap_cons, List.flatMap_cons, partE_front a p hl]
  simp
theorem ofNat_ne {n : Nat} (h0 : 0 < n) (h : n < 256) : UInt8.ofNat n ≠ 0 := by
  intro e
  have := congrArg UInt8.toNat e
  rw [UInt8.toNat_ofNat_of_lt' h] at this
  simp at this
  omega
theorem partE_noz : ∀ (n : Nat) (p : List UInt8), p.length ≤ n → NoZ p → NoZ (partE p) := by
  intro n
  induction n with
  | zero =>
    intro p hn hz
    rw [partE_short (by omega)]
    intro x hx
    rcases List.mem_cons.1 hx with rfl | hx
    · exact ofNat_ne (by omega) (by omega)
    · exact hz x hx
  | succ n ih =>
    intro p hn hz
    by_cases h : p.length ≤ 253
    · rw [partE_short h]
      intro x hx
      rcases List.mem_cons.1 hx with rfl | hx
      · exact ofNat_ne (by omega) (by omega)
      · exact hz x hx
    · rw [partE_long (by omega)]
      intro x hx
      rcases List.mem_cons.1 hx with rfl | hx
      · decide
      · rcases List.mem_append.1 hx with hx | hx
        · exact hz x (List.mem_of_mem_take hx)
        · exact ih _ (by simp; omega) (fun y hy => hz y (List.mem_of_mem_drop hy)) x hx
theorem encL_z : ∀ (n : Nat) (l : List UInt8), l.length ≤ n → NoZ (encL l) := by
  intro n
  induction n with
  | zero =>
    intro l hn
    have : l = [] := List.eq_nil_of_length_eq_zero (by omega)
    subst this
    rw [encL_noz (fun x h => by cases h)]
    exact partE_noz 0 _ (by simp) fun x h => by cases h
  | succ n ih =>
    intro l hn
    rcases zero_cases l with h | ⟨a, r, h, rfl⟩
    · rw [encL_noz h]; exact partE_noz _ _ (Nat.le_refl _) h
    · rw [encL_app h]
      intro x hx
      rcases List.mem_append.1 hx with hx | hx
      · exact partE_noz _ _ (Nat.le_refl _) h x hx
      · exact ih r (by simp at hn; omega) x hx
theorem encL_noZ (l : List UInt8) : NoZ (encL l) := encL_z _ l (Nat.le_refl _)
theorem partE_ne (p : List UInt8) : partE p ≠ [] := by
  rw [partE]
  split <;> simp
theorem encL_ne (l : List UInt8) : encL l ≠ [] := by
  unfold encL
  cases h : parts0 l with
  | nil => exact absurd h (parts0_ne l)
  | cons p ps =>
    rw [List.flatMap_cons]
    intro e
    exact partE_ne p (List.append_eq_nil_iff.1 e).1

/-- code without noughts, read -/
def decP : Nat → List UInt8 → Option (List UInt8)
  | 0, _ => none
  | _ + 1, [] => none
  | f + 1, n :: t =>
    if t.length + 1 < n.toNat then none
    else if n.toNat ≤ 254 then (if t.length + 1 = n.toNat then some (t.take (n.toNat - 1)) else (decP f (t.drop (n.toNat - 1))).map (t.take (n.toNat - 1) ++ 0 :: ·))
    else (if t.length + 1 = n.toNat then none else (decP f (t.drop (n.toNat - 1))).map (t.take (n.toNat - 1) ++ ·))

/-- what is read is written just so -/
theorem dec_only : ∀ (f : Nat) (c o : List UInt8), NoZ c → decP f c = some o → encL o = c := by
  intro f
  induction f with
  | zero => intro c o _ h; simp [decP] at h
  | succ f ih =>
    intro c o hz h
    cases c with
    | nil => simp [decP] at h
    | cons n t =>
      unfold decP at h
      have hn0 : n.toNat ≠ 0 := fun e => hz n List.mem_cons_self (UInt8.toNat_inj.1 e)
      have hn := n.toNat_lt
      have hzt : NoZ t := fun x hx => hz x (List.mem_cons_of_mem _ hx)
      have hza : NoZ (t.take (n.toNat - 1)) := fun x hx => hzt x (List.mem_of_mem_take hx)
      have hzd : NoZ (t.drop (n.toNat - 1)) := fun x hx => hzt x (List.mem_of_mem_drop hx)
      have hcat := List.take_append_drop (n.toNat - 1) t
      split at h
      · cases h
      · rename_i h1
        have hla : (t.take (n.toNat - 1)).length = n.toNat - 1 := by rw [List.length_take]; omega
        have hofn : UInt8.ofNat (n.toNat - 1 + 1) = n := by rw [show n.toNat - 1 + 1 = n.toNat by omega]; exact UInt8.ofNat_toNat
        split at h
        · rename_i h2
          split at h
          · rename_i h3
            injection h with h
            subst h
            rw [encL_noz hza, partE_short (by omega), hla, hofn, List.take_of_length_le (by omega)]
          · rename_i h3
            obtain ⟨o', ho, rfl⟩ := Option.map_eq_some_iff.1 h
            rw [encL_app hza, partE_short (by omega), hla, hofn, ih _ _ hzd ho]
            show n :: (_ ++ _) = _
            rw [hcat]
        · rename_i h2
          split at h
          · cases h
          · obtain ⟨o', ho, rfl⟩ := Option.map_eq_some_iff.1 h
            have hn255 : n.toNat = 255 := by omega
            rw [encL_front hza (by omega), ih _ _ hzd ho, hcat]
            rw [show (255 : UInt8) = n from UInt8.toNat_inj.1 (by rw [hn255]; rfl)]
/-- what is written is read -/
theorem dec_part : ∀ (k : Nat) (p : List UInt8), p.length ≤ k → NoZ p → ∀ (t o : List UInt8) (f : Nat), ((t = [] ∧ o = []) ∨ (t ≠ [] ∧ ∃ f', f' + p.length + 1 ≤ f ∧ ∀ g, f' ≤ g → (decP g t).map (0 :: ·) = some o)) → p.length + 1 ≤ f → decP f (partE p ++ t) = some (p ++ o) := by
  intro k
  induction k with
  | zero =>
    intro p hk hz t o f ht hf
    have : p = [] := List.eq_nil_of_length_eq_zero (by omega)
    subst this
    obtain ⟨f, rfl⟩ : ∃ g, f = g + 1 := ⟨f - 1, by simp at hf; omega⟩
    rw [partE_short (by simp)]
    show decP (f + 1) (UInt8.ofNat 1 :: ([] ++ t)) = _
    unfold decP
    rw [show (UInt8.ofNat 1).toNat = 1 from rfl]
    rcases ht with ⟨rfl, rfl⟩ | ⟨hne, f', hf', hg⟩
    · simp
    · have hl : 0 < t.length := List.length_pos_iff.2 hne
      rw [if_neg (by simp), if_pos (by decide), if_neg (by simp; omega)]
      have := hg f (by simp at hf'; omega)
      simpa using this
  | succ k ih =>
    intro p hk hz t o f ht hf
    by_cases hs : p.length ≤ 253
    · obtain ⟨f, rfl⟩ : ∃ g, f = g + 1 := ⟨f - 1, by omega⟩
      rw [partE_short hs]
      show decP (f + 1) (UInt8.ofNat (p.length + 1) :: (p ++ t)) = _
      unfold decP
      rw [UInt8.toNat_ofNat_of_lt' (by show p.length + 1 < 256; omega), Nat.add_sub_cancel]
      rcases ht with ⟨rfl, rfl⟩ | ⟨hne, f', hf', hg⟩
      · rw [if_neg (by simp), if_pos (by omega), if_pos (by simp)]
        simp
      · have hl : 0 < t.length := List.length_pos_iff.2 hne
        rw [if_neg (by simp), if_pos (by omega), if_neg (by simp; omega)]
        have := hg f (by omega)
        rw [List.take_left, List.drop_left]
        obtain ⟨q, hq, rfl⟩ := Option.map_eq_some_iff.1 this
        rw [hq]; rfl
    · obtain ⟨f, rfl⟩ : ∃ g, f = g + 1 := ⟨f - 1, by omega⟩
      rw [partE_long (by omega)]
      have ha : (p.take 254).length = 254 := by rw [List.length_take]; omega
      have hcat := List.take_append_drop 254 p
      have hb := ih (p.drop 254) (by rw [List.length_drop]; omega) (fun x hx => hz x (List.mem_of_mem_drop hx)) t o f (by
        rcases ht with h | ⟨hne, f', hf', hg⟩
        · exact .inl h
        · exact .inr ⟨hne, f', by rw [List.length_drop]; omega, hg⟩) (by rw [List.length_drop]; omega)
      have hpos : 0 < (partE (p.drop 254)).length := List.length_pos_iff.2 (partE_ne _)
      show decP (f + 1) (255 :: ((p.take 254 ++ partE (p.drop 254)) ++ t)) = _
      unfold decP
      rw [show (255 : UInt8).toNat = 255 from rfl, List.append_assoc]
      rw [if_neg (by rw [List.length_append, ha]; omega), if_neg (by decide), if_neg (by rw [List.length_append, List.length_append, ha]; omega)]
      rw [List.take_append_of_le_length (by omega), List.take_of_length_le (by omega), List.drop_append_of_le_length (by omega), List.drop_of_length_le (by omega), List.nil_append, hb]
      show some (p.take 254 ++ (p.drop 254 ++ o)) = _
      rw [← List.append_assoc, hcat]
theorem dec_back : ∀ (n : Nat) (l : List UInt8), l.length ≤ n → ∀ f, l.length + 1 ≤ f → decP f (encL l) = some l := by
  intro n
  induction n with
  | zero =>
    intro l hn f hf
    have : l = [] := List.eq_nil_of_length_eq_zero (by omega)
    subst this
    rw [encL_noz (fun x h => by cases h)]
    have := dec_part 0 [] (by simp) (fun x h => by cases h) [] [] f (.inl ⟨rfl, rfl⟩) hf
    simpa using this
  | succ n ih =>
    intro l hn f hf
    rcases zero_cases l with h | ⟨a, r, h, rfl⟩
    · rw [encL_noz h]
      have := dec_part _ l (Nat.le_refl _) h [] [] f (.inl ⟨rfl, rfl⟩) hf
      simpa using this
    · rw [encL_app h]
      simp only [List.length_append, List.length_cons] at hn hf
      refine dec_part _ a (Nat.le_refl _) h (encL r) (0 :: r) f (.inr ⟨encL_ne r, r.length + 1, by omega, fun g hg => ?_⟩) (by omega)
      rw [ih r (by omega) g hg]; rfl
theorem encL_inj {a b : List UInt8} (h : encL a = encL b) : a = b := by
  have h1 := dec_back _ a (Nat.le_refl _) (a.length + b.length + 1) (by omega)
  have h2 := dec_back _ b (Nat.le_refl _) (a.length + b.length + 1) (by omega)
  rw [h, h2] at h1
  injection h1 with h1
  exact h1.symm
theorem partE_length : ∀ (n : Nat) (p : List UInt8), p.length ≤ n → (partE p).length ≤ p.length + 1 + p.length / 254 := by
  intro n
  induction n with
  | zero => intro p hn; rw [partE_short (by omega)]; simp
  | succ n ih =>
    intro p hn
    by_cases h : p.length ≤ 253
    · rw [partE_short h]; simp
    · rw [partE_long (by omega)]
      have h1 := ih (p.drop 254) (by rw [List.length_drop]; omega)
      rw [List.length_drop] at h1
      simp only [List.length_cons, List.length_append, List.length_take]
      omega
theorem encL_length : ∀ (n : Nat) (l : List UInt8), l.length ≤ n → (encL l).length ≤ l.length + 1 + l.length / 254 := by
  intro n
  induction n with
  | zero =>
    intro l hn
    have : l = [] := List.eq_nil_of_length_eq_zero (by omega)
    subst this
    rw [encL_noz (fun x h => by cases h)]
    exact partE_length 0 [] (by simp)
  | succ n ih =>
    intro l hn
    rcases zero_cases l with h | ⟨a, r, h, rfl⟩
    · rw [encL_noz h]; exact partE_length _ _ (Nat.le_refl _)
    · rw [encL_app h]
      have h1 := partE_length _ a (Nat.le_refl _)
      have h2 := ih r (by simp at hn; omega)
      simp only [List.length_append, List.length_cons]
      omega

end Go.Proofs.YtiogckgchlnldaaGreat

/- Layer 8: what a crash leaves of a file lies within what was appended. -/
set_option linter.unusedSimpArgs false
set_option linter.unusedVariables false
namespace Go.Proofs.YtiogckgchlnldaaGreat

/-- the first n as they were; behind them noughts, or what was appended, or less -/
def liesIn (n : Nat) (all r : List UInt8) : Prop := n ≤ r.length ∧ r.length ≤ all.length ∧ r.take n = all.take n ∧ ∀ (j : Nat) x, r[j]? = some x → x = 0 ∨ all[j]? = some x
theorem lies_more {n : Nat} {all b wt pc rest : List UInt8} (h : liesIn n all b) (hw : ∀ x ∈ wt, x = 0) (hd : all.drop (b.length + wt.length) = pc ++ rest) (hl : b.length + wt.length ≤ all.length) : liesIn n all (b ++ wt ++ pc) := by
  obtain ⟨h1, h2, h3, h4⟩ := h
  have hlen := congrArg List.length hd
  rw [List.length_drop, List.length_append] at hlen
  refine ⟨by simp only [List.length_append]; omega, by simp only [List.length_append]; omega, ?_, fun j x hj => ?_⟩
  · rw [List.append_assoc, List.take_append_of_le_length h1]
    exact h3
  · rw [List.append_assoc] at hj
    by_cases hjb : j < b.length
    · rw [List.getElem?_append_left hjb] at hj
      exact h4 j x hj
    · rw [List.getElem?_append_right (by omega)] at hj
      by_cases hjw : j - b.length < wt.length
      · rw [List.getElem?_append_left hjw] at hj
        exact .inl (hw x (List.mem_of_getElem? hj))
      · rw [List.getElem?_append_right (by omega)] at hj
        right
        have e : (all.drop (b.length + wt.length))[j - b.length - wt.length]? = some x := by
          rw [hd, List.getElem?_append_left (List.getElem?_eq_some_iff.1 hj).1]
          exact hj
        rw [List.getElem?_drop] at e
        rw [← e]
        congr 1
        omega
theorem crashF_lies {kept : Nat → Bool} {last torn : Int} {nm : Nm} {n : Nat} {all : List UInt8} : ∀ {ps : List (Nm × List UInt8)} {i : Nat} {b wt : List UInt8}, liesIn n all b → b.length + wt.length ≤ all.length → (∀ x ∈ wt, x = 0) → all.drop (b.length + wt.length) = pcs ps nm → (∀ j : Nat, last < (j : Int) → j < i + ps.length → kept j = false) → liesIn n all (crashF kept last torn nm ps i b wt)
  | [], _, _, _, h, _, _, _, _ => h
  | p :: ps, i, b, wt, h, hl, hw, hd, hk => by
    have hk1 : ∀ j : Nat, last < (j : Int) → j < i + 1 + ps.length → kept j = false := fun j a c => hk j a (by rw [List.length_cons]; omega)
    unfold crashF
    by_cases hp : p.1 = nm
    · rw [if_pos (by simpa using hp)]
      rw [← hp, pcs_cons_same, hp] at hd
      have hlen := congrArg List.length hd
      rw [List.length_drop, List.length_append] at hlen
      by_cases hki : kept i = true
      · rw [if_pos hki]
        by_cases ht : (i : Int) = last ∧ 0 ≤ torn ∧ torn < p.2.length
        · rw [if_pos ht, crashF_none ps _ _ _ (fun j a c => hk j (by omega) (by rw [List.length_cons]; omega))]
          refine lies_more (rest := p.2.drop torn.toNat ++ pcs ps nm) h hw ?_ hl
          rw [hd, ← List.append_assoc, List.take_append_drop]
        · rw [if_neg ht]
          refine crashF_lies (lies_more h hw hd hl) ?_ (by simp) ?_ hk1
          · simp only [List.length_append, List.length_nil]; omega
          · simp only [List.length_append, List.length_nil, Nat.add_zero]
            rw [← List.drop_drop, hd, List.drop_left]
      · rw [if_neg hki]
        refine crashF_lies h ?_ ?_ ?_ hk1
        · rw [List.length_append, List.length_replicate]; omega
        · intro x hx
          rcases List.mem_append.1 hx with hx | hx
          · exact hw x hx
          · exact (List.mem_replicate.1 hx).2
        · rw [List.length_append, List.length_replicate, ← Nat.add_assoc, ← List.drop_drop, hd, List.drop_left]
    · rw [if_neg (by simpa using hp)]
      rw [pcs_cons_ne hp] at hd
      exact crashF_lies h hl hw hd hk1
theorem liesIn.take {n : Nat} {all : List UInt8} (h : n ≤ all.length) : liesIn n all (all.take n) := by
  refine ⟨by rw [List.length_take]; omega, by rw [List.length_take]; omega, by rw [List.take_take, Nat.min_self], fun j x hj => .inr ?_⟩
  rw [List.getElem?_take] at hj
  split at hj
  · exact hj
  · cases hj

/-- one file alone, of which the first n bytes last; all that was appended; no halt -/
structure One (x : Nm) (all : List UInt8) (n : Nat) (d : Fd) : Prop where
  F : d.F = [(x, all.take n)]
  P : pcs d.P x = all.drop n
  nm : ∀ p ∈ d.P, p.1 = x
  st : d.st = false
  lf : d.lf = 0
  dd : d.dd = false
  n : n ≤ all.length
section
variable {x : Nm} {all : List UInt8} {n : Nat} {d : Fd}
theorem One.at_ (h : One x all n d) : atF d.F x = some (all.take n) := by
  rw [h.F]
  unfold atF
  rw [List.find?_cons, beq_self_eq_true]
  rfl
theorem One.rd (h : One x all n d) : rdD d x = some all := by
  unfold rdD
  rw [h.at_, Option.map_some, h.P, List.take_append_drop]
theorem One.used (h : One x all n d) : usedD d = all.length := by
  unfold usedD
  rw [h.F]
  simp only [List.map_cons, List.map_nil, List.sum_cons, List.sum_nil]
  rw [h.P, List.take_append_drop, Nat.add_zero]
theorem One.runs (h : One x all n d) : runsD d = (true, d) := by
  unfold runsD
  rw [if_pos h.st]
theorem One.append (h : One x all n d) (room : Int) (b : List UInt8) (hr : (all.length : Int) + b.length ≤ room) : (appendD room d x b).1 = 0 ∧ One x (all ++ b) n (appendD room d x b).2 ∧ (appendD room d x b).2.P.length ≤ d.P.length + 1 := by
  unfold appendD
  rw [h.at_, if_neg (by simp), if_neg (by rw [h.used]; omega)]
  by_cases hb : b = []
  · rw [if_pos hb, hb, List.append_nil]
    exact ⟨rfl, h, Nat.le_add_right _ _⟩
  · rw [if_neg hb, h.runs]
    refine ⟨rfl, ⟨?_, ?_, ?_, h.st, h.lf, h.dd, by rw [List.length_append]; have := h.n; omega⟩, ?_⟩
    · show d.F = _
      rw [h.F, List.take_append_of_le_length h.n]
    · show pcs (d.P ++ [(x, b)]) x = _
      rw [pcs_append, h.P, List.drop_append_of_le_length h.n]
      congr 1
      rw [pcs_cons_same (x, b) [], pcs_nil, List.append_nil]
    · intro p hp
      rcases List.mem_append.1 hp with hp | hp
      · exact h.nm p hp
      · rw [List.mem_singleton.1 hp]
    · show (d.P ++ [(x, b)]).length ≤ _
      rw [List.length_append]
      exact Nat.le_refl _
theorem One.sync (h : One x all n d) : (syncD d x).1 = 0 ∧ One x all all.length (syncD d x).2 ∧ (syncD d x).2.P = [] := by
  rw [show syncD d x = (0, { d with F := setF x all d.F, P := dropN x d.P }) by unfold syncD; rw [h.rd]; simp [h.runs]]
  have e : dropN x d.P = [] := by
    unfold dropN
    rw [List.filter_eq_nil_iff]
    intro p hp
    simp [h.nm p hp]
  refine ⟨rfl, ⟨?_, ?_, ?_, h.st, h.lf, h.dd, Nat.le_refl _⟩, e⟩
  · show setF x all d.F = _
    rw [h.F]
    unfold setF
    simp
  · show pcs (dropN x d.P) x = _
    rw [e, List.drop_length]
    rfl
  · intro p hp
    have hp : p ∈ dropN x d.P := hp
    rw [e] at hp
    simp at hp
theorem One.crash (h : One x all n d) (kept : Nat → Bool) (torn : Int) : ∃ r, liesIn n all r ∧ One x r r.length (crashD d kept torn) ∧ (crashD d kept torn).P = [] := by
  refine ⟨crashF kept (lastK kept d.P.length) torn x d.P 0 (all.take n) [], ?_, ⟨?_, ?_, ?_, rfl, rfl, rfl, Nat.le_refl _⟩, rfl⟩
  · have hn := h.n
    refine crashF_lies (liesIn.take h.n) ?_ (by simp) ?_ (fun j hj hl => ?_)
    · rw [List.length_take, List.length_nil]; omega
    · rw [h.P, List.length_take, List.length_nil, Nat.add_zero, Nat.min_eq_left h.n]
    · cases hk : kept j
      · rfl
      · have := lastK_ge kept d.P.length j hk (by omega)
        omega
  · unfold crashD
    rw [h.F, List.take_length]
    rfl
  · rw [List.drop_length]
    rfl
  · intro p hp
    simp [crashD] at hp
end

end Go.Proofs.YtiogckgchlnldaaGreat
