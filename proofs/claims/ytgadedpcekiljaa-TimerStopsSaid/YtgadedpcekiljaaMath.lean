/-
  Plain mathematics of bit strings: bits of a list of bytes, bytes of a list of bits, numbers of a list of bits. Imports nothing of the program.
-/
set_option linter.unusedSimpArgs false
set_option linter.unusedVariables false
namespace Go.Proofs.Ytgadedpcekiljaa

theorem snoc_ind {α : Type} {P : List α → Prop} (h0 : P []) (h1 : ∀ l a, P l → P (l ++ [a])) (l : List α) : P l := by
  rw [← List.reverse_reverse l]
  induction l.reverse with
  | nil => exact h0
  | cons a r ih => rw [List.reverse_cons]; exact h1 _ _ ih

/-- how many bytes so many bits take -/
def nb (n : Nat) : Nat := (n + 7) / 8

/-- bit number i, the highest of each byte first -/
def bt (l : List UInt8) (i : Nat) : Bool := (l.getD (i / 8) 0).toNat.testBit (7 - i % 8)

/-- the first n bits -/
def bitl (l : List UInt8) (n : Nat) : List Bool := (List.range n).map (bt l)

def b2n (b : Bool) : Nat := if b then 1 else 0
def b2u (b : Bool) : UInt8 := if b then 1 else 0

/-- a byte of eight bits, the highest first -/
def byteOf (f : Nat → Bool) : Nat :=
  b2n (f 0) * 128 + b2n (f 1) * 64 + b2n (f 2) * 32 + b2n (f 3) * 16 + b2n (f 4) * 8 + b2n (f 5) * 4 + b2n (f 6) * 2 + b2n (f 7)

/-- the bytes of a list of bits -/
def pack (bs : List Bool) : List UInt8 := (List.range (nb bs.length)).map fun k => UInt8.ofNat (byteOf fun j => bs.getD (8 * k + j) false)

theorem b2u_toNat (b : Bool) : (b2u b).toNat = b2n b := by cases b <;> rfl
theorem b2n_le (b : Bool) : b2n b ≤ 1 := by cases b <;> decide

theorem byteOf_lt (f : Nat → Bool) : byteOf f < 256 := by
  have := b2n_le (f 0); have := b2n_le (f 1); have := b2n_le (f 2); have := b2n_le (f 3)
  have := b2n_le (f 4); have := b2n_le (f 5); have := b2n_le (f 6); have := b2n_le (f 7)
  unfold byteOf; omega

def eight (a0 a1 a2 a3 a4 a5 a6 a7 : Bool) : Nat := b2n a0 * 128 + b2n a1 * 64 + b2n a2 * 32 + b2n a3 * 16 + b2n a4 * 8 + b2n a5 * 4 + b2n a6 * 2 + b2n a7
theorem eight_bits : ∀ a0 a1 a2 a3 a4 a5 a6 a7 : Bool, (eight a0 a1 a2 a3 a4 a5 a6 a7).testBit 7 = a0 ∧ (eight a0 a1 a2 a3 a4 a5 a6 a7).testBit 6 = a1 ∧ (eight a0 a1 a2 a3 a4 a5 a6 a7).testBit 5 = a2 ∧ (eight a0 a1 a2 a3 a4 a5 a6 a7).testBit 4 = a3 ∧
    (eight a0 a1 a2 a3 a4 a5 a6 a7).testBit 3 = a4 ∧ (eight a0 a1 a2 a3 a4 a5 a6 a7).testBit 2 = a5 ∧ (eight a0 a1 a2 a3 a4 a5 a6 a7).testBit 1 = a6 ∧ (eight a0 a1 a2 a3 a4 a5 a6 a7).testBit 0 = a7 := by decide
theorem byteOf_bit (f : Nat → Bool) (j : Nat) (hj : j < 8) : (byteOf f).testBit (7 - j) = f j := by
  have e : byteOf f = eight (f 0) (f 1) (f 2) (f 3) (f 4) (f 5) (f 6) (f 7) := rfl
  rw [e]
  obtain ⟨h0, h1, h2, h3, h4, h5, h6, h7⟩ := eight_bits (f 0) (f 1) (f 2) (f 3) (f 4) (f 5) (f 6) (f 7)
  match j, hj with
  | 0, _ => exact h0
  | 1, _ => exact h1
  | 2, _ => exact h2
  | 3, _ => exact h3
  | 4, _ => exact h4
  | 5, _ => exact h5
  | 6, _ => exact h6
  | 7, _ => exact h7

theorem pack_length (bs : List Bool) : (pack bs).length = nb bs.length := by simp [pack]

theorem bitl_length (l : List UInt8) (n : Nat) : (bitl l n).length = n := by simp [bitl]

theorem bt_pack (bs : List Bool) (i : Nat) : bt (pack bs) i = bs.getD i false := by
  unfold bt
  by_cases h : i / 8 < nb bs.length
  · have e : (pack bs).getD (i / 8) 0 = UInt8.ofNat (byteOf fun j => bs.getD (8 * (i / 8) + j) false) := by
      simp [pack, List.getD_eq_getElem?_getD, h]
    rw [e, UInt8.toNat_ofNat_of_lt' (byteOf_lt _), byteOf_bit _ _ (by omega)]
    congr 1; omega
  · have e : (pack bs).getD (i / 8) 0 = 0 := by
      rw [List.getD_eq_getElem?_getD, List.getElem?_eq_none (by rw [pack_length]; omega)]; rfl
    rw [e]
    have : bs.getD i false = false := by
      rw [List.getD_eq_getElem?_getD, List.getElem?_eq_none (by unfold nb at h; omega)]; rfl
    rw [this]; simp

theorem bitl_succ (l : List UInt8) (n : Nat) : bitl l (n + 1) = bitl l n ++ [bt l n] := by simp [bitl, List.range_succ]

theorem bt_none (l : List UInt8) (i : Nat) (h : 8 * l.length ≤ i) : bt l i = false := by
  unfold bt
  rw [List.getD_eq_getElem?_getD, List.getElem?_eq_none (by omega)]; simp

/-- bytes are alike if their bits are -/
theorem bytes_ext {l l' : List UInt8} (hl : l.length = l'.length) (h : ∀ i, i < 8 * l.length → bt l i = bt l' i) : l = l' := by
  apply List.ext_getElem hl
  intro k h1 h2
  apply UInt8.toNat_inj.1
  apply Nat.eq_of_testBit_eq
  intro j
  by_cases hj : j < 8
  · have := h (8 * k + (7 - j)) (by omega)
    unfold bt at this
    rw [show (8 * k + (7 - j)) / 8 = k by omega, show 7 - (8 * k + (7 - j)) % 8 = j by omega] at this
    simpa [List.getD_eq_getElem?_getD, h1, h2] using this
  · rw [Nat.testBit_lt_two_pow, Nat.testBit_lt_two_pow]
    · have := l'[k].toNat_lt; exact Nat.lt_of_lt_of_le this (Nat.pow_le_pow_right (by decide) (show 8 ≤ j by omega))
    · have := l[k].toNat_lt; exact Nat.lt_of_lt_of_le this (Nat.pow_le_pow_right (by decide) (show 8 ≤ j by omega))

/-- may they be bits? -/
def soundB (l : List UInt8) (n : Int) : Bool :=
  decide (0 ≤ n) && (decide (l.length = nb n.toNat) && (decide (n.toNat % 8 = 0) || decide ((l.getD (l.length - 1) 0).toNat * 2 ^ (n.toNat % 8) % 256 = 0)))

theorem low_zero (x k : Nat) (hk : k < 8) : x * 2 ^ k % 256 = 0 ↔ ∀ j, j < 8 - k → x.testBit j = false := by
  constructor
  · intro h j hj
    have h1 : (x * 2 ^ k % 2 ^ 8).testBit (j + k) = false := by rw [show (2 : Nat) ^ 8 = 256 from rfl, h]; simp
    rw [Nat.testBit_mod_two_pow] at h1
    simpa [Nat.testBit_mul_two_pow, show j + k < 8 by omega] using h1
  · intro h
    apply Nat.eq_of_testBit_eq
    intro i
    rw [show (256 : Nat) = 2 ^ 8 from rfl, Nat.testBit_mod_two_pow, Nat.testBit_mul_two_pow]
    by_cases h8 : i < 8
    · by_cases hki : k ≤ i
      · simp [h (i - k) (by omega)]
      · simp [hki]
    · simp [h8]

theorem soundB_iff (l : List UInt8) (n : Int) : soundB l n = true ↔ 0 ≤ n ∧ l.length = nb n.toNat ∧ ∀ i, n.toNat ≤ i → bt l i = false := by
  unfold soundB
  simp only [Bool.and_eq_true, Bool.or_eq_true, decide_eq_true_eq]
  constructor
  · rintro ⟨h0, hl, h8⟩
    refine ⟨h0, hl, fun i hi => ?_⟩
    by_cases hb : 8 * l.length ≤ i
    · exact bt_none l i hb
    · have hlen : l.length = (n.toNat + 7) / 8 := hl
      rcases h8 with h8 | h8
      · omega
      · by_cases h8z : n.toNat % 8 = 0
        · omega
        · rw [low_zero _ _ (by omega)] at h8
          unfold bt
          rw [show i / 8 = l.length - 1 by omega]
          exact h8 _ (by omega)
  · rintro ⟨h0, hl, h⟩
    refine ⟨h0, hl, ?_⟩
    by_cases h8z : n.toNat % 8 = 0
    · exact .inl h8z
    · right
      have hlen : l.length = (n.toNat + 7) / 8 := hl
      rw [low_zero _ _ (by omega)]
      intro j hj
      have := h (8 * (l.length - 1) + (7 - j)) (by omega)
      unfold bt at this
      rwa [show (8 * (l.length - 1) + (7 - j)) / 8 = l.length - 1 by omega, show 7 - (8 * (l.length - 1) + (7 - j)) % 8 = j by omega] at this

theorem sound_pack (bs : List Bool) : soundB (pack bs) bs.length = true := by
  rw [soundB_iff]
  refine ⟨by omega, by rw [pack_length]; rfl, fun i hi => ?_⟩
  rw [bt_pack, List.getD_eq_getElem?_getD, List.getElem?_eq_none (by omega)]; rfl

theorem bitl_get (l : List UInt8) (n i : Nat) : (bitl l n).getD i false = (if i < n then bt l i else false) := by
  unfold bitl
  rw [List.getD_eq_getElem?_getD, List.getElem?_map]
  by_cases h : i < n
  · simp [h]
  · simp [h]

/-- sound bits are the bytes of their bits -/
theorem pack_bits {l : List UInt8} {n : Nat} (h : soundB l n = true) : pack (bitl l n) = l := by
  rw [soundB_iff] at h
  obtain ⟨_, hl, hz⟩ := h
  apply bytes_ext
  · rw [pack_length, bitl_length, hl]; rfl
  · intro i _
    rw [bt_pack, bitl_get]
    split
    · rfl
    · rename_i hn; exact (hz i (by simpa using hn)).symm

theorem bits_pack (bs : List Bool) : bitl (pack bs) bs.length = bs := by
  apply List.ext_getElem (by simp [bitl_length])
  intro i h1 h2
  simp only [bitl, List.getElem_map, List.getElem_range]
  rw [bt_pack, List.getD_eq_getElem?_getD, List.getElem?_eq_getElem h2]; rfl

theorem pack_inj {a b : List Bool} (hl : a.length = b.length) (h : pack a = pack b) : a = b := by
  rw [← bits_pack a, ← bits_pack b, h, hl]

/-- the number that bits are -/
def numB (bs : List Bool) : Nat := bs.foldl (fun v b => 2 * v + b2n b) 0
/-- the last bits of a number -/
def valB (v width : Nat) : List Bool := (List.range width).map fun i => v.testBit (width - 1 - i)

theorem numB_nil : numB [] = 0 := rfl
theorem numB_snoc (bs : List Bool) (b : Bool) : numB (bs ++ [b]) = 2 * numB bs + b2n b := by simp [numB, List.foldl_append]
theorem valB_length (v n : Nat) : (valB v n).length = n := by simp [valB]
theorem b2n_bit (b : Bool) (j : Nat) : (b2n b).testBit j = (decide (j = 0) && b) := by
  cases b
  · simp [b2n]
  · cases j with
    | zero => rfl
    | succ j => simp [b2n, Nat.testBit_succ]
theorem twice_bit (v : Nat) (b : Bool) (j : Nat) : (2 * v + b2n b).testBit j = if j = 0 then b else v.testBit (j - 1) := by
  cases j with
  | zero => cases b <;> simp [b2n, Nat.testBit_zero] <;> omega
  | succ j =>
    rw [Nat.testBit_succ]
    have := b2n_le b
    rw [show (2 * v + b2n b) / 2 = v by omega]
    simp
theorem testBit_numB (bs : List Bool) : ∀ j, (numB bs).testBit j = if j < bs.length then bs.getD (bs.length - 1 - j) false else false := by
  induction bs using snoc_ind with
  | h0 => intro j; simp [numB]
  | h1 bs b ih =>
    intro j
    rw [numB_snoc, twice_bit]
    by_cases hj : j = 0
    · subst hj; simp
    · rw [if_neg hj, ih]
      simp only [List.length_append, List.length_cons, List.length_nil]
      by_cases h : j - 1 < bs.length
      · rw [if_pos h, if_pos (by omega), List.getD_eq_getElem?_getD, List.getD_eq_getElem?_getD, List.getElem?_append_left (by omega)]
        congr 2; omega
      · rw [if_neg h, if_neg (by omega)]
theorem numB_lt (bs : List Bool) : numB bs < 2 ^ bs.length := by
  induction bs using snoc_ind with
  | h0 => simp [numB]
  | h1 bs b ih =>
    rw [numB_snoc]
    have := b2n_le b
    simp only [List.length_append, List.length_cons, List.length_nil, Nat.pow_succ, Nat.zero_add]
    omega
theorem valB_get (v n i : Nat) : (valB v n).getD i false = if i < n then v.testBit (n - 1 - i) else false := by
  unfold valB
  rw [List.getD_eq_getElem?_getD, List.getElem?_map]
  by_cases h : i < n
  · simp [h]
  · simp [h]
theorem numB_valB (v n : Nat) : numB (valB v n) = v % 2 ^ n := by
  apply Nat.eq_of_testBit_eq
  intro j
  rw [testBit_numB, Nat.testBit_mod_two_pow, valB_length, valB_get]
  by_cases h : j < n
  · rw [if_pos h, if_pos (by omega), show n - 1 - (n - 1 - j) = j by omega]; simp [h]
  · rw [if_neg h]; simp [h]
theorem valB_mod (v n : Nat) : valB (v % 2 ^ n) n = valB v n := by
  unfold valB
  apply List.map_congr_left
  intro i hi
  rw [List.mem_range] at hi
  rw [Nat.testBit_mod_two_pow]; simp; omega
theorem valB_numB (bs : List Bool) : valB (numB bs) bs.length = bs := by
  apply List.ext_getElem (by simp [valB])
  intro i h1 h2
  simp only [valB, List.getElem_map, List.getElem_range]
  rw [testBit_numB, if_pos (by omega), show bs.length - 1 - (bs.length - 1 - i) = i by omega, List.getD_eq_getElem?_getD, List.getElem?_eq_getElem h2]; rfl

theorem bt_set (l : List UInt8) (j : Nat) (x : UInt8) (i : Nat) (hj : j < l.length) : bt (l.set j x) i = if i / 8 = j then x.toNat.testBit (7 - i % 8) else bt l i := by
  unfold bt
  rw [List.getD_eq_getElem?_getD, List.getElem?_set]
  by_cases h : j = i / 8
  · subst h; rw [if_pos rfl, if_pos hj, if_pos rfl]; rfl
  · rw [if_neg h, if_neg (fun e => h e.symm), ← List.getD_eq_getElem?_getD]

theorem bt_snoc (l : List UInt8) (x : UInt8) (i : Nat) : bt (l ++ [x]) i = if i / 8 = l.length then x.toNat.testBit (7 - i % 8) else bt l i := by
  unfold bt
  rw [List.getD_eq_getElem?_getD, List.getD_eq_getElem?_getD]
  by_cases h : i / 8 < l.length
  · rw [List.getElem?_append_left h, if_neg (by omega)]
  · rw [List.getElem?_append_right (by omega)]
    by_cases h2 : i / 8 = l.length
    · rw [if_pos h2, h2]; simp
    · rw [if_neg h2, List.getElem?_eq_none (show l.length ≤ i / 8 by omega), List.getElem?_eq_none (by simp; omega)]

theorem pack_zero (bs : List Bool) (h : bs.length % 8 = 0) : (pack bs ++ [0]).length = bs.length / 8 + 1 := by rw [List.length_append, pack_length]; simp [nb]; omega

theorem shl_byte (b : Bool) (k : Nat) (hk : k < 8) : b2n b * 2 ^ k < 256 := by
  have h1 := b2n_le b
  have h2 : 2 ^ k ≤ 2 ^ 7 := Nat.pow_le_pow_right (by decide) (by omega)
  have h3 : b2n b * 2 ^ k ≤ 1 * 2 ^ k := Nat.mul_le_mul_right _ h1
  omega

theorem or_byte (x : UInt8) (b : Bool) (k : Nat) (hk : k < 8) : (x.toNat ||| b2n b * 2 ^ k) < 256 :=
  Nat.or_lt_two_pow (n := 8) x.toNat_lt (shl_byte b k hk)

/-- the byte that takes one more bit -/
def orBit (x : UInt8) (b : Bool) (k : Nat) : UInt8 := UInt8.ofNat (x.toNat ||| b2n b * 2 ^ k)
theorem orBit_toNat (x : UInt8) (b : Bool) (k : Nat) (hk : k < 8) : (orBit x b k).toNat = x.toNat ||| b2n b * 2 ^ k := UInt8.toNat_ofNat_of_lt' (or_byte x b k hk)
theorem orBit_bit (x : UInt8) (b : Bool) (k j : Nat) (hk : k < 8) : (orBit x b k).toNat.testBit j = (x.toNat.testBit j || (decide (j = k) && b)) := by
  rw [orBit_toNat _ _ _ hk, Nat.testBit_or, Nat.testBit_mul_two_pow, b2n_bit]
  congr 1
  by_cases h : k ≤ j
  · by_cases h2 : j = k
    · subst h2; simp
    · have : ¬ j - k = 0 := by omega
      simp [h, h2, this]
  · have : ¬ j = k := by omega
    simp [h, this]

/-- one more bit -/
theorem pack_snoc (bs : List Bool) (b : Bool) (L : List UInt8) (x : UInt8) (hL : L = if bs.length % 8 = 0 then pack bs ++ [0] else pack bs) (hx : L[bs.length / 8]? = some x) :
    L.set (bs.length / 8) (orBit x b (7 - bs.length % 8)) = pack (bs ++ [b]) := by
  have hlen : L.length = bs.length / 8 + 1 := by
    rw [hL]; split
    · exact pack_zero bs (by assumption)
    · rw [pack_length]; unfold nb; omega
  have hbt : ∀ i, bt L i = bs.getD i false := by
    intro i
    rw [hL]; split
    · rw [bt_snoc]; split
      · rename_i h8 hi
        rw [pack_length] at hi
        rw [List.getD_eq_getElem?_getD, List.getElem?_eq_none (by unfold nb at hi; omega)]; simp
      · exact bt_pack bs i
    · exact bt_pack bs i
  apply bytes_ext
  · rw [List.length_set, hlen, pack_length, List.length_append]; unfold nb; simp; omega
  · intro i hi
    rw [List.length_set, hlen] at hi
    rw [bt_set _ _ _ _ (by omega), bt_pack, orBit_bit _ _ _ _ (by omega)]
    have hxi : i / 8 = bs.length / 8 → x.toNat.testBit (7 - i % 8) = bs.getD i false := by
      intro h
      rw [← hbt i]; unfold bt
      rw [List.getD_eq_getElem?_getD, h, hx]; rfl
    have hap : (bs ++ [b]).getD i false = if i = bs.length then b else bs.getD i false := by
      simp only [List.getD_eq_getElem?_getD]
      rcases Nat.lt_trichotomy i bs.length with h | h | h
      · rw [List.getElem?_append_left h, if_neg (by omega)]
      · subst h; simp
      · rw [List.getElem?_eq_none (by simp; omega), if_neg (by omega), List.getElem?_eq_none (by omega)]
    rw [hap]
    by_cases h : i / 8 = bs.length / 8
    · rw [if_pos h, hxi h]
      by_cases h2 : i = bs.length
      · subst h2; rw [List.getD_eq_getElem?_getD, List.getElem?_eq_none (by omega)]; simp
      · have : ¬ (7 - i % 8 = 7 - bs.length % 8) := by omega
        simp [h2, this]
    · rw [if_neg h, if_neg (by omega), hbt]

theorem pack_take (bs : List Bool) (k : Nat) (hk : k < bs.length) (L : List UInt8) (x : UInt8) (hL : L = if k % 8 = 0 then pack (bs.take k) ++ [0] else pack (bs.take k)) (hx : L[k / 8]? = some x) :
    L.set (k / 8) (orBit x bs[k] (7 - k % 8)) = pack (bs.take (k + 1)) := by
  have e : (bs.take k).length = k := by simp; omega
  have h := pack_snoc (bs.take k) bs[k] L x (by rw [e]; exact hL) (by rw [e]; exact hx)
  rw [e] at h
  rw [h, List.take_succ_eq_append_getElem hk]

/-- bits as bytes -/
def u8s (bs : List Bool) : List UInt8 := bs.map b2u
theorem u8s_nil : u8s [] = [] := rfl
theorem u8s_snoc (bs : List Bool) (b : Bool) : u8s (bs ++ [b]) = u8s bs ++ [b2u b] := by simp [u8s]
theorem u8s_append (a b : List Bool) : u8s (a ++ b) = u8s a ++ u8s b := by simp [u8s]
theorem u8s_length (bs : List Bool) : (u8s bs).length = bs.length := by simp [u8s]
theorem u8s_get (bs : List Bool) (k : Nat) (h : k < (u8s bs).length) : (u8s bs)[k] = b2u (bs[k]'(by rwa [u8s_length] at h)) := by simp [u8s]

/-- k bits from a on -/
def cutl (l : List UInt8) (a k : Nat) : List Bool := (List.range k).map fun i => bt l (a + i)
theorem cutl_length (l : List UInt8) (a k : Nat) : (cutl l a k).length = k := by simp [cutl]
theorem cutl_succ (l : List UInt8) (a k : Nat) : cutl l a (k + 1) = cutl l a k ++ [bt l (a + k)] := by simp [cutl, List.range_succ]
theorem cutl_zero (l : List UInt8) (a : Nat) : cutl l a 0 = [] := rfl
theorem cutl_get (l : List UInt8) (a k i : Nat) : (cutl l a k).getD i false = if i < k then bt l (a + i) else false := by
  unfold cutl
  rw [List.getD_eq_getElem?_getD, List.getElem?_map]
  by_cases h : i < k
  · simp [h]
  · simp [h]
theorem cutl_all (l : List UInt8) (n : Nat) : cutl l 0 n = bitl l n := by simp [cutl, bitl]

theorem testBit_cut (l : List UInt8) (a k j : Nat) : (numB (cutl l a k)).testBit j = if j < k then bt l (a + (k - 1 - j)) else false := by
  rw [testBit_numB, cutl_length, cutl_get]
  by_cases h : j < k
  · rw [if_pos h, if_pos (by omega), if_pos h]
  · rw [if_neg h, if_neg h]

theorem read_step (l : List UInt8) (a t n x q : Nat) (hx : x = a + t) (hq : q = 8 - x % 8) (hn : n ≤ q) (hl : x / 8 < l.length) :
    numB (cutl l a (t + n)) = (numB (cutl l a t) * 2 ^ n) ||| ((l[x / 8]).toNat / 2 ^ (q - n) % 2 ^ n) := by
  apply Nat.eq_of_testBit_eq
  intro j
  rw [testBit_cut, Nat.testBit_or, Nat.testBit_mul_two_pow, Nat.testBit_mod_two_pow, Nat.testBit_div_two_pow, testBit_cut]
  by_cases hjn : n ≤ j
  · have e1 : ¬ j < n := by omega
    simp only [hjn, e1, decide_true, decide_false, Bool.true_and, Bool.false_and, Bool.or_false]
    by_cases hj : j < t + n
    · rw [if_pos hj, if_pos (by omega)]; congr 1; omega
    · rw [if_neg hj, if_neg (by omega)]
  · have e1 : j < n := by omega
    simp only [hjn, e1, decide_true, decide_false, Bool.true_and, Bool.false_and, Bool.false_or]
    rw [if_pos (by omega)]
    unfold bt
    rw [show (a + (t + n - 1 - j)) / 8 = x / 8 by omega, show 7 - (a + (t + n - 1 - j)) % 8 = j + (q - n) by omega, List.getD_eq_getElem?_getD, List.getElem?_eq_getElem hl]
    rfl

theorem sound_nat {l : List UInt8} {n : Int} (h : soundB l n = true) : ∃ m : Nat, n = m ∧ m ≤ 8 * l.length ∧ l.length = nb m := by
  obtain ⟨h0, hl, _⟩ := (soundB_iff l n).1 h
  obtain ⟨m, rfl⟩ := Int.eq_ofNat_of_zero_le h0
  refine ⟨m, rfl, ?_, hl⟩
  unfold nb at hl; simp at hl; omega

/-- the byte into which n bits of v are written, q - n places from its lowest -/
def wrByte (old : UInt8) (v r n q : Nat) : Nat := old.toNat ||| (v / 2 ^ (r - n) % 2 ^ n * 2 ^ (q - n))
theorem wrByte_bit (old : UInt8) (v r n q j : Nat) : (wrByte old v r n q).testBit j = (old.toNat.testBit j || (decide (q - n ≤ j) && (decide (j - (q - n) < n) && v.testBit (j - (q - n) + (r - n))))) := by
  unfold wrByte
  rw [Nat.testBit_or, Nat.testBit_mul_two_pow, Nat.testBit_mod_two_pow, Nat.testBit_div_two_pow]
theorem wrByte_part (v r n q : Nat) (hn : n ≤ q) (hq : q ≤ 8) : v / 2 ^ (r - n) % 2 ^ n * 2 ^ (q - n) < 256 := by
  have h1 : v / 2 ^ (r - n) % 2 ^ n < 2 ^ n := Nat.mod_lt _ (Nat.two_pow_pos n)
  have h2 : v / 2 ^ (r - n) % 2 ^ n * 2 ^ (q - n) < 2 ^ n * 2 ^ (q - n) := Nat.mul_lt_mul_of_pos_right h1 (Nat.two_pow_pos _)
  rw [← Nat.pow_add, show n + (q - n) = q by omega] at h2
  exact Nat.lt_of_lt_of_le h2 (Nat.pow_le_pow_right (by decide) hq : 2 ^ q ≤ 2 ^ 8)
theorem wrByte_lt (old : UInt8) (v r n q : Nat) (hn : n ≤ q) (hq : q ≤ 8) : wrByte old v r n q < 256 := Nat.or_lt_two_pow (n := 8) old.toNat_lt (wrByte_part v r n q hn hq)

/-- after t of d bits of v are written from a on -/
def Wrote (l l1 : List UInt8) (a v d t : Nat) : Prop := l1.length = l.length ∧ ∀ i, bt l1 i = if a ≤ i ∧ i < a + t then v.testBit (d - 1 - (i - a)) else bt l i

theorem Wrote.zero (l : List UInt8) (a v d : Nat) : Wrote l l a v d 0 := ⟨rfl, fun i => by rw [if_neg (by omega)]⟩
theorem Wrote.step {l l1 : List UInt8} {a v d t x r n q : Nat} (h : Wrote l l1 a v d t) (hz : ∀ i, a ≤ i → i < a + d → bt l i = false) (hx : x = a + t) (hr : r = d - t) (hq : q = 8 - x % 8) (hn : n ≤ q) (hnr : n ≤ r) (hl : x / 8 < l1.length) :
    Wrote l (l1.set (x / 8) (UInt8.ofNat (wrByte l1[x / 8] v r n q))) a v d (t + n) := by
  refine ⟨by rw [List.length_set]; exact h.1, fun i => ?_⟩
  rw [bt_set _ _ _ _ hl]
  by_cases hi : i / 8 = x / 8
  · rw [if_pos hi, UInt8.toNat_ofNat_of_lt' (wrByte_lt _ _ _ _ _ hn (by omega)), wrByte_bit]
    have hold : l1[x / 8].toNat.testBit (7 - i % 8) = bt l1 i := by
      unfold bt; rw [hi, List.getD_eq_getElem?_getD, List.getElem?_eq_getElem hl]; rfl
    rw [hold, h.2 i]
    by_cases hin : x ≤ i ∧ i < x + n
    · rw [if_neg (by omega), if_pos (by omega), hz i (by omega) (by omega)]
      have e1 : q - n ≤ 7 - i % 8 := by omega
      have e2 : 7 - i % 8 - (q - n) < n := by omega
      simp only [e1, e2, decide_true, Bool.true_and, Bool.false_or]
      congr 1; omega
    · have e : (decide (q - n ≤ 7 - i % 8) && (decide (7 - i % 8 - (q - n) < n) && v.testBit (7 - i % 8 - (q - n) + (r - n)))) = false := by
        by_cases e1 : q - n ≤ 7 - i % 8
        · have e2 : ¬ 7 - i % 8 - (q - n) < n := by omega
          simp [e2]
        · simp [e1]
      rw [e, Bool.or_false]
      by_cases hc : a ≤ i ∧ i < a + t
      · rw [if_pos hc, if_pos (by omega)]
      · rw [if_neg hc, if_neg (by omega)]
  · rw [if_neg hi, h.2 i]
    by_cases hc : a ≤ i ∧ i < a + t
    · rw [if_pos hc, if_pos (by omega)]
    · rw [if_neg hc, if_neg (by omega)]

/-- bytes with d bits of v behind the first m -/
theorem put_done {l l' : List UInt8} {m v d : Nat} (hs : soundB l m = true) (h : Wrote (l ++ (List.replicate (nb (m + d)) 0).drop l.length) l' m v d d) : l' = pack (bitl l m ++ valB v d) := by
  obtain ⟨_, hl, hz⟩ := (soundB_iff l m).1 hs
  rw [Int.toNat_natCast] at hl hz
  have hlen : (l ++ (List.replicate (nb (m + d)) (0 : UInt8)).drop l.length).length = nb (m + d) := by
    rw [List.length_append, List.length_drop, List.length_replicate, hl]; unfold nb; omega
  apply bytes_ext
  · rw [h.1, hlen, pack_length, List.length_append, bitl_length, valB_length]
  · intro i _
    rw [h.2 i, bt_pack]
    have hap : (bitl l m ++ valB v d).getD i false = if i < m then bt l i else (valB v d).getD (i - m) false := by
      simp only [List.getD_eq_getElem?_getD]
      by_cases hi : i < m
      · rw [List.getElem?_append_left (by rw [bitl_length]; exact hi), if_pos hi, ← List.getD_eq_getElem?_getD, bitl_get, if_pos hi]
      · rw [List.getElem?_append_right (by rw [bitl_length]; omega), if_neg hi, bitl_length]
    rw [hap, valB_get]
    have hbl : bt (l ++ (List.replicate (nb (m + d)) (0 : UInt8)).drop l.length) i = bt l i := by
      unfold bt
      simp only [List.getD_eq_getElem?_getD]
      by_cases hi : i / 8 < l.length
      · rw [List.getElem?_append_left hi]
      · rw [List.getElem?_append_right (by omega), List.getElem?_eq_none (show l.length ≤ i / 8 by omega), List.getElem?_drop, List.getElem?_replicate]
        split <;> simp
    by_cases hi : i < m
    · rw [if_neg (by omega), if_pos hi, hbl]
    · rw [if_neg hi]
      by_cases hd : i < m + d
      · rw [if_pos ⟨by omega, hd⟩, if_pos (by omega)]
      · rw [if_neg (by omega), if_neg (by omega), hbl, hz i (by omega)]

theorem put_zero {l : List UInt8} {m d : Nat} (hs : soundB l m = true) : ∀ i, m ≤ i → i < m + d → bt (l ++ (List.replicate (nb (m + d)) (0 : UInt8)).drop l.length) i = false := by
  obtain ⟨_, hl, hz⟩ := (soundB_iff l m).1 hs
  rw [Int.toNat_natCast] at hl hz
  intro i hi _
  have hbl : bt (l ++ (List.replicate (nb (m + d)) (0 : UInt8)).drop l.length) i = bt l i := by
    unfold bt
    simp only [List.getD_eq_getElem?_getD]
    by_cases hi : i / 8 < l.length
    · rw [List.getElem?_append_left hi]
    · rw [List.getElem?_append_right (by omega), List.getElem?_eq_none (show l.length ≤ i / 8 by omega), List.getElem?_drop, List.getElem?_replicate]
      split <;> simp
  rw [hbl, hz i hi]

/-- what Put answers: bytes, bits, the error -/
def putSpec (l : List UInt8) (n : Int) (v : Nat) (width : Int) : List UInt8 × Nat × Nat :=
  if soundB l n = false then ([], 0, 11) else if width < 0 ∨ 64 < width then ([], 0, 1) else (pack (bitl l n.toNat ++ valB v width.toNat), n.toNat + width.toNat, 0)

/-- what Get answers: a number, the error -/
def getSpec (l : List UInt8) (n at_ width : Int) : Nat × Nat :=
  if soundB l n = false then (0, 11) else if width < 0 ∨ 64 < width then (0, 1) else if at_ < 0 ∨ n < at_ ∨ n - at_ < width then (0, 10) else (numB (cutl l at_.toNat width.toNat), 0)

/-- what Cut answers: bytes, bits, the error -/
def cutSpec (l : List UInt8) (n a b : Int) : List UInt8 × Nat × Nat :=
  if soundB l n = false then ([], 0, 11) else if a < 0 ∨ b < a ∨ n < b then ([], 0, 10) else (pack (cutl l a.toNat (b - a).toNat), (b - a).toNat, 0)

theorem getSpec_code (l : List UInt8) (n a b : Int) : (getSpec l n a b).2 ≤ 11 := by
  unfold getSpec
  split
  · exact Nat.le_refl _
  · split
    · show 1 ≤ 11; decide
    · split
      · show 10 ≤ 11; decide
      · exact Nat.zero_le _
theorem putSpec_code (l : List UInt8) (n : Int) (v : Nat) (b : Int) : (putSpec l n v b).2.2 ≤ 11 := by
  unfold putSpec
  split
  · exact Nat.le_refl _
  · split
    · show 1 ≤ 11; decide
    · exact Nat.zero_le _
theorem cutSpec_code (l : List UInt8) (n a b : Int) : (cutSpec l n a b).2.2 ≤ 11 := by
  unfold cutSpec
  split
  · exact Nat.le_refl _
  · split
    · show 10 ≤ 11; decide
    · exact Nat.zero_le _

theorem cutl_pack (M : List Bool) (a d : Nat) (h : a + d ≤ M.length) : cutl (pack M) a d = (M.drop a).take d := by
  apply List.ext_getElem
  · rw [cutl_length, List.length_take, List.length_drop]; omega
  · intro i h1 h2
    rw [cutl_length] at h1
    simp only [cutl, List.getElem_map, List.getElem_range, List.getElem_take, List.getElem_drop]
    rw [bt_pack, List.getD_eq_getElem?_getD, List.getElem?_eq_getElem (by omega)]; rfl

theorem valB_split (v W k : Nat) (hk : k ≤ W) : valB v W = valB (v / 2 ^ k) (W - k) ++ valB v k := by
  apply List.ext_getElem
  · rw [List.length_append, valB_length, valB_length, valB_length]; omega
  · intro i h1 h2
    rw [valB_length] at h1
    rw [List.getElem_append]
    split
    · rename_i h
      simp only [valB, List.getElem_map, List.getElem_range]
      rw [Nat.testBit_div_two_pow]
      congr 1
      rw [valB_length] at h
      omega
    · rename_i h
      rw [valB_length] at h
      simp only [valB, List.getElem_map, List.getElem_range, List.length_map, List.length_range]
      congr 1
      omega

theorem valB_zero (v : Nat) : valB v 0 = [] := rfl
theorem valB_eq_iff (v u d : Nat) : valB v d = valB u d ↔ v % 2 ^ d = u % 2 ^ d := by
  constructor
  · intro h
    rw [← numB_valB, h, numB_valB]
  · intro h
    rw [← valB_mod v, h, valB_mod]

theorem pack_eq_iff (a b : List Bool) : (a.length = b.length ∧ pack a = pack b) ↔ a = b :=
  ⟨fun h => pack_inj h.1 h.2, fun h => by rw [h]; exact ⟨rfl, rfl⟩⟩

theorem nb_le (n : Nat) : nb n ≤ n + 1 := by unfold nb; omega
theorem pack_le (M : List Bool) {k : Nat} (h : M.length ≤ k) : (pack M).length ≤ k + 1 := by rw [pack_length]; have := nb_le M.length; omega

/-- bits that are sound are those of a list -/
theorem pack_sound {l : List UInt8} {m : Nat} (h : soundB l m = true) : l = pack (bitl l m) := by
  have h1 := (soundB_iff l m).1 h
  rw [Int.toNat_natCast] at h1
  apply bytes_ext
  · rw [pack_length, bitl_length]; exact h1.2.1
  · intro i _
    rw [bt_pack, bitl_get]
    split
    · rfl
    · exact h1.2.2 i (by omega)

end Go.Proofs.Ytgadedpcekiljaa
