/- Joined: Math, MathCrc, MathF, MathN. -/
set_option linter.unusedSimpArgs false
set_option linter.unusedVariables false
/-
  Plain mathematics of bit strings: bits of a list of bytes, bytes of a list of bits, numbers of a list of bits. Imports nothing of the program.
-/
set_option linter.unusedSimpArgs false
set_option linter.unusedVariables false
namespace Go.Proofs.Ytpedobpbpomkaaa

theorem snoc_ind {α : Type} {P : List α → Prop} (h0 : P []) (h1 : ∀ l a, P l → P (l ++ [a])) (l : List α) : P l := by
  rw [← List.reverse_reverse l]
  induction l.reverse with
  | nil => exact h0
  | cons a r ih => rw [List.reverse_cons]; exact h1 _ _ ih

/-- how many bytes so many bits take -/
def nb (n : Nat) : Nat := (n + 7) / 8

/-- bit number i, the highest of each byte first -/
def bt (l : List UInt8) (i : Nat) : Bool := (l.getD (i / 8) 0).toNat.testBit (7 - i % 8)

/-- the first n bits -/
def bitl (l : List UInt8) (n : Nat) : List Bool := (List.range n).map (bt l)

def b2n (b : Bool) : Nat := if b then 1 else 0
def b2u (b : Bool) : UInt8 := if b then 1 else 0

/-- a byte of eight bits, the highest first -/
def byteOf (f : Nat → Bool) : Nat :=
  b2n (f 0) * 128 + b2n (f 1) * 64 + b2n (f 2) * 32 + b2n (f 3) * 16 + b2n (f 4) * 8 + b2n (f 5) * 4 + b2n (f 6) * 2 + b2n (f 7)

/-- the bytes of a list of bits -/
def pack (bs : List Bool) : List UInt8 := (List.range (nb bs.length)).map fun k => UInt8.ofNat (byteOf fun j => bs.getD (8 * k + j) false)

theorem b2u_toNat (b : Bool) : (b2u b).toNat = b2n b := by cases b <;> rfl
theorem b2n_le (b : Bool) : b2n b ≤ 1 := by cases b <;> decide

theorem byteOf_lt (f : Nat → Bool) : byteOf f < 256 := by
  have := b2n_le (f 0); have := b2n_le (f 1); have := b2n_le (f 2); have := b2n_le (f 3)
  have := b2n_le (f 4); have := b2n_le (f 5); have := b2n_le (f 6); have := b2n_le (f 7)
  unfold byteOf; omega

def eight (a0 a1 a2 a3 a4 a5 a6 a7 : Bool) : Nat := b2n a0 * 128 + b2n a1 * 64 + b2n a2 * 32 + b2n a3 * 16 + b2n a4 * 8 + b2n a5 * 4 + b2n a6 * 2 + b2n a7
theorem eight_bits : ∀ a0 a1 a2 a3 a4 a5 a6 a7 : Bool, (eight a0 a1 a2 a3 a4 a5 a6 a7).testBit 7 = a0 ∧ (eight a0 a1 a2 a3 a4 a5 a6 a7).testBit 6 = a1 ∧ (eight a0 a1 a2 a3 a4 a5 a6 a7).testBit 5 = a2 ∧ (eight a0 a1 a2 a3 a4 a5 a6 a7).testBit 4 = a3 ∧
    (eight a0 a1 a2 a3 a4 a5 a6 a7).testBit 3 = a4 ∧ (eight a0 a1 a2 a3 a4 a5 a6 a7).testBit 2 = a5 ∧ (eight a0 a1 a2 a3 a4 a5 a6 a7).testBit 1 = a6 ∧ (eight a0 a1 a2 a3 a4 a5 a6 a7).testBit 0 = a7 := by decide
theorem byteOf_bit (f : Nat → Bool) (j : Nat) (hj : j < 8) : (byteOf f).testBit (7 - j) = f j := by
  have e : byteOf f = eight (f 0) (f 1) (f 2) (f 3) (f 4) (f 5) (f 6) (f 7) := rfl
  rw [e]
  obtain ⟨h0, h1, h2, h3, h4, h5, h6, h7⟩ := eight_bits (f 0) (f 1) (f 2) (f 3) (f 4) (f 5) (f 6) (f 7)
  match j, hj with
  | 0, _ => exact h0
  | 1, _ => exact h1
  | 2, _ => exact h2
  | 3, _ => exact h3
  | 4, _ => exact h4
  | 5, _ => exact h5
  | 6, _ => exact h6
  | 7, _ => exact h7

theorem pack_length (bs : List Bool) : (pack bs).length = nb bs.length := by simp [pack]

theorem bitl_length (l : List UInt8) (n : Nat) : (bitl l n).length = n := by simp [bitl]

theorem bt_pack (bs : List Bool) (i : Nat) : bt (pack bs) i = bs.getD i false := by
  unfold bt
  by_cases h : i / 8 < nb bs.length
  · have e : (pack bs).getD (i / 8) 0 = UInt8.ofNat (byteOf fun j => bs.getD (8 * (i / 8) + j) false) := by
      simp [pack, List.getD_eq_getElem?_getD, h]
    rw [e, UInt8.toNat_ofNat_of_lt' (byteOf_lt _), byteOf_bit _ _ (by omega)]
    congr 1; omega
  · have e : (pack bs).getD (i / 8) 0 = 0 := by
      rw [List.getD_eq_getElem?_getD, List.getElem?_eq_none (by rw [pack_length]; omega)]; rfl
    rw [e]
    have : bs.getD i false = false := by
      rw [List.getD_eq_getElem?_getD, List.getElem?_eq_none (by unfold nb at h; omega)]; rfl
    rw [this]; simp

theorem bitl_succ (l : List UInt8) (n : Nat) : bitl l (n + 1) = bitl l n ++ [bt l n] := by simp [bitl, List.range_succ]

theorem bt_none (l : List UInt8) (i : Nat) (h : 8 * l.length ≤ i) : bt l i = false := by
  unfold bt
  rw [List.getD_eq_getElem?_getD, List.getElem?_eq_none (by omega)]; simp

/-- bytes are alike if their bits are -/
theorem bytes_ext {l l' : List UInt8} (hl : l.length = l'.length) (h : ∀ i, i < 8 * l.length → bt l i = bt l' i) : l = l' := by
  apply List.ext_getElem hl
  intro k h1 h2
  apply UInt8.toNat_inj.1
  apply Nat.eq_of_testBit_eq
  intro j
  by_cases hj : j < 8
  · have := h (8 * k + (7 - j)) (by omega)
    unfold bt at this
    rw [show (8 * k + (7 - j)) / 8 = k by omega, show 7 - (8 * k + (7 - j)) % 8 = j by omega] at this
    simpa [List.getD_eq_getElem?_getD, h1, h2] using this
  · rw [Nat.testBit_lt_two_pow, Nat.testBit_lt_two_pow]
    · have := l'[k].toNat_lt; exact Nat.lt_of_lt_of_le this (Nat.pow_le_pow_right (by decide) (show 8 ≤ j by omega))
    · have := l[k].toNat_lt; exact Nat.lt_of_lt_of_le this (Nat.pow_le_pow_right (by decide) (show 8 ≤ j by omega))

/-- may they be bits? -/
def soundB (l : List UInt8) (n : Int) : Bool :=
  decide (0 ≤ n) && (decide (l.length = nb n.toNat) && (decide (n.toNat % 8 = 0) || decide ((l.getD (l.length - 1) 0).toNat * 2 ^ (n.toNat % 8) % 256 = 0)))

theorem low_zero (x k : Nat) (hk : k < 8) : x * 2 ^ k % 256 = 0 ↔ ∀ j, j < 8 - k → x.testBit j = false := by
  constructor
  · intro h j hj
    have h1 : (x * 2 ^ k % 2 ^ 8).testBit (j + k) = false := by rw [show (2 : Nat) ^ 8 = 256 from rfl, h]; simp
    rw [Nat.testBit_mod_two_pow] at h1
    simpa [Nat.testBit_mul_two_pow, show j + k < 8 by omega] using h1
  · intro h
    apply Nat.eq_of_testBit_eq
    intro i
    rw [show (256 : Nat) = 2 ^ 8 from rfl, Nat.testBit_mod_two_pow, Nat.testBit_mul_two_pow]
    by_cases h8 : i < 8
    · by_cases hki : k ≤ i
      · simp [h (i - k) (by omega)]
      · simp [hki]
    · simp [h8]

theorem soundB_iff (l : List UInt8) (n : Int) : soundB l n = true ↔ 0 ≤ n ∧ l.length = nb n.toNat ∧ ∀ i, n.toNat ≤ i → bt l i = false := by
  unfold soundB
  simp only [Bool.and_eq_true, Bool.or_eq_true, decide_eq_true_eq]
  constructor
  · rintro ⟨h0, hl, h8⟩
    refine ⟨h0, hl, fun i hi => ?_⟩
    by_cases hb : 8 * l.length ≤ i
    · exact bt_none l i hb
    · have hlen : l.length = (n.toNat + 7) / 8 := hl
      rcases h8 with h8 | h8
      · omega
      · by_cases h8z : n.toNat % 8 = 0
        · omega
        · rw [low_zero _ _ (by omega)] at h8
          unfold bt
          rw [show i / 8 = l.length - 1 by omega]
          exact h8 _ (by omega)
  · rintro ⟨h0, hl, h⟩
    refine ⟨h0, hl, ?_⟩
    by_cases h8z : n.toNat % 8 = 0
    · exact .inl h8z
    · right
      have hlen : l.length = (n.toNat + 7) / 8 := hl
      rw [low_zero _ _ (by omega)]
      intro j hj
      have := h (8 * (l.length - 1) + (7 - j)) (by omega)
      unfold bt at this
      rwa [show (8 * (l.length - 1) + (7 - j)) / 8 = l.length - 1 by omega, show 7 - (8 * (l.length - 1) + (7 - j)) % 8 = j by omega] at this

theorem sound_pack (bs : List Bool) : soundB (pack bs) bs.length = true := by
  rw [soundB_iff]
  refine ⟨by omega, by rw [pack_length]; rfl, fun i hi => ?_⟩
  rw [bt_pack, List.getD_eq_getElem?_getD, List.getElem?_eq_none (by omega)]; rfl

theorem bitl_get (l : List UInt8) (n i : Nat) : (bitl l n).getD i false = (if i < n then bt l i else false) := by
  unfold bitl
  rw [List.getD_eq_getElem?_getD, List.getElem?_map]
  by_cases h : i < n
  · simp [h]
  · simp [h]

/-- sound bits are the bytes of their bits -/
theorem pack_bits {l : List UInt8} {n : Nat} (h : soundB l n = true) : pack (bitl l n) = l := by
  rw [soundB_iff] at h
  obtain ⟨_, hl, hz⟩ := h
  apply bytes_ext
  · rw [pack_length, bitl_length, hl]; rfl
  · intro i _
    rw [bt_pack, bitl_get]
    split
    · rfl
    · rename_i hn; exact (hz i (by simpa using hn)).symm

theorem bits_pack (bs : List Bool) : bitl (pack bs) bs.length = bs := by
  apply List.ext_getElem (by simp [bitl_length])
  intro i h1 h2
  simp only [bitl, List.getElem_map, List.getElem_range]
  rw [bt_pack, List.getD_eq_getElem?_getD, List.getElem?_eq_getElem h2]; rfl

theorem pack_inj {a b : List Bool} (hl : a.length = b.length) (h : pack a = pack b) : a = b := by
  rw [← bits_pack a, ← bits_pack b, h, hl]

/-- the number that bits are -/
def numB (bs : List Bool) : Nat := bs.foldl (fun v b => 2 * v + b2n b) 0
/-- the last bits of a number -/
def valB (v width : Nat) : List Bool := (List.range width).map fun i => v.testBit (width - 1 - i)

theorem numB_nil : numB [] = 0 := rfl
theorem numB_snoc (bs : List Bool) (b : Bool) : numB (bs ++ [b]) = 2 * numB bs + b2n b := by simp [numB, List.foldl_append]
theorem valB_length (v n : Nat) : (valB v n).length = n := by simp [valB]
theorem b2n_bit (b : Bool) (j : Nat) : (b2n b).testBit j = (decide (j = 0) && b) := by
  cases b
  · simp [b2n]
  · cases j with
    | zero => rfl
    | succ j => simp [b2n, Nat.testBit_succ]
theorem twice_bit (v : Nat) (b : Bool) (j : Nat) : (2 * v + b2n b).testBit j = if j = 0 then b else v.testBit (j - 1) := by
  cases j with
  | zero => cases b <;> simp [b2n, Nat.testBit_zero] <;> omega
  | succ j =>
    rw [Nat.testBit_succ]
    have := b2n_le b
    rw [show (2 * v + b2n b) / 2 = v by omega]
    simp
theorem testBit_numB (bs : List Bool) : ∀ j, (numB bs).testBit j = if j < bs.length then bs.getD (bs.length - 1 - j) false else false := by
  induction bs using snoc_ind with
  | h0 => intro j; simp [numB]
  | h1 bs b ih =>
    intro j
    rw [numB_snoc, twice_bit]
    by_cases hj : j = 0
    · subst hj; simp
    · rw [if_neg hj, ih]
      simp only [List.length_append, List.length_cons, List.length_nil]
      by_cases h : j - 1 < bs.length
      · rw [if_pos h, if_pos (by omega), List.getD_eq_getElem?_getD, List.getD_eq_getElem?_getD, List.getElem?_append_left (by omega)]
        congr 2; omega
      · rw [if_neg h, if_neg (by omega)]
theorem numB_lt (bs : List Bool) : numB bs < 2 ^ bs.length := by
  induction bs using snoc_ind with
  | h0 => simp [numB]
  | h1 bs b ih =>
    rw [numB_snoc]
    have := b2n_le b
    simp only [List.length_append, List.length_cons, List.length_nil, Nat.pow_succ, Nat.zero_add]
    omega
theorem valB_get (v n i : Nat) : (valB v n).getD i false = if i < n then v.testBit (n - 1 - i) else false := by
  unfold valB
  rw [List.getD_eq_getElem?_getD, List.getElem?_map]
  by_cases h : i < n
  · simp [h]
  · simp [h]
theorem numB_valB (v n : Nat) : numB (valB v n) = v % 2 ^ n := by
  apply Nat.eq_of_testBit_eq
  intro j
  rw [testBit_numB, Nat.testBit_mod_two_pow, valB_length, valB_get]
  by_cases h : j < n
  · rw [if_pos h, if_pos (by omega), show n - 1 - (n - 1 - j) = j by omega]; simp [h]
  · rw [if_neg h]; simp [h]
theorem valB_mod (v n : Nat) : valB (v % 2 ^ n) n = valB v n := by
  unfold valB
  apply List.map_congr_left
  intro i hi
  rw [List.mem_range] at hi
  rw [Nat.testBit_mod_two_pow]; simp; omega
theorem valB_numB (bs : List Bool) : valB (numB bs) bs.length = bs := by
  apply List.ext_getElem (by simp [valB])
  intro i h1 h2
  simp only [valB, List.getElem_map, List.getElem_range]
  rw [testBit_numB, if_pos (by omega), show bs.length - 1 - (bs.length - 1 - i) = i by omega, List.getD_eq_getElem?_getD, List.getElem?_eq_getElem h2]; rfl

theorem bt_set (l : List UInt8) (j : Nat) (x : UInt8) (i : Nat) (hj : j < l.length) : bt (l.set j x) i = if i / 8 = j then x.toNat.testBit (7 - i % 8) else bt l i := by
  unfold bt
  rw [List.getD_eq_getElem?_getD, List.getElem?_set]
  by_cases h : j = i / 8
  · subst h; rw [if_pos rfl, if_pos hj, if_pos rfl]; rfl
  · rw [if_neg h, if_neg (fun e => h e.symm), ← List.getD_eq_getElem?_getD]

theorem bt_snoc (l : List UInt8) (x : UInt8) (i : Nat) : bt (l ++ [x]) i = if i / 8 = l.length then x.toNat.testBit (7 - i % 8) else bt l i := by
  unfold bt
  rw [List.getD_eq_getElem?_getD, List.getD_eq_getElem?_getD]
  by_cases h : i / 8 < l.length
  · rw [List.getElem?_append_left h, if_neg (by omega)]
  · rw [List.getElem?_append_right (by omega)]
    by_cases h2 : i / 8 = l.length
    · rw [if_pos h2, h2]; simp
    · rw [if_neg h2, List.getElem?_eq_none (show l.length ≤ i / 8 by omega), List.getElem?_eq_none (by simp; omega)]

theorem pack_zero (bs : List Bool) (h : bs.length % 8 = 0) : (pack bs ++ [0]).length = bs.length / 8 + 1 := by rw [List.length_append, pack_length]; simp [nb]; omega

theorem shl_byte (b : Bool) (k : Nat) (hk : k < 8) : b2n b * 2 ^ k < 256 := by
  have h1 := b2n_le b
  have h2 : 2 ^ k ≤ 2 ^ 7 := Nat.pow_le_pow_right (by decide) (by omega)
  have h3 : b2n b * 2 ^ k ≤ 1 * 2 ^ k := Nat.mul_le_mul_right _ h1
  omega

theorem or_byte (x : UInt8) (b : Bool) (k : Nat) (hk : k < 8) : (x.toNat ||| b2n b * 2 ^ k) < 256 :=
  Nat.or_lt_two_pow (n := 8) x.toNat_lt (shl_byte b k hk)

/-- the byte that takes one more bit -/
def orBit (x : UInt8) (b : Bool) (k : Nat) : UInt8 := UInt8.ofNat (x.toNat ||| b2n b * 2 ^ k)
theorem orBit_toNat (x : UInt8) (b : Bool) (k : Nat) (hk : k < 8) : (orBit x b k).toNat = x.toNat ||| b2n b * 2 ^ k := UInt8.toNat_ofNat_of_lt' (or_byte x b k hk)
theorem orBit_bit (x : UInt8) (b : Bool) (k j : Nat) (hk : k < 8) : (orBit x b k).toNat.testBit j = (x.toNat.testBit j || (decide (j = k) && b)) := by
  rw [orBit_toNat _ _ _ hk, Nat.testBit_or, Nat.testBit_mul_two_pow, b2n_bit]
  congr 1
  by_cases h : k ≤ j
  · by_cases h2 : j = k
    · subst h2; simp
    · have : ¬ j - k = 0 := by omega
      simp [h, h2, this]
  · have : ¬ j = k := by omega
    simp [h, this]

/-- one more bit -/
theorem pack_snoc (bs : List Bool) (b : Bool) (L : List UInt8) (x : UInt8) (hL : L = if bs.length % 8 = 0 then pack bs ++ [0] else pack bs) (hx : L[bs.length / 8]? = some x) :
    L.set (bs.length / 8) (orBit x b (7 - bs.length % 8)) = pack (bs ++ [b]) := by
  have hlen : L.length = bs.length / 8 + 1 := by
    rw [hL]; split
    · exact pack_zero bs (by assumption)
    · rw [pack_length]; unfold nb; omega
  have hbt : ∀ i, bt L i = bs.getD i false := by
    intro i
    rw [hL]; split
    · rw [bt_snoc]; split
      · rename_i h8 hi
        rw [pack_length] at hi
        rw [List.getD_eq_getElem?_getD, List.getElem?_eq_none (by unfold nb at hi; omega)]; simp
      · exact bt_pack bs i
    · exact bt_pack bs i
  apply bytes_ext
  · rw [List.length_set, hlen, pack_length, List.length_append]; unfold nb; simp; omega
  · intro i hi
    rw [List.length_set, hlen] at hi
    rw [bt_set _ _ _ _ (by omega), bt_pack, orBit_bit _ _ _ _ (by omega)]
    have hxi : i / 8 = bs.length / 8 → x.toNat.testBit (7 - i % 8) = bs.getD i false := by
      intro h
      rw [← hbt i]; unfold bt
      rw [List.getD_eq_getElem?_getD, h, hx]; rfl
    have hap : (bs ++ [b]).getD i false = if i = bs.length then b else bs.getD i false := by
      simp only [List.getD_eq_getElem?_getD]
      rcases Nat.lt_trichotomy i bs.length with h | h | h
      · rw [List.getElem?_append_left h, if_neg (by omega)]
      · subst h; simp
      · rw [List.getElem?_eq_none (by simp; omega), if_neg (by omega), List.getElem?_eq_none (by omega)]
    rw [hap]
    by_cases h : i / 8 = bs.length / 8
    · rw [if_pos h, hxi h]
      by_cases h2 : i = bs.length
      · subst h2; rw [List.getD_eq_getElem?_getD, List.getElem?_eq_none (by omega)]; simp
      · have : ¬ (7 - i % 8 = 7 - bs.length % 8) := by omega
        simp [h2, this]
    · rw [if_neg h, if_neg (by omega), hbt]

theorem pack_take (bs : List Bool) (k : Nat) (hk : k < bs.length) (L : List UInt8) (x : UInt8) (hL : L = if k % 8 = 0 then pack (bs.take k) ++ [0] else pack (bs.take k)) (hx : L[k / 8]? = some x) :
    L.set (k / 8) (orBit x bs[k] (7 - k % 8)) = pack (bs.take (k + 1)) := by
  have e : (bs.take k).length = k := by simp; omega
  have h := pack_snoc (bs.take k) bs[k] L x (by rw [e]; exact hL) (by rw [e]; exact hx)
  rw [e] at h
  rw [h, List.take_succ_eq_append_getElem hk]

/-- bits as bytes -/
def u8s (bs : List Bool) : List UInt8 := bs.map b2u
theorem u8s_nil : u8s [] = [] := rfl
theorem u8s_snoc (bs : List Bool) (b : Bool) : u8s (bs ++ [b]) = u8s bs ++ [b2u b] := by simp [u8s]
theorem u8s_append (a b : List Bool) : u8s (a ++ b) = u8s a ++ u8s b := by simp [u8s]
theorem u8s_length (bs : List Bool) : (u8s bs).length = bs.length := by simp [u8s]
theorem u8s_get (bs : List Bool) (k : Nat) (h : k < (u8s bs).length) : (u8s bs)[k] = b2u (bs[k]'(by rwa [u8s_length] at h)) := by simp [u8s]

/-- k bits from a on -/
def cutl (l : List UInt8) (a k : Nat) : List Bool := (List.range k).map fun i => bt l (a + i)
theorem cutl_length (l : List UInt8) (a k : Nat) : (cutl l a k).length = k := by simp [cutl]
theorem cutl_succ (l : List UInt8) (a k : Nat) : cutl l a (k + 1) = cutl l a k ++ [bt l (a + k)] := by simp [cutl, List.range_succ]
theorem cutl_zero (l : List UInt8) (a : Nat) : cutl l a 0 = [] := rfl
theorem cutl_get (l : List UInt8) (a k i : Nat) : (cutl l a k).getD i false = if i < k then bt l (a + i) else false := by
  unfold cutl
  rw [List.getD_eq_getElem?_getD, List.getElem?_map]
  by_cases h : i < k
  · simp [h]
  · simp [h]
theorem cutl_all (l : List UInt8) (n : Nat) : cutl l 0 n = bitl l n := by simp [cutl, bitl]

theorem testBit_cut (l : List UInt8) (a k j : Nat) : (numB (cutl l a k)).testBit j = if j < k then bt l (a + (k - 1 - j)) else false := by
  rw [testBit_numB, cutl_length, cutl_get]
  by_cases h : j < k
  · rw [if_pos h, if_pos (by omega), if_pos h]
  · rw [if_neg h, if_neg h]

theorem read_step (l : List UInt8) (a t n x q : Nat) (hx : x = a + t) (hq : q = 8 - x % 8) (hn : n ≤ q) (hl : x / 8 < l.length) :
    numB (cutl l a (t + n)) = (numB (cutl l a t) * 2 ^ n) ||| ((l[x / 8]).toNat / 2 ^ (q - n) % 2 ^ n) := by
  apply Nat.eq_of_testBit_eq
  intro j
  rw [testBit_cut, Nat.testBit_or, Nat.testBit_mul_two_pow, Nat.testBit_mod_two_pow, Nat.testBit_div_two_pow, testBit_cut]
  by_cases hjn : n ≤ j
  · have e1 : ¬ j < n := by omega
    simp only [hjn, e1, decide_true, decide_false, Bool.true_and, Bool.false_and, Bool.or_false]
    by_cases hj : j < t + n
    · rw [if_pos hj, if_pos (by omega)]; congr 1; omega
    · rw [if_neg hj, if_neg (by omega)]
  · have e1 : j < n := by omega
    simp only [hjn, e1, decide_true, decide_false, Bool.true_and, Bool.false_and, Bool.false_or]
    rw [if_pos (by omega)]
    unfold bt
    rw [show (a + (t + n - 1 - j)) / 8 = x / 8 by omega, show 7 - (a + (t + n - 1 - j)) % 8 = j + (q - n) by omega, List.getD_eq_getElem?_getD, List.getElem?_eq_getElem hl]
    rfl

theorem sound_nat {l : List UInt8} {n : Int} (h : soundB l n = true) : ∃ m : Nat, n = m ∧ m ≤ 8 * l.length ∧ l.length = nb m := by
  obtain ⟨h0, hl, _⟩ := (soundB_iff l n).1 h
  obtain ⟨m, rfl⟩ := Int.eq_ofNat_of_zero_le h0
  refine ⟨m, rfl, ?_, hl⟩
  unfold nb at hl; simp at hl; omega

/-- the byte into which n bits of v are written, q - n places from its lowest -/
def wrByte (old : UInt8) (v r n q : Nat) : Nat := old.toNat ||| (v / 2 ^ (r - n) % 2 ^ n * 2 ^ (q - n))
theorem wrByte_bit (old : UInt8) (v r n q j : Nat) : (wrByte old v r n q).testBit j = (old.toNat.testBit j || (decide (q - n ≤ j) && (decide (j - (q - n) < n) && v.testBit (j - (q - n) + (r - n))))) := by
  unfold wrByte
  rw [Nat.testBit_or, Nat.testBit_mul_two_pow, Nat.testBit_mod_two_pow, Nat.testBit_div_two_pow]
theorem wrByte_part (v r n q : Nat) (hn : n ≤ q) (hq : q ≤ 8) : v / 2 ^ (r - n) % 2 ^ n * 2 ^ (q - n) < 256 := by
  have h1 : v / 2 ^ (r - n) % 2 ^ n < 2 ^ n := Nat.mod_lt _ (Nat.two_pow_pos n)
  have h2 : v / 2 ^ (r - n) % 2 ^ n * 2 ^ (q - n) < 2 ^ n * 2 ^ (q - n) := Nat.mul_lt_mul_of_pos_right h1 (Nat.two_pow_pos _)
  rw [← Nat.pow_add, show n + (q - n) = q by omega] at h2
  exact Nat.lt_of_lt_of_le h2 (Nat.pow_le_pow_right (by decide) hq : 2 ^ q ≤ 2 ^ 8)
theorem wrByte_lt (old : UInt8) (v r n q : Nat) (hn : n ≤ q) (hq : q ≤ 8) : wrByte old v r n q < 256 := Nat.or_lt_two_pow (n := 8) old.toNat_lt (wrByte_part v r n q hn hq)

/-- after t of d bits of v are written from a on -/
def Wrote (l l1 : List UInt8) (a v d t : Nat) : Prop := l1.length = l.length ∧ ∀ i, bt l1 i = if a ≤ i ∧ i < a + t then v.testBit (d - 1 - (i - a)) else bt l i

theorem Wrote.zero (l : List UInt8) (a v d : Nat) : Wrote l l a v d 0 := ⟨rfl, fun i => by rw [if_neg (by omega)]⟩
theorem Wrote.step {l l1 : List UInt8} {a v d t x r n q : Nat} (h : Wrote l l1 a v d t) (hz : ∀ i, a ≤ i → i < a + d → bt l i = false) (hx : x = a + t) (hr : r = d - t) (hq : q = 8 - x % 8) (hn : n ≤ q) (hnr : n ≤ r) (hl : x / 8 < l1.length) :
    Wrote l (l1.set (x / 8) (UInt8.ofNat (wrByte l1[x / 8] v r n q))) a v d (t + n) := by
  refine ⟨by rw [List.length_set]; exact h.1, fun i => ?_⟩
  rw [bt_set _ _ _ _ hl]
  by_cases hi : i / 8 = x / 8
  · rw [if_pos hi, UInt8.toNat_ofNat_of_lt' (wrByte_lt _ _ _ _ _ hn (by omega)), wrByte_bit]
    have hold : l1[x / 8].toNat.testBit (7 - i % 8) = bt l1 i := by
      unfold bt; rw [hi, List.getD_eq_getElem?_getD, List.getElem?_eq_getElem hl]; rfl
    rw [hold, h.2 i]
    by_cases hin : x ≤ i ∧ i < x + n
    · rw [if_neg (by omega), if_pos (by omega), hz i (by omega) (by omega)]
      have e1 : q - n ≤ 7 - i % 8 := by omega
      have e2 : 7 - i % 8 - (q - n) < n := by omega
      simp only [e1, e2, decide_true, Bool.true_and, Bool.false_or]
      congr 1; omega
    · have e : (decide (q - n ≤ 7 - i % 8) && (decide (7 - i % 8 - (q - n) < n) && v.testBit (7 - i % 8 - (q - n) + (r - n)))) = false := by
        by_cases e1 : q - n ≤ 7 - i % 8
        · have e2 : ¬ 7 - i % 8 - (q - n) < n := by omega
          simp [e2]
        · simp [e1]
      rw [e, Bool.or_false]
      by_cases hc : a ≤ i ∧ i < a + t
      · rw [if_pos hc, if_pos (by omega)]
      · rw [if_neg hc, if_neg (by omega)]
  · rw [if_neg hi, h.2 i]
    by_cases hc : a ≤ i ∧ i < a + t
    · rw [if_pos hc, if_pos (by omega)]
    · rw [if_neg hc, if_neg (by omega)]

/-- bytes with d bits of v behind the first m -/
theorem put_done {l l' : List UInt8} {m v d : Nat} (hs : soundB l m = true) (h : Wrote (l ++ (List.replicate (nb (m + d)) 0).drop l.length) l' m v d d) : l' = pack (bitl l m ++ valB v d) := by
  obtain ⟨_, hl, hz⟩ := (soundB_iff l m).1 hs
  rw [Int.toNat_natCast] at hl hz
  have hlen : (l ++ (List.replicate (nb (m + d)) (0 : UInt8)).drop l.length).length = nb (m + d) := by
    rw [List.length_append, List.length_drop, List.length_replicate, hl]; unfold nb; omega
  apply bytes_ext
  · rw [h.1, hlen, pack_length, List.length_append, bitl_length, valB_length]
  · intro i _
    rw [h.2 i, bt_pack]
    have hap : (bitl l m ++ valB v d).getD i false = if i < m then bt l i else (valB v d).getD (i - m) false := by
      simp only [List.getD_eq_getElem?_getD]
      by_cases hi : i < m
      · rw [List.getElem?_append_left (by rw [bitl_length]; exact hi), if_pos hi, ← List.getD_eq_getElem?_getD, bitl_get, if_pos hi]
      · rw [List.getElem?_append_right (by rw [bitl_length]; omega), if_neg hi, bitl_length]
    rw [hap, valB_get]
    have hbl : bt (l ++ (List.replicate (nb (m + d)) (0 : UInt8)).drop l.length) i = bt l i := by
      unfold bt
      simp only [List.getD_eq_getElem?_getD]
      by_cases hi : i / 8 < l.length
      · rw [List.getElem?_append_left hi]
      · rw [List.getElem?_append_right (by omega), List.getElem?_eq_none (show l.length ≤ i / 8 by omega), List.getElem?_drop, List.getElem?_replicate]
        split <;> simp
    by_cases hi : i < m
    · rw [if_neg (by omega), if_pos hi, hbl]
    · rw [if_neg hi]
      by_cases hd : i < m + d
      · rw [if_pos ⟨by omega, hd⟩, if_pos (by omega)]
      · rw [if_neg (by omega), if_neg (by omega), hbl, hz i (by omega)]

theorem put_zero {l : List UInt8} {m d : Nat} (hs : soundB l m = true) : ∀ i, m ≤ i → i < m + d → bt (l ++ (List.replicate (nb (m + d)) (0 : UInt8)).drop l.length) i = false := by
  obtain ⟨_, hl, hz⟩ := (soundB_iff l m).1 hs
  rw [Int.toNat_natCast] at hl hz
  intro i hi _
  have hbl : bt (l ++ (List.replicate (nb (m + d)) (0 : UInt8)).drop l.length) i = bt l i := by
    unfold bt
    simp only [List.getD_eq_getElem?_getD]
    by_cases hi : i / 8 < l.length
    · rw [List.getElem?_append_left hi]
    · rw [List.getElem?_append_right (by omega), List.getElem?_eq_none (show l.length ≤ i / 8 by omega), List.getElem?_drop, List.getElem?_replicate]
      split <;> simp
  rw [hbl, hz i hi]

/-- what Put answers: bytes, bits, the error -/
def putSpec (l : List UInt8) (n : Int) (v : Nat) (width : Int) : List UInt8 × Nat × Nat :=
  if soundB l n = false then ([], 0, 11) else if width < 0 ∨ 64 < width then ([], 0, 1) else (pack (bitl l n.toNat ++ valB v width.toNat), n.toNat + width.toNat, 0)

/-- what Get answers: a number, the error -/
def getSpec (l : List UInt8) (n at_ width : Int) : Nat × Nat :=
  if soundB l n = false then (0, 11) else if width < 0 ∨ 64 < width then (0, 1) else if at_ < 0 ∨ n < at_ ∨ n - at_ < width then (0, 10) else (numB (cutl l at_.toNat width.toNat), 0)

/-- what Cut answers: bytes, bits, the error -/
def cutSpec (l : List UInt8) (n a b : Int) : List UInt8 × Nat × Nat :=
  if soundB l n = false then ([], 0, 11) else if a < 0 ∨ b < a ∨ n < b then ([], 0, 10) else (pack (cutl l a.toNat (b - a).toNat), (b - a).toNat, 0)

theorem getSpec_code (l : List UInt8) (n a b : Int) : (getSpec l n a b).2 ≤ 11 := by
  unfold getSpec
  split
  · exact Nat.le_refl _
  · split
    · show 1 ≤ 11; decide
    · split
      · show 10 ≤ 11; decide
      · exact Nat.zero_le _
theorem putSpec_code (l : List UInt8) (n : Int) (v : Nat) (b : Int) : (putSpec l n v b).2.2 ≤ 11 := by
  unfold putSpec
  split
  · exact Nat.le_refl _
  · split
    · show 1 ≤ 11; decide
    · exact Nat.zero_le _
theorem cutSpec_code (l : List UInt8) (n a b : Int) : (cutSpec l n a b).2.2 ≤ 11 := by
  unfold cutSpec
  split
  · exact Nat.le_refl _
  · split
    · show 10 ≤ 11; decide
    · exact Nat.zero_le _

theorem cutl_pack (M : List Bool) (a d : Nat) (h : a + d ≤ M.length) : cutl (pack M) a d = (M.drop a).take d := by
  apply List.ext_getElem
  · rw [cutl_length, List.length_take, List.length_drop]; omega
  · intro i h1 h2
    rw [cutl_length] at h1
    simp only [cutl, List.getElem_map, List.getElem_range, List.getElem_take, List.getElem_drop]
    rw [bt_pack, List.getD_eq_getElem?_getD, List.getElem?_eq_getElem (by omega)]; rfl

theorem valB_split (v W k : Nat) (hk : k ≤ W) : valB v W = valB (v / 2 ^ k) (W - k) ++ valB v k := by
  apply List.ext_getElem
  · rw [List.length_append, valB_length, valB_length, valB_length]; omega
  · intro i h1 h2
    rw [valB_length] at h1
    rw [List.getElem_append]
    split
    · rename_i h
      simp only [valB, List.getElem_map, List.getElem_range]
      rw [Nat.testBit_div_two_pow]
      congr 1
      rw [valB_length] at h
      omega
    · rename_i h
      rw [valB_length] at h
      simp only [valB, List.getElem_map, List.getElem_range, List.length_map, List.length_range]
      congr 1
      omega

theorem valB_zero (v : Nat) : valB v 0 = [] := rfl
theorem valB_eq_iff (v u d : Nat) : valB v d = valB u d ↔ v % 2 ^ d = u % 2 ^ d := by
  constructor
  · intro h
    rw [← numB_valB, h, numB_valB]
  · intro h
    rw [← valB_mod v, h, valB_mod]

theorem pack_eq_iff (a b : List Bool) : (a.length = b.length ∧ pack a = pack b) ↔ a = b :=
  ⟨fun h => pack_inj h.1 h.2, fun h => by rw [h]; exact ⟨rfl, rfl⟩⟩

theorem nb_le (n : Nat) : nb n ≤ n + 1 := by unfold nb; omega
theorem pack_le (M : List Bool) {k : Nat} (h : M.length ≤ k) : (pack M).length ≤ k + 1 := by rw [pack_length]; have := nb_le M.length; omega

/-- bits that are sound are those of a list -/
theorem pack_sound {l : List UInt8} {m : Nat} (h : soundB l m = true) : l = pack (bitl l m) := by
  have h1 := (soundB_iff l m).1 h
  rw [Int.toNat_natCast] at h1
  apply bytes_ext
  · rw [pack_length, bitl_length]; exact h1.2.1
  · intro i _
    rw [bt_pack, bitl_get]
    split
    · rfl
    · exact h1.2.2 i (by omega)

end Go.Proofs.Ytpedobpbpomkaaa

/- Plain mathematics of CRC-32C: a step a bit; a step is linear and loses nothing. -/
namespace Go.Proofs.Ytpedobpbpomkaaa

/-- one bit -/
def cstep (c : Nat) : Nat := if c % 2 = 1 then c / 2 ^^^ 2197175160 else c / 2
/-- so many bits -/
def csteps : Nat → Nat → Nat
  | 0, c => c
  | n + 1, c => csteps n (cstep c)
/-- one byte, all bytes -/
def crcB (c b : Nat) : Nat := csteps 8 (c ^^^ b)
def crcF (c : Nat) (l : List UInt8) : Nat := l.foldl (fun c b => crcB c b.toNat) c
def crcL (l : List UInt8) : Nat := 4294967295 - crcF 4294967295 l

theorem xor_mod2 (a b : Nat) : (a ^^^ b) % 2 = (a % 2 + b % 2) % 2 := by
  have h := @Nat.xor_mod_two_eq_one a b
  omega
theorem xor_div2 (a b : Nat) : (a ^^^ b) / 2 = a / 2 ^^^ b / 2 := Nat.xor_div_two
theorem cstep_xor (a b : Nat) : cstep (a ^^^ b) = cstep a ^^^ cstep b := by
  unfold cstep
  rw [xor_mod2, xor_div2]
  rcases Nat.mod_two_eq_zero_or_one a with ha | ha <;> rcases Nat.mod_two_eq_zero_or_one b with hb | hb
  · rw [ha, hb]; rfl
  · rw [ha, hb]
    rw [if_pos (by decide), if_neg (by decide), if_pos rfl, Nat.xor_assoc]
  · rw [ha, hb]
    rw [if_pos (by decide), if_pos rfl, if_neg (by decide), Nat.xor_assoc, Nat.xor_assoc, Nat.xor_comm (b / 2)]
  · rw [ha, hb]
    rw [if_neg (by decide), if_pos rfl, if_pos rfl, Nat.xor_assoc, Nat.xor_comm (b / 2) 2197175160, ← Nat.xor_assoc 2197175160, Nat.xor_self, Nat.zero_xor]
theorem csteps_xor (n : Nat) : ∀ a b, csteps n (a ^^^ b) = csteps n a ^^^ csteps n b := by
  induction n with
  | zero => intro a b; rfl
  | succ n ih => intro a b; unfold csteps; rw [cstep_xor, ih]
theorem csteps_add (m n c : Nat) : csteps (m + n) c = csteps n (csteps m c) := by
  induction m generalizing c with
  | zero => rw [Nat.zero_add]; rfl
  | succ m ih => rw [Nat.succ_add]; show csteps (m + n) (cstep c) = _; rw [ih]; rfl
theorem csteps_succ (n c : Nat) : csteps (n + 1) c = cstep (csteps n c) := csteps_add n 1 c
theorem cstep_lt {c : Nat} (h : c < 4294967296) : cstep c < 4294967296 := by
  unfold cstep
  split
  · exact Nat.xor_lt_two_pow (n := 32) (by omega) (by omega)
  · omega
theorem csteps_lt (n : Nat) : ∀ {c : Nat}, c < 4294967296 → csteps n c < 4294967296 := by
  induction n with
  | zero => intro c h; exact h
  | succ n ih => intro c h; exact ih (cstep_lt h)
theorem cstep_zero {c : Nat} (h : c < 4294967296) (h0 : cstep c = 0) : c = 0 := by
  unfold cstep at h0
  split at h0
  · exfalso
    have h1 : c / 2 = 2197175160 := by
      have := congrArg (· ^^^ 2197175160) h0
      simp only [Nat.xor_assoc, Nat.xor_self, Nat.xor_zero, Nat.zero_xor] at this
      exact this
    omega
  · omega
theorem csteps_zero (n : Nat) : ∀ {c : Nat}, c < 4294967296 → csteps n c = 0 → c = 0 := by
  induction n with
  | zero => intro c _ h; exact h
  | succ n ih => intro c h h0; exact cstep_zero h (ih (cstep_lt h) h0)
theorem csteps_nought (n : Nat) : csteps n 0 = 0 := by
  induction n with
  | zero => rfl
  | succ n ih => exact ih
/-- noughts below are but passed over -/
theorem csteps_even (n : Nat) : ∀ k, csteps n (k * 2 ^ n) = k := by
  induction n with
  | zero => intro k; show k * 1 = k; omega
  | succ n ih =>
    intro k
    show csteps n (cstep (k * 2 ^ (n + 1))) = k
    have e : k * 2 ^ (n + 1) = 2 * (k * 2 ^ n) := by rw [Nat.pow_succ, ← Nat.mul_assoc, Nat.mul_comm]
    have : cstep (k * 2 ^ (n + 1)) = k * 2 ^ n := by
      unfold cstep; rw [e, if_neg (by omega)]; omega
    rw [this, ih]
theorem split_byte (c : Nat) : c = c % 256 ^^^ c / 256 * 2 ^ 8 := by
  apply Nat.eq_of_testBit_eq
  intro i
  rw [Nat.testBit_xor, Nat.testBit_mul_two_pow, show (256 : Nat) = 2 ^ 8 from rfl, Nat.testBit_mod_two_pow, Nat.testBit_div_two_pow]
  rcases Nat.lt_or_ge i 8 with h | h
  · simp [h, show ¬ 8 ≤ i by omega]
  · simp [h, show ¬ i < 8 by omega, show 8 ≤ i by omega, Nat.sub_add_cancel h]
/-- by a table -/
theorem crcB_table (c x : Nat) (hx : x < 256) : crcB c x = csteps 8 ((c ^^^ x) % 256) ^^^ c / 256 := by
  unfold crcB
  have h : c ^^^ x = (c ^^^ x) % 256 ^^^ (c / 256) * 2 ^ 8 := by
    have h1 := split_byte (c ^^^ x)
    have h2 : (c ^^^ x) / 256 = c / 256 := by
      rw [show (256 : Nat) = 2 ^ 8 from rfl, Nat.xor_div_two_pow, show x / 2 ^ 8 = 0 from Nat.div_eq_of_lt hx, Nat.xor_zero]
    rw [h2] at h1
    exact h1
  conv => lhs; rw [h]
  rw [csteps_xor, csteps_even]
theorem crcB_lt {c b : Nat} (hc : c < 4294967296) (hb : b < 256) : crcB c b < 4294967296 := csteps_lt 8 (Nat.xor_lt_two_pow (n := 32) hc (by omega))
theorem crcF_lt (l : List UInt8) : ∀ {c : Nat}, c < 4294967296 → crcF c l < 4294967296 := by
  induction l with
  | nil => intro c h; exact h
  | cons b l ih => intro c h; exact ih (crcB_lt h b.toNat_lt)
theorem crcF_append (a b : List UInt8) (c : Nat) : crcF c (a ++ b) = crcF (crcF c a) b := by unfold crcF; rw [List.foldl_append]
theorem crcF_snoc (l : List UInt8) (k : Nat) (h : k < l.length) (c : Nat) : crcF c (l.take (k + 1)) = crcB (crcF c (l.take k)) l[k].toNat := by
  rw [List.take_succ_eq_append_getElem h, crcF_append]; rfl
theorem crcL_lt (l : List UInt8) : crcL l < 4294967296 := by unfold crcL; omega
theorem crcL_inj {a b : List UInt8} : crcL a = crcL b ↔ crcF 4294967295 a = crcF 4294967295 b := by
  have ha := crcF_lt a (c := 4294967295) (by decide)
  have hb := crcF_lt b (c := 4294967295) (by decide)
  unfold crcL
  omega

/-- the sum's difference goes by the bytes' difference -/
theorem crcF_xor (l : List UInt8) : ∀ (m : List UInt8) (c d : Nat), l.length = m.length → crcF c l ^^^ crcF d m = crcF (c ^^^ d) (List.zipWith (· ^^^ ·) l m) := by
  induction l with
  | nil => intro m c d h; cases m with
    | nil => rfl
    | cons => simp at h
  | cons x l ih => intro m c d h; cases m with
    | nil => simp at h
    | cons y m =>
      show crcF (crcB c x.toNat) l ^^^ crcF (crcB d y.toNat) m = crcF (crcB (c ^^^ d) (x ^^^ y).toNat) (List.zipWith (· ^^^ ·) l m)
      rw [ih m _ _ (by simpa using h)]
      congr 1
      unfold crcB
      rw [← csteps_xor, UInt8.toNat_xor]
      congr 1
      rw [Nat.xor_assoc, Nat.xor_assoc, ← Nat.xor_assoc x.toNat, Nat.xor_comm x.toNat d, Nat.xor_assoc d]
theorem xor_eq_zero {a b : Nat} : a ^^^ b = 0 ↔ a = b := by
  constructor
  · intro h
    have := congrArg (· ^^^ b) h
    simpa [Nat.xor_assoc] using this
  · rintro rfl; exact Nat.xor_self _

/-- bytes as a number, the lowest first -/
def crcNum : List UInt8 → Nat
  | [] => 0
  | b :: l => b.toNat + 256 * crcNum l
theorem crcNum_lt (l : List UInt8) : crcNum l < 2 ^ (8 * l.length) := by
  induction l with
  | nil => exact Nat.one_pos
  | cons b l ih =>
    have := b.toNat_lt
    have e : 2 ^ (8 * (b :: l).length) = 256 * 2 ^ (8 * l.length) := by rw [List.length_cons, Nat.mul_succ, Nat.pow_add, Nat.mul_comm]
    rw [e]; unfold crcNum; omega
theorem add_xor (b k : Nat) (hb : b < 256) : b + 256 * k = b ^^^ k * 2 ^ 8 := by
  have h := split_byte (b + 256 * k)
  rw [show (b + 256 * k) % 256 = b by omega, show (b + 256 * k) / 256 = k by omega] at h
  exact h
theorem crcF_num (l : List UInt8) : ∀ c, crcF c l = csteps (8 * l.length) (c ^^^ crcNum l) := by
  induction l with
  | nil => intro c; show c = c ^^^ 0; rw [Nat.xor_zero]
  | cons b l ih =>
    intro c
    show crcF (crcB c b.toNat) l = _
    rw [ih, List.length_cons, Nat.mul_succ, Nat.add_comm, csteps_add]
    congr 1
    show csteps 8 (c ^^^ b.toNat) ^^^ crcNum l = csteps 8 (c ^^^ (b.toNat + 256 * crcNum l))
    rw [add_xor _ _ b.toNat_lt, ← Nat.xor_assoc, csteps_xor 8 (c ^^^ b.toNat), csteps_even]
/-- what lies within 32 bits in a row is told -/
theorem crcF_burst (l : List UInt8) (k s : Nat) (hn : crcNum l = k * 2 ^ s) (hk : k < 4294967296) (hs : s ≤ 8 * l.length) : crcF 0 l = 0 ↔ k = 0 := by
  rw [crcF_num, Nat.zero_xor, hn]
  have e : 8 * l.length = s + (8 * l.length - s) := by omega
  rw [e, csteps_add, csteps_even]
  constructor
  · exact csteps_zero _ hk
  · rintro rfl; exact csteps_nought _

end Go.Proofs.Ytpedobpbpomkaaa

/- Layer 7: frames as bytes: the mathematics. -/
set_option linter.unusedSimpArgs false
set_option linter.unusedVariables false
namespace Go.Proofs.Ytpedobpbpomkaaa

/-- a number in so many bytes, the highest first -/
def be : Nat → Nat → List UInt8
  | 0, _ => []
  | w + 1, v => UInt8.ofNat (v / 256 ^ w % 256) :: be w v
def num (l : List UInt8) : Nat := l.foldl (fun n x => 256 * n + x.toNat) 0
theorem be_len (w v : Nat) : (be w v).length = w := by
  induction w with
  | zero => rfl
  | succ w ih => rw [be, List.length_cons, ih]
theorem be_get (v : Nat) : ∀ (w i : Nat), i < w → (be w v)[i]? = some (UInt8.ofNat (v / 256 ^ (w - 1 - i) % 256))
  | w + 1, 0, _ => by rw [be]; rfl
  | w + 1, i + 1, h => by
    rw [be, List.getElem?_cons_succ, be_get v w i (by omega)]
    congr 4
    rw [show w + 1 - 1 - (i + 1) = w - 1 - i by omega]
theorem num_from (l : List UInt8) : ∀ n, l.foldl (fun n x => 256 * n + x.toNat) n = n * 256 ^ l.length + num l := by
  induction l with
  | nil => intro n; simp [num]
  | cons x l ih =>
    intro n
    have h0 := ih (256 * 0 + x.toNat)
    unfold num at *
    rw [List.foldl_cons, ih, List.foldl_cons, h0, List.length_cons, Nat.pow_succ, Nat.mul_zero, Nat.zero_add, Nat.add_mul, Nat.add_assoc]
    congr 1
    rw [Nat.mul_comm 256 n, Nat.mul_assoc, Nat.mul_comm 256 (256 ^ l.length)]
theorem num_cons (x : UInt8) (l : List UInt8) : num (x :: l) = x.toNat * 256 ^ l.length + num l := by
  have := num_from l (256 * 0 + x.toNat)
  rw [Nat.mul_zero, Nat.zero_add] at this
  unfold num
  rw [List.foldl_cons, Nat.mul_zero, Nat.zero_add]
  exact this
theorem num_append (a b : List UInt8) : num (a ++ b) = num a * 256 ^ b.length + num b := by
  unfold num
  rw [List.foldl_append]
  exact num_from b _
theorem num_snoc {l : List UInt8} {k : Nat} {x : UInt8} (hx : l[k]? = some x) : num (l.take (k + 1)) = 256 * num (l.take k) + x.toNat := by
  obtain ⟨hk, he⟩ := List.getElem?_eq_some_iff.1 hx
  rw [List.take_succ_eq_append_getElem hk, he, num_append, num_cons]
  simp [num]
  omega
theorem num_lt (l : List UInt8) : num l < 256 ^ l.length := by
  induction l with
  | nil => simp [num]
  | cons x l ih =>
    rw [num_cons, List.length_cons, Nat.pow_succ]
    have hx : x.toNat < 256 := x.toNat_lt
    have : x.toNat * 256 ^ l.length + 256 ^ l.length ≤ 256 * 256 ^ l.length := by
      rw [← Nat.succ_mul]; exact Nat.mul_le_mul_right _ hx
    rw [Nat.mul_comm (256 ^ l.length) 256]
    omega
theorem num_be (v : Nat) : ∀ w, num (be w v) = v % 256 ^ w
  | 0 => by simp [be, num, Nat.mod_one]
  | w + 1 => by
    rw [be, num_cons, num_be v w, be_len, Nat.pow_succ]
    have h1 : (UInt8.ofNat (v / 256 ^ w % 256)).toNat = v / 256 ^ w % 256 := by simp
    rw [h1, Nat.mod_mul, Nat.mul_comm, Nat.add_comm]
theorem be_num : ∀ (l : List UInt8) (w : Nat), l.length = w → be w (num l) = l
  | [], 0, _ => rfl
  | x :: l, w + 1, h => by
    have hl : l.length = w := by simpa using h
    have hlt := num_lt l
    rw [hl] at hlt
    rw [be, num_cons, hl]
    have hp : 0 < 256 ^ w := Nat.pow_pos (by decide)
    congr 1
    · rw [Nat.add_comm, Nat.add_mul_div_right _ _ hp, Nat.div_eq_of_lt hlt, Nat.zero_add]
      have := x.toNat_lt
      rw [Nat.mod_eq_of_lt (by omega)]
      simp
    · have key : ∀ k, k ≤ w → be k (x.toNat * 256 ^ w + num l) = be k (num l) := by
        intro k
        induction k with
        | zero => intro _; rfl
        | succ k ih =>
          intro hk
          rw [be, be, ih (by omega)]
          congr 2
          have hpk : 0 < 256 ^ k := Nat.pow_pos (by decide)
          have e : x.toNat * 256 ^ w = x.toNat * 256 ^ (w - k - 1) * 256 * 256 ^ k := by
            rw [Nat.mul_assoc (x.toNat * 256 ^ (w - k - 1)) 256, Nat.mul_comm 256 (256 ^ k), ← Nat.pow_succ, Nat.mul_assoc, ← Nat.pow_add]
            congr 2
            omega
          rw [e, Nat.add_comm, Nat.add_mul_div_right _ _ hpk, Nat.mul_comm _ 256, Nat.add_mul_mod_self_left]
      rw [key w (Nat.le_refl _), be_num l w hl]
theorem be_mod (v : Nat) : ∀ w, be w (v % 256 ^ w) = be w v := fun w => by rw [← num_be v w, be_num _ w (be_len w v)]

/-- cut into parts of such lengths -/
def cutL : List Nat → List UInt8 → List (List UInt8)
  | [], _ => []
  | w :: ws, b => b.take w :: cutL ws (b.drop w)
theorem cutL_flat : ∀ (ws : List Nat) (b : List UInt8), (cutL ws b).flatten = b.take ws.sum
  | [], b => by simp [cutL]
  | w :: ws, b => by
    rw [cutL, List.flatten_cons, cutL_flat ws, List.sum_cons, ← List.take_append_drop w (b.take (w + ws.sum)), List.take_take, List.drop_take]
    congr 2 <;> congr 1 <;> omega
theorem cutL_of : ∀ (ws : List Nat) (ss : List (List UInt8)) (r : List UInt8), ss.map List.length = ws → cutL ws (ss.flatten ++ r) = ss
  | [], [], r, _ => rfl
  | w :: ws, s :: ss, r, h => by
    rw [List.map_cons] at h
    injection h with h1 h2
    rw [cutL, List.flatten_cons, List.append_assoc, ← h1, List.take_left, List.drop_left, cutL_of ws ss r h2]

/-- a frame's fields -/
structure FrD where
  kd : Nat
  ep : Nat
  se : Nat
  fc : Nat
  fb : Nat
  fn : Nat
  cn : Nat
  cl : Bool
  sm : Nat
  l : List UInt8
  n : Int
def FrD.ok (f : FrD) : Prop := f.kd < 256 ∧ f.ep < 4294967296 ∧ f.se < 4294967296 ∧ f.fc < 4294967296 ∧ f.fb < 4294967296 ∧ f.fn < 4294967296 ∧ f.cn < 4294967296 ∧ f.sm < 18446744073709551616 ∧ -9223372036854775808 ≤ f.n ∧ f.n ≤ 9223372036854775807
def zeroF : FrD := ⟨0, 0, 0, 0, 0, 0, 0, false, 0, [], 0⟩
def noneF (f : FrD) : Bool := decide (f.n = 0) && decide (f.l.length = 0)
def emptyF (f : FrD) : Bool := decide (f.cn = 0) && !f.cl && noneF f
def bringF (f : FrD) : Bool := soundB f.l f.n && decide (0 < f.n) && decide (f.fn < f.cn) && decide (f.l.length ≤ 4052)
/-- may a frame be? -/
def mayF (f : FrD) : Bool :=
  if f.kd = 1 then decide (f.se = 0) && decide (f.fc = 0 ∧ f.fb = 0 ∧ f.fn = 0) && decide (f.sm = 0) && emptyF f
  else if f.kd = 4 ∨ f.kd = 5 then emptyF f
  else if f.kd = 2 then bringF f
  else if f.kd = 3 then decide (f.fb = 0) && decide (f.fn = 0) && decide (f.sm = 0) && bringF f
  else false
def segW : List Nat := [2, 1, 4, 4, 4, 4, 4, 4, 1, 8, 4]
def segF (f : FrD) : List (List UInt8) := [[68, 89], be 1 f.kd, be 4 f.ep, be 4 f.se, be 4 f.fc, be 4 f.fb, be 4 f.fn, be 4 f.cn, be 1 (if f.cl then 1 else 0), be 8 f.sm, be 4 f.n.toNat]
theorem segF_len (f : FrD) : (segF f).map List.length = segW := by simp [segF, segW, be_len]
def bodyF (f : FrD) : List UInt8 := (segF f).flatten ++ f.l
/-- its bytes -/
def encF (f : FrD) : List UInt8 := bodyF f ++ be 4 (crcL (bodyF f))
theorem bodyF_len (f : FrD) : (bodyF f).length = 40 + f.l.length := by
  unfold bodyF
  rw [List.length_append, List.length_flatten, segF_len]; rfl
theorem encF_len (f : FrD) : (encF f).length = 44 + f.l.length := by unfold encF; rw [List.length_append, bodyF_len, be_len]; omega

/-- the fields that bytes have -/
def part (b : List UInt8) (i w : Nat) : List UInt8 := (b.drop i).take w
def parF (b : List UInt8) : FrD := ⟨num (part b 2 1), num (part b 3 4), num (part b 7 4), num (part b 11 4), num (part b 15 4), num (part b 19 4), num (part b 23 4), decide (num (part b 27 1) = 1), num (part b 28 8), part b 40 (b.length - 44), (num (part b 36 4) : Nat)⟩
theorem part_len {b : List UInt8} {i w : Nat} (h : i + w ≤ b.length) : (part b i w).length = w := by unfold part; rw [List.length_take, List.length_drop]; omega
theorem cut_parts (b : List UInt8) : cutL segW b = [part b 0 2, part b 2 1, part b 3 4, part b 7 4, part b 11 4, part b 15 4, part b 19 4, part b 23 4, part b 27 1, part b 28 8, part b 36 4] := by
  simp [cutL, segW, part, List.drop_drop]
theorem parF_ok (b : List UInt8) : (parF b).ok := by
  have h := fun i w => num_lt (part b i w)
  have hl : ∀ i w, (part b i w).length ≤ w := fun i w => by unfold part; rw [List.length_take]; omega
  have hp : ∀ i w, num (part b i w) < 256 ^ w := fun i w => Nat.lt_of_lt_of_le (h i w) (Nat.pow_le_pow_right (by decide) (hl i w))
  have a1 := hp 2 1
  have a2 := hp 3 4
  have a3 := hp 7 4
  have a4 := hp 11 4
  have a5 := hp 15 4
  have a6 := hp 19 4
  have a7 := hp 23 4
  have a8 := hp 28 8
  have a9 := hp 36 4
  unfold FrD.ok parF
  simp only
  omega
/-- what bytes say, if their sum is right -/
def goodF (b : List UInt8) : Bool := decide (num (part b 0 2) = 17497) && decide (num (part b 27 1) ≤ 1) && mayF (parF b)
def frontOf (b : List UInt8) : List UInt8 := b.take (b.length - 4)
def backOf (b : List UInt8) : List UInt8 := b.drop (b.length - 4)
/-- what Decode gives: fields, and an error -/
def decF (b : List UInt8) : FrD × Nat :=
  if b.length < 44 ∨ 4096 < b.length then (zeroF, 70)
  else if crcL (frontOf b) ≠ num (backOf b) then (zeroF, 71)
  else if goodF b then (parF b, 0) else (zeroF, 70)
theorem seg_par {b : List UInt8} (h44 : 44 ≤ b.length) : bodyF (parF b) = frontOf b ↔ num (part b 0 2) = 17497 ∧ num (part b 27 1) ≤ 1 := by
  have hfl := cutL_flat segW b
  rw [cut_parts] at hfl
  have hsum : segW.sum = 40 := by decide
  rw [hsum] at hfl
  have hfr : frontOf b = b.take 40 ++ part b 40 (b.length - 44) := by
    unfold frontOf part
    rw [← List.take_append_drop 40 (b.take (b.length - 4)), List.take_take, List.drop_take]
    congr 2 <;> omega
  have hL : (segF (parF b)).flatten.length = 40 := by rw [List.length_flatten, segF_len]; rfl
  have hinj : bodyF (parF b) = frontOf b ↔ segF (parF b) = [part b 0 2, part b 2 1, part b 3 4, part b 7 4, part b 11 4, part b 15 4, part b 19 4, part b 23 4, part b 27 1, part b 28 8, part b 36 4] := by
    rw [hfr, ← hfl]
    unfold bodyF
    constructor
    · intro h
      have h1 := congrArg (cutL segW) h
      rw [cutL_of segW _ _ (segF_len _)] at h1
      rw [h1]
      refine cutL_of segW _ _ ?_
      simp [segW, part_len, h44, show 2 ≤ b.length by omega, show 3 ≤ b.length by omega, show 7 ≤ b.length by omega, show 11 ≤ b.length by omega, show 15 ≤ b.length by omega, show 19 ≤ b.length by omega, show 23 ≤ b.length by omega, show 27 ≤ b.length by omega, show 28 ≤ b.length by omega, show 36 ≤ b.length by omega, show 40 ≤ b.length by omega]
    · intro h
      rw [h]
      congr 1
  rw [hinj]
  have e := fun i w (h : i + w ≤ b.length) => be_num (part b i w) w (part_len h)
  unfold segF
  simp only [parF, Int.toNat_natCast]
  rw [e 2 1 (by omega), e 3 4 (by omega), e 7 4 (by omega), e 11 4 (by omega), e 15 4 (by omega), e 19 4 (by omega), e 23 4 (by omega), e 28 8 (by omega), e 36 4 (by omega)]
  have m0 : [68, 89] = part b 0 2 ↔ num (part b 0 2) = 17497 := by
    have h2 := e 0 2 (by omega)
    constructor
    · intro h; rw [← h]; decide
    · intro h; rw [h] at h2; rw [← h2]; decide
  have m1 : be 1 (if decide (num (part b 27 1) = 1) then 1 else 0) = part b 27 1 ↔ num (part b 27 1) ≤ 1 := by
    have h2 := e 27 1 (by omega)
    constructor
    · intro h
      have := congrArg num h
      rw [num_be] at this
      split at this <;> omega
    · intro h
      rcases Nat.lt_or_ge (num (part b 27 1)) 1 with h3 | h3
      · have h4 : num (part b 27 1) = 0 := by omega
        rw [h4] at h2 ⊢
        rw [← h2]; rfl
      · have h4 : num (part b 27 1) = 1 := by omega
        rw [h4] at h2 ⊢
        rw [← h2]; rfl
  rw [← m0, ← m1]
  simp
theorem enc_par {b : List UInt8} (h44 : 44 ≤ b.length) (hc : crcL (frontOf b) = num (backOf b)) : encF (parF b) = b ↔ num (part b 0 2) = 17497 ∧ num (part b 27 1) ≤ 1 := by
  rw [← seg_par h44]
  have hb : b = frontOf b ++ backOf b := (List.take_append_drop _ _).symm
  have hbl : (backOf b).length = 4 := by unfold backOf; rw [List.length_drop]; omega
  constructor
  · intro h
    have h1 := congrArg frontOf h
    have h2 : frontOf (encF (parF b)) = bodyF (parF b) := by
      unfold frontOf encF
      rw [List.length_append, be_len, Nat.add_sub_cancel, List.take_left]
    rw [h2] at h1
    exact h1
  · intro h
    unfold encF
    rw [h, hc, be_num _ 4 hbl]
    exact hb.symm
theorem front_enc (f : FrD) : frontOf (encF f) = bodyF f := by
  unfold frontOf encF
  rw [List.length_append, be_len, Nat.add_sub_cancel, List.take_left]
theorem back_enc (f : FrD) : backOf (encF f) = be 4 (crcL (bodyF f)) := by
  unfold backOf encF
  rw [List.length_append, be_len, Nat.add_sub_cancel, List.drop_left]
theorem crc_enc (f : FrD) : crcL (frontOf (encF f)) = num (backOf (encF f)) := by
  rw [front_enc, back_enc, num_be, Nat.mod_eq_of_lt (crcL_lt _)]
theorem mayF_n {f : FrD} (h : mayF f = true) : 0 ≤ f.n ∧ f.n ≤ 32416 ∧ f.l.length ≤ 4052 := by
  unfold mayF emptyF noneF bringF at h
  have hs : soundB f.l f.n = true → 0 < f.n → f.l.length ≤ 4052 → f.n ≤ 32416 := by
    intro h1 h2 h3
    unfold soundB nb at h1
    simp [-List.length_eq_zero_iff] at h1
    omega
  split at h
  · simp [-List.length_eq_zero_iff] at h; omega
  · split at h
    · simp [-List.length_eq_zero_iff] at h; omega
    · split at h
      · simp at h
        have := hs h.1.1.1 h.1.1.2 h.2
        omega
      · split at h
        · simp at h
          have := hs h.2.1.1.1 h.2.1.1.2 h.2.2
          omega
        · cases h
theorem par_enc {f : FrD} (ho : f.ok) (hm : mayF f = true) : parF (encF f) = f := by
  obtain ⟨hn0, hn1, hl⟩ := mayF_n hm
  have hcut : cutL segW (encF f) = segF f := by
    unfold encF bodyF
    rw [List.append_assoc]
    exact cutL_of segW _ _ (segF_len f)
  rw [cut_parts] at hcut
  have hlen := encF_len f
  have hrest : part (encF f) 40 ((encF f).length - 44) = f.l := by
    unfold part
    have hL : (segF f).flatten.length = 40 := by rw [List.length_flatten, segF_len]; rfl
    rw [hlen]
    unfold encF bodyF
    rw [List.append_assoc, List.drop_left' hL, show 44 + f.l.length - 44 = f.l.length by omega, List.take_left]
  unfold segF at hcut
  simp only [List.cons.injEq, and_true] at hcut
  obtain ⟨-, h1, h2, h3, h4, h5, h6, h7, h8, h9, h10⟩ := hcut
  obtain ⟨o1, o2, o3, o4, o5, o6, o7, o8, -, -⟩ := ho
  unfold parF
  rw [h1, h2, h3, h4, h5, h6, h7, h8, h9, h10, hrest]
  simp only [num_be]
  obtain ⟨kd, ep, se, fc, fb, fn, cn, cl, sm, l, n⟩ := f
  simp only at *
  rw [Nat.mod_eq_of_lt (show kd < 256 ^ 1 by omega), Nat.mod_eq_of_lt (show ep < 256 ^ 4 by omega), Nat.mod_eq_of_lt (show se < 256 ^ 4 by omega), Nat.mod_eq_of_lt (show fc < 256 ^ 4 by omega), Nat.mod_eq_of_lt (show fb < 256 ^ 4 by omega), Nat.mod_eq_of_lt (show fn < 256 ^ 4 by omega), Nat.mod_eq_of_lt (show cn < 256 ^ 4 by omega), Nat.mod_eq_of_lt (show sm < 256 ^ 8 by omega), Nat.mod_eq_of_lt (show n.toNat < 256 ^ 4 by omega), Int.toNat_of_nonneg hn0]
  cases cl <;> rfl

/-- one other byte has another sum -/
theorem crcF_cancel (l : List UInt8) {c d : Nat} (hc : c < 4294967296) (hd : d < 4294967296) (h : crcF c l = crcF d l) : c = d := by
  have h1 := crcF_xor l l c d rfl
  rw [h, Nat.xor_self] at h1
  have h2 : ∀ (l : List UInt8), List.zipWith (· ^^^ ·) l l = List.replicate l.length 0 := by
    intro l
    induction l with
    | nil => rfl
    | cons x l ih => rw [List.zipWith_cons_cons, ih, List.length_cons, List.replicate_succ]; simp
  rw [h2] at h1
  have h3 : ∀ (n : Nat) (e : Nat), crcF e (List.replicate n 0) = csteps (8 * n) e := by
    intro n
    induction n with
    | zero => intro e; rfl
    | succ n ih =>
      intro e
      rw [List.replicate_succ]
      show crcF (crcB e 0) (List.replicate n 0) = _
      rw [ih, crcB, Nat.xor_zero, ← csteps_add, show 8 + 8 * n = 8 * (n + 1) by omega]
  rw [h3] at h1
  have h4 := csteps_zero _ (Nat.xor_lt_two_pow (n := 32) hc hd) h1.symm
  exact xor_eq_zero.1 h4
theorem crcL_byte {a b : List UInt8} {x y : UInt8} (h : crcL (a ++ x :: b) = crcL (a ++ y :: b)) : x = y := by
  rw [crcL_inj, crcF_append, crcF_append] at h
  have hA := crcF_lt a (c := 4294967295) (by decide)
  have h1 : crcF (crcB (crcF 4294967295 a) x.toNat) b = crcF (crcB (crcF 4294967295 a) y.toNat) b := h
  have hx := x.toNat_lt
  have hy := y.toNat_lt
  have h2 := crcF_cancel b (crcB_lt hA (by omega)) (crcB_lt hA (by omega)) h1
  unfold crcB at h2
  have h3 : csteps 8 (crcF 4294967295 a ^^^ x.toNat ^^^ (crcF 4294967295 a ^^^ y.toNat)) = 0 := by rw [csteps_xor, h2, Nat.xor_self]
  have h4 := csteps_zero _ (Nat.xor_lt_two_pow (n := 32) (Nat.xor_lt_two_pow (n := 32) hA (by omega)) (Nat.xor_lt_two_pow (n := 32) hA (by omega))) h3
  have h5 := xor_eq_zero.1 h4
  have h6 := congrArg (crcF 4294967295 a ^^^ ·) h5
  simp only [← Nat.xor_assoc, Nat.xor_self, Nat.zero_xor] at h6
  exact UInt8.toNat_inj.1 h6
/-- bytes of a frame, one of them another one: are they told? -/
theorem dec_bent {f : FrD} (ho : f.ok) (hm : mayF f = true) {at_ : Nat} {x c : UInt8} (hx : (encF f)[at_]? = some x) : ((decF ((encF f).set at_ c)).2 = 0) ↔ x = c := by
  obtain ⟨ha, hxe⟩ := List.getElem?_eq_some_iff.1 hx
  have hl := encF_len f
  obtain ⟨-, -, hl2⟩ := mayF_n hm
  constructor
  · intro h
    unfold decF at h
    rw [List.length_set, if_neg (by omega)] at h
    by_cases hc : crcL (frontOf ((encF f).set at_ c)) = num (backOf ((encF f).set at_ c))
    · have hfr : frontOf ((encF f).set at_ c) = (frontOf (encF f)).set at_ c := by
        unfold frontOf; rw [List.length_set, List.take_set]
      have hce := crc_enc f
      rcases Nat.lt_or_ge at_ ((encF f).length - 4) with h1 | h1
      · have hbk : backOf ((encF f).set at_ c) = backOf (encF f) := by
          unfold backOf; rw [List.length_set, List.drop_set_of_lt h1]
        rw [hbk, ← hce, hfr] at hc
        have hal : at_ < (frontOf (encF f)).length := by unfold frontOf; rw [List.length_take]; omega
        have hget0 : (frontOf (encF f))[at_]? = some x := by
          unfold frontOf; rw [List.getElem?_take, if_pos h1]; exact hx
        have hget : (frontOf (encF f))[at_] = x := (List.getElem?_eq_some_iff.1 hget0).2
        have e1 : frontOf (encF f) = (frontOf (encF f)).take at_ ++ x :: (frontOf (encF f)).drop (at_ + 1) := by
          conv => lhs; rw [← List.take_append_drop at_ (frontOf (encF f)), List.drop_eq_getElem_cons hal, hget]
        have e2 : (frontOf (encF f)).set at_ c = (frontOf (encF f)).take at_ ++ c :: (frontOf (encF f)).drop (at_ + 1) := List.set_eq_take_append_cons_drop.trans (if_pos hal)
        rw [e2] at hc
        conv at hc => rhs; rw [e1]
        exact (crcL_byte hc).symm
      · have hfs : (frontOf (encF f)).set at_ c = frontOf (encF f) := List.set_eq_of_length_le (by unfold frontOf; rw [List.length_take]; omega)
        rw [hfr, hfs, hce] at hc
        have hb1 : (backOf ((encF f).set at_ c)).length = 4 := by unfold backOf; rw [List.length_drop, List.length_set]; omega
        have hb2 : (backOf (encF f)).length = 4 := by unfold backOf; rw [List.length_drop]; omega
        have h3 := congrArg (be 4) hc
        rw [be_num _ 4 hb1, be_num _ 4 hb2] at h3
        have h4 := congrArg (fun l : List UInt8 => l[at_ - ((encF f).length - 4)]?) h3
        unfold backOf at h4
        rw [List.length_set, List.getElem?_drop, List.getElem?_drop, show (encF f).length - 4 + (at_ - ((encF f).length - 4)) = at_ by omega, hx, List.getElem?_set_self ha] at h4
        injection h4
    · rw [if_pos hc] at h; cases h
  · intro h
    subst h
    rw [show (encF f).set at_ x = encF f by
      refine List.ext_getElem? fun i => ?_
      by_cases e : i = at_
      · subst e; rw [List.getElem?_set_self ha, hx]
      · rw [List.getElem?_set_ne (fun h => e h.symm)]]
    unfold decF
    have hg : goodF (encF f) = true := by
      have hpe := par_enc ho hm
      have h2 := (enc_par (b := encF f) (by omega) (crc_enc f)).1 (by rw [hpe])
      unfold goodF
      rw [hpe, hm, decide_eq_true h2.1, decide_eq_true h2.2]; rfl
    rw [if_neg (by omega), if_neg (by rw [crc_enc]; simp), if_pos hg]
theorem dec_enc {f : FrD} (ho : f.ok) (hm : mayF f = true) : decF (encF f) = (f, 0) := by
  have hl := encF_len f
  obtain ⟨-, -, hl2⟩ := mayF_n hm
  have hpe := par_enc ho hm
  have hg : goodF (encF f) = true := by
    have h2 := (enc_par (b := encF f) (by omega) (crc_enc f)).1 (by rw [hpe])
    unfold goodF
    rw [hpe, hm, decide_eq_true h2.1, decide_eq_true h2.2]; rfl
  unfold decF
  rw [if_neg (by omega), if_neg (by rw [crc_enc]; simp), if_pos hg, hpe]
/-- what is read is written so -/
theorem enc_dec {b : List UInt8} (h : (decF b).2 = 0) : decF b = (parF b, 0) ∧ mayF (parF b) = true ∧ encF (parF b) = b ∧ 44 ≤ b.length ∧ b.length ≤ 4096 := by
  unfold decF at h ⊢
  by_cases h1 : b.length < 44 ∨ 4096 < b.length
  · rw [if_pos h1] at h; cases h
  · rw [if_neg h1] at h ⊢
    by_cases h2 : crcL (frontOf b) ≠ num (backOf b)
    · rw [if_pos h2] at h; cases h
    · rw [if_neg h2] at h ⊢
      by_cases h3 : goodF b = true
      · rw [if_pos h3]
        have hg := h3
        unfold goodF at hg
        simp only [Bool.and_eq_true, decide_eq_true_eq] at hg
        exact ⟨rfl, hg.2, (enc_par (by omega) (Classical.not_not.1 h2)).2 hg.1, by omega, by omega⟩
      · rw [if_neg h3] at h; cases h

end Go.Proofs.Ytpedobpbpomkaaa

/- Layer 11: notes as bytes: the mathematics. -/
set_option linter.unusedSimpArgs false
set_option linter.unusedVariables false
namespace Go.Proofs.Ytpedobpbpomkaaa

/-- a note -/
structure NoD where
  kd : Nat
  ep : Nat
  se : Nat
  st : Int
  sv : Nat
  pc : Nat
  pb : Nat
  pn : Nat
  cn : Nat
  cl : Bool
  l : List UInt8
  n : Int
def NoD.ok (d : NoD) : Prop := d.kd < 256 ∧ d.ep < 4294967296 ∧ d.se < 4294967296 ∧ (-9223372036854775808 ≤ d.st ∧ d.st ≤ 9223372036854775807) ∧ d.sv < 18446744073709551616 ∧ d.pc < 4294967296 ∧ d.pb < 4294967296 ∧ d.pn < 4294967296 ∧ d.cn < 4294967296 ∧ -9223372036854775808 ≤ d.n ∧ d.n ≤ 9223372036854775807
def zeroN : NoD := ⟨0, 0, 0, 0, 0, 0, 0, 0, 0, false, [], 0⟩
def emptyN (d : NoD) : Bool := decide (d.cn = 0) && !d.cl && decide (d.n = 0) && decide (d.l.length = 0)
def bringN (d : NoD) : Bool := soundB d.l d.n && decide (0 < d.n) && decide (d.l.length ≤ 500) && decide (d.pn < d.cn)
/-- may a note be? -/
def mayN (d : NoD) : Bool :=
  if d.kd = 1 then decide (d.se = 0) && decide (d.st = 0 ∧ d.sv = 0) && decide (d.pc = 0 ∧ d.pb = 0 ∧ d.pn = 0) && emptyN d
  else if d.kd = 2 then decide (d.ep = 0) && decide (d.pc = 0 ∧ d.pb = 0 ∧ d.pn = 0) && emptyN d
  else if d.kd = 3 then decide (d.ep = 0) && decide (d.st = 0 ∧ d.sv = 0) && emptyN d
  else if d.kd = 4 then decide (d.ep = 0) && decide (d.st = 0 ∧ d.sv = 0) && bringN d
  else false
/-- int64 as uint64, and back -/
def s64 (t : Int) : Nat := (t % 18446744073709551616).toNat
def i64 (x : Nat) : Int := if x < 9223372036854775808 then x else (x : Int) - 18446744073709551616
theorem s64_lt (t : Int) : s64 t < 18446744073709551616 := by unfold s64; omega
theorem i64_s64 {t : Int} (h : -9223372036854775808 ≤ t ∧ t ≤ 9223372036854775807) : i64 (s64 t) = t := by unfold i64 s64; split <;> omega
theorem s64_i64 {x : Nat} (h : x < 18446744073709551616) : s64 (i64 x) = x := by unfold i64 s64; split <;> omega
theorem i64_in {x : Nat} (h : x < 18446744073709551616) : -9223372036854775808 ≤ i64 x ∧ i64 x ≤ 9223372036854775807 := by unfold i64; split <;> omega

def wN (kd : Nat) : List Nat := if kd = 1 then [1, 4] else if kd = 2 then [1, 4, 8, 8] else if kd = 3 then [1, 4, 4, 4, 4] else [1, 4, 4, 4, 4, 4, 1, 2]
def hdN (kd : Nat) : Nat := if kd = 1 then 5 else if kd = 2 then 21 else if kd = 3 then 17 else 24
theorem wN_sum (kd : Nat) : (wN kd).sum = hdN kd := by unfold wN hdN; split; · rfl
                                                       split; · rfl
                                                       split <;> rfl
def sN (d : NoD) : List (List UInt8) :=
  if d.kd = 1 then [be 1 d.kd, be 4 d.ep]
  else if d.kd = 2 then [be 1 d.kd, be 4 d.se, be 8 (s64 d.st), be 8 d.sv]
  else if d.kd = 3 then [be 1 d.kd, be 4 d.se, be 4 d.pc, be 4 d.pb, be 4 d.pn]
  else [be 1 d.kd, be 4 d.se, be 4 d.pc, be 4 d.pb, be 4 d.pn, be 4 d.cn, be 1 (if d.cl then 1 else 0), be 2 d.n.toNat]
theorem sN_len (d : NoD) : (sN d).map List.length = wN d.kd := by
  unfold sN wN
  split
  · simp [be_len]
  split
  · simp [be_len]
  split <;> simp [be_len]
/-- its bytes (where it may be) -/
def encN (d : NoD) : List UInt8 := (sN d).flatten ++ d.l
theorem sN_flat (d : NoD) : (sN d).flatten.length = hdN d.kd := by rw [List.length_flatten, sN_len, wN_sum]
theorem encN_len (d : NoD) : (encN d).length = hdN d.kd + d.l.length := by unfold encN; rw [List.length_append, sN_flat]
theorem hdN_le (kd : Nat) : 5 ≤ hdN kd ∧ hdN kd ≤ 24 := by unfold hdN; split; · omega
                                                           split; · omega
                                                           split <;> omega

/-- the note that bytes have -/
def parN (b : List UInt8) : NoD :=
  let kd := num (part b 0 1)
  if kd = 1 then ⟨kd, num (part b 1 4), 0, 0, 0, 0, 0, 0, 0, false, b.drop 5, 0⟩
  else if kd = 2 then ⟨kd, 0, num (part b 1 4), i64 (num (part b 5 8)), num (part b 13 8), 0, 0, 0, 0, false, b.drop 21, 0⟩
  else if kd = 3 then ⟨kd, 0, num (part b 1 4), 0, 0, num (part b 5 4), num (part b 9 4), num (part b 13 4), 0, false, b.drop 17, 0⟩
  else ⟨kd, 0, num (part b 1 4), 0, 0, num (part b 5 4), num (part b 9 4), num (part b 13 4), num (part b 17 4), decide (num (part b 21 1) = 1), b.drop 24, (num (part b 22 2) : Nat)⟩
theorem parN_kd (b : List UInt8) : (parN b).kd = num (part b 0 1) := by
  unfold parN
  simp only
  split
  · rfl
  split
  · rfl
  split <;> rfl
theorem parN_l (b : List UInt8) : (parN b).l = b.drop (hdN (num (part b 0 1))) := by
  unfold parN hdN
  simp only
  split
  · rfl
  split
  · rfl
  split <;> rfl
theorem part_lt (b : List UInt8) (i w : Nat) : num (part b i w) < 256 ^ w :=
  Nat.lt_of_lt_of_le (num_lt _) (Nat.pow_le_pow_right (by decide) (by unfold part; rw [List.length_take]; omega))
theorem parN_ok (b : List UInt8) : (parN b).ok := by
  have a0 := part_lt b 0 1
  have a1 := part_lt b 1 4
  have a2 := part_lt b 5 4
  have a3 := part_lt b 9 4
  have a4 := part_lt b 13 4
  have a5 := part_lt b 17 4
  have a6 := part_lt b 22 2
  have a7 := part_lt b 5 8
  have a8 := part_lt b 13 8
  have a9 := i64_in (x := num (part b 5 8)) (by omega)
  unfold parN NoD.ok
  simp only
  split
  · simp only; omega
  split
  · simp only; omega
  split
  · simp only; omega
  · simp only; omega
/-- is all there, and may it be? -/
def goodN (b : List UInt8) : Bool := decide (hdN (num (part b 0 1)) ≤ b.length) && decide (3 < num (part b 0 1) → num (part b 21 1) ≤ 1) && mayN (parN b)
def decN (b : List UInt8) : NoD × Nat := if goodN b then (parN b, 0) else (zeroN, 110)
theorem mayN_kd {d : NoD} (h : mayN d = true) : 1 ≤ d.kd ∧ d.kd ≤ 4 := by
  unfold mayN at h
  split at h
  · omega
  split at h
  · omega
  split at h
  · omega
  split at h
  · omega
  · cases h
theorem mayN_l {d : NoD} (h : mayN d = true) (hk : d.kd ≠ 4) : d.l = [] ∧ d.n = 0 ∧ d.cn = 0 ∧ d.cl = false := by
  have he : emptyN d = true := by
    unfold mayN at h
    split at h
    · simp only [Bool.and_eq_true] at h; exact h.2
    split at h
    · simp only [Bool.and_eq_true] at h; exact h.2
    split at h
    · simp only [Bool.and_eq_true] at h; exact h.2
    first | (cases h; done) | (split at h; · omega
                               · cases h)
  unfold emptyN at he
  simp only [Bool.and_eq_true, decide_eq_true_iff, Bool.not_eq_true', List.length_eq_zero_iff] at he
  exact ⟨he.2, he.1.2, he.1.1.1, he.1.1.2⟩
theorem mayN_4 {d : NoD} (h : mayN d = true) (hk : d.kd = 4) : d.ep = 0 ∧ d.st = 0 ∧ d.sv = 0 ∧ d.l.length = nb d.n.toNat ∧ 0 < d.n ∧ d.n ≤ 4000 ∧ d.l.length ≤ 500 := by
  unfold mayN at h
  rw [hk] at h
  simp only [bringN, Bool.and_eq_true, decide_eq_true_iff, if_true, if_false, Nat.reduceEqDiff] at h
  obtain ⟨⟨h1, h2⟩, ⟨⟨h3, h4⟩, h5⟩, h6⟩ := h
  rw [soundB_iff] at h3
  have h7 := h3.2.1
  refine ⟨h1, h2.1, h2.2, h7, h4, ?_, h5⟩
  unfold nb at h7
  omega
theorem cut_par (b : List UInt8) : cutL (wN 1) b = [part b 0 1, part b 1 4] ∧ cutL (wN 2) b = [part b 0 1, part b 1 4, part b 5 8, part b 13 8] ∧ cutL (wN 3) b = [part b 0 1, part b 1 4, part b 5 4, part b 9 4, part b 13 4] ∧ cutL (wN 4) b = [part b 0 1, part b 1 4, part b 5 4, part b 9 4, part b 13 4, part b 17 4, part b 21 1, part b 22 2] := by
  simp [cutL, wN, part, List.drop_drop]
theorem encN_cut (d : NoD) : cutL (wN d.kd) (encN d) = sN d ∧ (encN d).drop (hdN d.kd) = d.l := by
  unfold encN
  exact ⟨cutL_of _ _ _ (sN_len d), List.drop_left' (sN_flat d)⟩
theorem encN_kd (d : NoD) (h : d.kd < 256) : num (part (encN d) 0 1) = d.kd := by
  have h0 : part (encN d) 0 1 = be 1 d.kd := by
    have h1 := (encN_cut d).1
    have h2 : ∃ r, sN d = be 1 d.kd :: r := by
      unfold sN
      split
      · exact ⟨_, rfl⟩
      split
      · exact ⟨_, rfl⟩
      split <;> exact ⟨_, rfl⟩
    have h3 : ∃ r, cutL (wN d.kd) (encN d) = part (encN d) 0 1 :: r := by
      unfold wN
      split
      · exact ⟨_, rfl⟩
      split
      · exact ⟨_, rfl⟩
      split <;> exact ⟨_, rfl⟩
    obtain ⟨r, hr⟩ := h2
    obtain ⟨q, hq⟩ := h3
    rw [hr, hq] at h1
    injection h1
  rw [h0, num_be, Nat.mod_eq_of_lt (by omega)]
theorem parN_enc {d : NoD} (ho : d.ok) (hm : mayN d = true) : parN (encN d) = d ∧ (3 < d.kd → num (part (encN d) 21 1) ≤ 1) := by
  obtain ⟨o1, o2, o3, o4, o5, o6, o7, o8, o9, o10⟩ := ho
  obtain ⟨hcut, hdrop⟩ := encN_cut d
  have hk := encN_kd d o1
  have hkk := mayN_kd hm
  obtain ⟨c1, c2, c3, c4⟩ := cut_par (encN d)
  have hnl := mayN_l hm
  have h4 := mayN_4 hm
  generalize hb : encN d = b at *
  obtain ⟨kd, ep, se, st, sv, pc, pb, pn, cn, cl, l, n⟩ := d
  simp only at *
  unfold mayN at hm
  simp only at hm
  rcases (show kd = 1 ∨ kd = 2 ∨ kd = 3 ∨ kd = 4 by omega) with rfl | rfl | rfl | rfl
  · obtain ⟨rfl, rfl, rfl, rfl⟩ := hnl (by decide)
    rw [c1] at hcut
    simp only [sN, if_true, List.cons.injEq, and_true] at hcut
    simp only [if_true, Bool.and_eq_true, decide_eq_true_iff] at hm
    obtain ⟨⟨⟨rfl, rfl, rfl⟩, rfl, rfl, rfl⟩, -⟩ := hm
    unfold parN
    rw [hk]
    simp only [if_true]
    rw [hcut.2, num_be, Nat.mod_eq_of_lt (by omega), show b.drop 5 = [] from hdrop]
    exact ⟨rfl, by omega⟩
  · obtain ⟨rfl, rfl, rfl, rfl⟩ := hnl (by decide)
    rw [c2] at hcut
    simp only [sN, if_true, List.cons.injEq, and_true, Nat.reduceEqDiff, if_false] at hcut
    simp only [if_true, Bool.and_eq_true, decide_eq_true_iff, Nat.reduceEqDiff, if_false] at hm
    obtain ⟨⟨rfl, rfl, rfl, rfl⟩, -⟩ := hm
    unfold parN
    rw [hk]
    simp only [if_true, Nat.reduceEqDiff, if_false]
    rw [hcut.2.1, hcut.2.2.1, hcut.2.2.2, num_be, num_be, num_be, Nat.mod_eq_of_lt (by omega), Nat.mod_eq_of_lt (by have := s64_lt st; omega), Nat.mod_eq_of_lt (by omega), i64_s64 o4, show b.drop 21 = [] from hdrop]
    exact ⟨rfl, by omega⟩
  · obtain ⟨rfl, rfl, rfl, rfl⟩ := hnl (by decide)
    rw [c3] at hcut
    simp only [sN, if_true, List.cons.injEq, and_true, if_false, Nat.reduceEqDiff] at hcut
    simp only [if_true, Bool.and_eq_true, decide_eq_true_iff, if_false, Nat.reduceEqDiff] at hm
    obtain ⟨⟨rfl, rfl, rfl⟩, -⟩ := hm
    unfold parN
    rw [hk]
    simp only [if_true, if_false, Nat.reduceEqDiff]
    rw [hcut.2.1, hcut.2.2.1, hcut.2.2.2.1, hcut.2.2.2.2, num_be, num_be, num_be, num_be, Nat.mod_eq_of_lt (by omega), Nat.mod_eq_of_lt (by omega), Nat.mod_eq_of_lt (by omega), Nat.mod_eq_of_lt (by omega), show b.drop 17 = [] from hdrop]
    exact ⟨rfl, by omega⟩
  · obtain ⟨rfl, rfl, rfl, e1, e2, e3, e4⟩ := h4 rfl
    rw [c4] at hcut
    simp only [sN, List.cons.injEq, and_true, if_false, Nat.reduceEqDiff] at hcut
    unfold parN
    rw [hk]
    simp only [if_false, Nat.reduceEqDiff]
    obtain ⟨-, q1, q2, q3, q4, q5, q6, q7⟩ := hcut
    rw [q1, q2, q3, q4, q5, q6, q7]
    simp only [num_be]
    rw [Nat.mod_eq_of_lt (show se < 256 ^ 4 by omega), Nat.mod_eq_of_lt (show pc < 256 ^ 4 by omega), Nat.mod_eq_of_lt (show pb < 256 ^ 4 by omega), Nat.mod_eq_of_lt (show pn < 256 ^ 4 by omega), Nat.mod_eq_of_lt (show cn < 256 ^ 4 by omega), Nat.mod_eq_of_lt (show n.toNat < 256 ^ 2 by omega), Int.toNat_of_nonneg (by omega), show b.drop 24 = l from hdrop]
    refine ⟨?_, fun _ => by cases cl <;> simp⟩
    cases cl <;> rfl
theorem encN_par {b : List UInt8} (h : goodN b = true) : encN (parN b) = b := by
  unfold goodN at h
  simp only [Bool.and_eq_true, decide_eq_true_iff] at h
  obtain ⟨⟨h1, h2⟩, h3⟩ := h
  have hkk := mayN_kd h3
  rw [parN_kd] at hkk
  obtain ⟨c1, c2, c3, c4⟩ := cut_par b
  have e := fun i w (h : i + w ≤ b.length) => be_num (part b i w) w (part_len h)
  have hs : sN (parN b) = cutL (wN (num (part b 0 1))) b := by
    obtain ⟨k, hk⟩ : ∃ k, k = num (part b 0 1) := ⟨_, rfl⟩
    have e0 := e 0 1
    unfold sN parN
    rw [← hk] at h1 h2 hkk e0 ⊢
    clear hk h3
    rcases (show k = 1 ∨ k = 2 ∨ k = 3 ∨ k = 4 by omega) with rfl | rfl | rfl | rfl
    · have h1 : 5 ≤ b.length := h1
      rw [c1]
      simp only [if_true]
      rw [e0 (by omega), e 1 4 (by omega)]
    · have h1 : 21 ≤ b.length := h1
      rw [c2]
      simp only [if_true, Nat.reduceEqDiff, if_false]
      rw [e0 (by omega), e 1 4 (by omega), s64_i64 (part_lt b 5 8), e 5 8 (by omega), e 13 8 (by omega)]
    · have h1 : 17 ≤ b.length := h1
      rw [c3]
      simp only [if_true, if_false, Nat.reduceEqDiff]
      rw [e0 (by omega), e 1 4 (by omega), e 5 4 (by omega), e 9 4 (by omega), e 13 4 (by omega)]
    · have h1 : 24 ≤ b.length := h1
      rw [c4]
      simp only [if_false, Nat.reduceEqDiff]
      have hcl : be 1 (if decide (num (part b 21 1) = 1) then 1 else 0) = part b 21 1 := by
        have h5 := e 21 1 (by omega)
        have h6 := h2 (by omega)
        rcases Nat.lt_or_ge (num (part b 21 1)) 1 with h7 | h7
        · have h8 : num (part b 21 1) = 0 := by omega
          rw [h8] at h5 ⊢; exact h5
        · have h8 : num (part b 21 1) = 1 := by omega
          rw [h8] at h5 ⊢; exact h5
      rw [e0 (by omega), e 1 4 (by omega), e 5 4 (by omega), e 9 4 (by omega), e 13 4 (by omega), e 17 4 (by omega), hcl, Int.toNat_natCast, e 22 2 (by omega)]
  unfold encN
  rw [hs, cutL_flat, wN_sum, parN_l, List.take_append_drop]
theorem decN_enc {d : NoD} (ho : d.ok) (hm : mayN d = true) : decN (encN d) = (d, 0) ∧ goodN (encN d) = true := by
  obtain ⟨h1, h2⟩ := parN_enc ho hm
  have hk := encN_kd d ho.1
  have hl := encN_len d
  have hg : goodN (encN d) = true := by
    unfold goodN
    rw [hk, h1, hm]
    simp only [Bool.and_eq_true, decide_eq_true_iff, and_true]
    exact ⟨by omega, h2⟩
  unfold decN
  rw [hg, h1]
  exact ⟨rfl, rfl⟩
theorem encN_dec {b : List UInt8} (h : (decN b).2 = 0) : decN b = (parN b, 0) ∧ mayN (parN b) = true ∧ encN (parN b) = b := by
  unfold decN at h ⊢
  rcases hg : goodN b with _ | _
  · rw [hg] at h; cases h
  · refine ⟨by simp, ?_, encN_par hg⟩
    unfold goodN at hg
    simp only [Bool.and_eq_true] at hg
    exact hg.2
theorem decN_two (b : List UInt8) : (decN b).2 = 0 ∨ decN b = (zeroN, 110) := by
  unfold decN
  split <;> simp
/-- a front of it is none -/
theorem decN_front {d : NoD} (ho : d.ok) (hm : mayN d = true) {k : Nat} (hk : k < (encN d).length) : (decN ((encN d).take k)).2 = 110 := by
  rcases decN_two ((encN d).take k) with h | h
  · exfalso
    obtain ⟨h1, h2, h3⟩ := encN_dec h
    have h4 := encN_len (parN ((encN d).take k))
    have hkk := mayN_kd h2
    rw [h3, List.length_take, Nat.min_eq_left (by omega)] at h4
    have hle := hdN_le (parN ((encN d).take k)).kd
    have hp : part ((encN d).take k) 0 1 = part (encN d) 0 1 := by
      unfold part
      rw [List.drop_zero, List.drop_zero, List.take_take, Nat.min_eq_left (by omega)]
    have hkd : (parN ((encN d).take k)).kd = d.kd := by rw [parN_kd, hp, encN_kd d ho.1]
    have h5 := encN_len d
    rw [hkd] at h4 hkk
    by_cases h44 : d.kd = 4
    · have h6 := mayN_4 hm h44
      have h7 := mayN_4 h2 (by rw [hkd, h44])
      have hn : (parN ((encN d).take k)).n = d.n := by
        have hd := (parN_enc ho hm).1
        have e1 : (parN ((encN d).take k)).n = (num (part ((encN d).take k) 22 2) : Nat) := by
          unfold parN; rw [hp, encN_kd d ho.1, h44]; rfl
        have e2 : (parN (encN d)).n = (num (part (encN d) 22 2) : Nat) := by
          unfold parN; rw [encN_kd d ho.1, h44]; rfl
        rw [hd] at e2
        rw [e1, e2]
        have : part ((encN d).take k) 22 2 = part (encN d) 22 2 := by
          unfold part
          rw [List.drop_take, List.take_take, Nat.min_eq_left]
          rw [h44] at h4
          have : hdN 4 = 24 := rfl
          omega
        rw [this]
      have e6 := h6.2.2.2.1
      have e7 := h7.2.2.2.1
      rw [hn] at e7
      omega
    · have h6 := (mayN_l hm h44).1
      have h7 := (mayN_l h2 (by rw [hkd]; exact h44)).1
      rw [h6] at h5
      rw [h7] at h4
      simp only [List.length_nil] at h4 h5
      omega
  · rw [h]

/-- the document's reading: noughts behind the end -/
def numP (b : List UInt8) (i w : Nat) : Nat := num (part b i w) * 256 ^ (w - (part b i w).length)
theorem numP_lt (b : List UInt8) (i w : Nat) : numP b i w < 256 ^ w := by
  unfold numP
  have h1 := num_lt (part b i w)
  have h2 : (part b i w).length ≤ w := by unfold part; rw [List.length_take]; omega
  calc num (part b i w) * 256 ^ (w - (part b i w).length) < 256 ^ (part b i w).length * 256 ^ (w - (part b i w).length) := Nat.mul_lt_mul_of_pos_right h1 (Nat.pow_pos (by decide))
    _ = 256 ^ w := by rw [← Nat.pow_add]; congr 1; omega
theorem numP_full {b : List UInt8} {i w : Nat} (h : i + w ≤ b.length) : numP b i w = num (part b i w) := by
  unfold numP
  rw [part_len h, Nat.sub_self, Nat.pow_zero, Nat.mul_one]
def parP (b : List UInt8) : NoD :=
  let kd := num (part b 0 1)
  if kd = 1 then ⟨kd, numP b 1 4, 0, 0, 0, 0, 0, 0, 0, false, [], 0⟩
  else if kd = 2 then ⟨kd, 0, numP b 1 4, i64 (numP b 5 8), numP b 13 8, 0, 0, 0, 0, false, [], 0⟩
  else if kd = 3 then ⟨kd, 0, numP b 1 4, 0, 0, numP b 5 4, numP b 9 4, numP b 13 4, 0, false, [], 0⟩
  else if kd = 4 then ⟨kd, 0, numP b 1 4, 0, 0, numP b 5 4, numP b 9 4, numP b 13 4, numP b 17 4, decide (numP b 21 1 = 1), b.drop 24, (numP b 22 2 : Nat)⟩
  else ⟨kd, 0, numP b 1 4, 0, 0, 0, 0, 0, 0, false, [], 0⟩
theorem parP_ok (b : List UInt8) : (parP b).ok := by
  have a0 := part_lt b 0 1
  have a1 := numP_lt b 1 4
  have a2 := numP_lt b 5 4
  have a3 := numP_lt b 9 4
  have a4 := numP_lt b 13 4
  have a5 := numP_lt b 17 4
  have a6 := numP_lt b 22 2
  have a7 := numP_lt b 5 8
  have a8 := numP_lt b 13 8
  have a9 := i64_in (x := numP b 5 8) (by omega)
  unfold parP NoD.ok
  simp only
  split
  · simp only; omega
  split
  · simp only; omega
  split
  · simp only; omega
  split
  · simp only; omega
  · simp only; omega
theorem parP_good {b : List UInt8} (h : goodN b = true) : parP b = parN b := by
  unfold goodN at h
  simp only [Bool.and_eq_true, decide_eq_true_iff] at h
  obtain ⟨⟨h1, h2⟩, h3⟩ := h
  have hkk := mayN_kd h3
  have hnl := mayN_l h3
  rw [parN_kd] at hkk hnl
  have hl := parN_l b
  obtain ⟨k, hk⟩ : ∃ k, k = num (part b 0 1) := ⟨_, rfl⟩
  unfold parP parN
  rw [← hk] at h1 hkk hnl hl ⊢
  clear hk
  rcases (show k = 1 ∨ k = 2 ∨ k = 3 ∨ k = 4 by omega) with rfl | rfl | rfl | rfl
  · have h1 : 5 ≤ b.length := h1
    rw [(hnl (by decide)).1] at hl
    simp only [if_true]
    rw [numP_full (by omega), show b.drop 5 = [] from hl.symm]
  · have h1 : 21 ≤ b.length := h1
    rw [(hnl (by decide)).1] at hl
    simp only [if_true, Nat.reduceEqDiff, if_false]
    rw [numP_full (by omega), numP_full (by omega), numP_full (by omega), show b.drop 21 = [] from hl.symm]
  · have h1 : 17 ≤ b.length := h1
    rw [(hnl (by decide)).1] at hl
    simp only [if_true, if_false, Nat.reduceEqDiff]
    rw [numP_full (by omega), numP_full (by omega), numP_full (by omega), numP_full (by omega), show b.drop 17 = [] from hl.symm]
  · have h1 : 24 ≤ b.length := h1
    simp only [if_true, if_false, Nat.reduceEqDiff]
    rw [numP_full (by omega), numP_full (by omega), numP_full (by omega), numP_full (by omega), numP_full (by omega), numP_full (by omega), numP_full (by omega)]
/-- the document's Decode -/
theorem decN_doc (b : List UInt8) : decN b = if mayN (parP b) = true ∧ encN (parP b) = b then (parP b, 0) else (zeroN, 110) := by
  split
  · rename_i h
    have := (decN_enc (parP_ok b) h.1).1
    rw [h.2] at this
    exact this
  · rename_i h
    unfold decN
    rcases hg : goodN b with _ | _
    · rfl
    · exfalso
      have hp := parP_good hg
      have he := encN_par hg
      have hm : mayN (parN b) = true := by unfold goodN at hg; simp only [Bool.and_eq_true] at hg; exact hg.2
      exact h ⟨by rw [hp]; exact hm, by rw [hp]; exact he⟩
theorem decN_nil : decN [] = (zeroN, 110) := by
  rcases decN_two [] with h | h
  · have := encN_len (parN [])
    rw [(encN_dec h).2.2] at this
    have h2 := hdN_le (parN []).kd
    rw [List.length_nil] at this
    omega
  · exact h

end Go.Proofs.Ytpedobpbpomkaaa
