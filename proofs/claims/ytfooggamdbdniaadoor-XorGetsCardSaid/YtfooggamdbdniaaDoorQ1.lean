/- Joined: Math, Base, Gen, Ext, Up, Frame0, ShelfB, FrameX, Own, Frame, Frs. -/
import Derived.Test.YtfooggamdbdniaaDoorRows
import Derived.WalkKit
import Derived.WalkSpells
import Derived.WalkLawsBesides
import Derived.Lib.Hide
import Derived.Deep.QuietTactic
import Derived.BigQuiet
import Derived.Laws.CopyOwn
import Derived.Laws.IdiomStrings
import Derived.Laws.BytesArg
import Derived.Laws.StructEq
import Derived.MapKept
import Derived.Laws.Rows
import Derived.Laws.ResultCell
import Derived.ProofKit
import Derived.OpenShut
import Derived.Lib.SmallJoins
import Derived.Carry
import Derived.Shelf.Small.Bits
import Derived.Shelf.Strconv.Itoa0
import Derived.Shelf.Spec.TrailingZeros
import Derived.Test.YtfooggamdbdniaaDoorProg
import Derived.LaidMore
import Derived.MakeChecks
import Derived.Lib.LaidTab
import Derived.Deep.Fields
import Derived.Stop.Joined
import Derived.StillTail
set_option linter.unusedSimpArgs false
set_option linter.unusedVariables false
/-
  Plain mathematics of bit strings: bits of a list of bytes, bytes of a list of bits, numbers of a list of bits. Imports nothing of the program.
-/
namespace Go.Proofs.YtfooggamdbdniaaDoor

theorem snoc_ind {α : Type} {P : List α → Prop} (h0 : P []) (h1 : ∀ l a, P l → P (l ++ [a])) (l : List α) : P l := by
  rw [← List.reverse_reverse l]
  induction l.reverse with
  | nil => exact h0
  | cons a r ih => rw [List.reverse_cons]; exact h1 _ _ ih

/-- how many bytes so many bits take -/
def nb (n : Nat) : Nat := (n + 7) / 8

/-- bit number i, the highest of each byte first -/
def bt (l : List UInt8) (i : Nat) : Bool := (l.getD (i / 8) 0).toNat.testBit (7 - i % 8)

/-- the first n bits -/
def bitl (l : List UInt8) (n : Nat) : List Bool := (List.range n).map (bt l)

def b2n (b : Bool) : Nat := if b then 1 else 0
def b2u (b : Bool) : UInt8 := if b then 1 else 0

/-- a byte of eight bits, the highest first -/
def byteOf (f : Nat → Bool) : Nat :=
  b2n (f 0) * 128 + b2n (f 1) * 64 + b2n (f 2) * 32 + b2n (f 3) * 16 + b2n (f 4) * 8 + b2n (f 5) * 4 + b2n (f 6) * 2 + b2n (f 7)

/-- the bytes of a list of bits -/
def pack (bs : List Bool) : List UInt8 := (List.range (nb bs.length)).map fun k => UInt8.ofNat (byteOf fun j => bs.getD (8 * k + j) false)

theorem b2u_toNat (b : Bool) : (b2u b).toNat = b2n b := by cases b <;> rfl
theorem b2n_le (b : Bool) : b2n b ≤ 1 := by cases b <;> decide

theorem byteOf_lt (f : Nat → Bool) : byteOf f < 256 := by
  have := b2n_le (f 0); have := b2n_le (f 1); have := b2n_le (f 2); have := b2n_le (f 3)
  have := b2n_le (f 4); have := b2n_le (f 5); have := b2n_le (f 6); have := b2n_le (f 7)
  unfold byteOf; omega

def eight (a0 a1 a2 a3 a4 a5 a6 a7 : Bool) : Nat := b2n a0 * 128 + b2n a1 * 64 + b2n a2 * 32 + b2n a3 * 16 + b2n a4 * 8 + b2n a5 * 4 + b2n a6 * 2 + b2n a7
theorem eight_bits : ∀ a0 a1 a2 a3 a4 a5 a6 a7 : Bool, (eight a0 a1 a2 a3 a4 a5 a6 a7).testBit 7 = a0 ∧ (eight a0 a1 a2 a3 a4 a5 a6 a7).testBit 6 = a1 ∧ (eight a0 a1 a2 a3 a4 a5 a6 a7).testBit 5 = a2 ∧ (eight a0 a1 a2 a3 a4 a5 a6 a7).testBit 4 = a3 ∧
    (eight a0 a1 a2 a3 a4 a5 a6 a7).testBit 3 = a4 ∧ (eight a0 a1 a2 a3 a4 a5 a6 a7).testBit 2 = a5 ∧ (eight a0 a1 a2 a3 a4 a5 a6 a7).testBit 1 = a6 ∧ (eight a0 a1 a2 a3 a4 a5 a6 a7).testBit 0 = a7 := by decide
theorem byteOf_bit (f : Nat → Bool) (j : Nat) (hj : j < 8) : (byteOf f).testBit (7 - j) = f j := by
  have e : byteOf f = eight (f 0) (f 1) (f 2) (f 3) (f 4) (f 5) (f 6) (f 7) := rfl
  rw [e]
  obtain ⟨h0, h1, h2, h3, h4, h5, h6, h7⟩ := eight_bits (f 0) (f 1) (f 2) (f 3) (f 4) (f 5) (f 6) (f 7)
  match j, hj with
  | 0, _ => exact h0
  | 1, _ => exact h1
  | 2, _ => exact h2
  | 3, _ => exact h3
  | 4, _ => exact h4
  | 5, _ => exact h5
  | 6, _ => exact h6
  | 7, _ => exact h7

theorem pack_length (bs : List Bool) : (pack bs).length = nb bs.length := by simp [pack]

theorem bitl_length (l : List UInt8) (n : Nat) : (bitl l n).length = n := by simp [bitl]

theorem bt_pack (bs : List Bool) (i : Nat) : bt (pack bs) i = bs.getD i false := by
  unfold bt
  by_cases h : i / 8 < nb bs.length
  · have e : (pack bs).getD (i / 8) 0 = UInt8.ofNat (byteOf fun j => bs.getD (8 * (i / 8) + j) false) := by
      simp [pack, List.getD_eq_getElem?_getD, h]
    rw [e, UInt8.toNat_ofNat_of_lt' (byteOf_lt _), byteOf_bit _ _ (by omega)]
    congr 1; omega
  · have e : (pack bs).getD (i / 8) 0 = 0 := by
      rw [List.getD_eq_getElem?_getD, List.getElem?_eq_none (by rw [pack_length]; omega)]; rfl
    rw [e]
    have : bs.getD i false = false := by
      rw [List.getD_eq_getElem?_getD, List.getElem?_eq_none (by unfold nb at h; omega)]; rfl
    rw [this]; simp

theorem bitl_succ (l : List UInt8) (n : Nat) : bitl l (n + 1) = bitl l n ++ [bt l n] := by simp [bitl, List.range_succ]

theorem bt_none (l : List UInt8) (i : Nat) (h : 8 * l.length ≤ i) : bt l i = false := by
  unfold bt
  rw [List.getD_eq_getElem?_getD, List.getElem?_eq_none (by omega)]; simp

/-- bytes are alike if their bits are -/
theorem bytes_ext {l l' : List UInt8} (hl : l.length = l'.length) (h : ∀ i, i < 8 * l.length → bt l i = bt l' i) : l = l' := by
  apply List.ext_getElem hl
  intro k h1 h2
  apply UInt8.toNat_inj.1
  apply Nat.eq_of_testBit_eq
  intro j
  by_cases hj : j < 8
  · have := h (8 * k + (7 - j)) (by omega)
    unfold bt at this
    rw [show (8 * k + (7 - j)) / 8 = k by omega, show 7 - (8 * k + (7 - j)) % 8 = j by omega] at this
    simpa [List.getD_eq_getElem?_getD, h1, h2] using this
  · rw [Nat.testBit_lt_two_pow, Nat.testBit_lt_two_pow]
    · have := l'[k].toNat_lt; exact Nat.lt_of_lt_of_le this (Nat.pow_le_pow_right (by decide) (show 8 ≤ j by omega))
    · have := l[k].toNat_lt; exact Nat.lt_of_lt_of_le this (Nat.pow_le_pow_right (by decide) (show 8 ≤ j by omega))

/-- may they be bits? -/
def soundB (l : List UInt8) (n : Int) : Bool :=
  decide (0 ≤ n) && (decide (l.length = nb n.toNat) && (decide (n.toNat % 8 = 0) || decide ((l.getD (l.length - 1) 0).toNat * 2 ^ (n.toNat % 8) % 256 = 0)))

theorem low_zero (x k : Nat) (hk : k < 8) : x * 2 ^ k % 256 = 0 ↔ ∀ j, j < 8 - k → x.testBit j = false := by
  constructor
  · intro h j hj
    have h1 : (x * 2 ^ k % 2 ^ 8).testBit (j + k) = false := by rw [show (2 : Nat) ^ 8 = 256 from rfl, h]; simp
    rw [Nat.testBit_mod_two_pow] at h1
    simpa [Nat.testBit_mul_two_pow, show j + k < 8 by omega] using h1
  · intro h
    apply Nat.eq_of_testBit_eq
    intro i
    rw [show (256 : Nat) = 2 ^ 8 from rfl, Nat.testBit_mod_two_pow, Nat.testBit_mul_two_pow]
    by_cases h8 : i < 8
    · by_cases hki : k ≤ i
      · simp [h (i - k) (by omega)]
      · simp [hki]
    · simp [h8]

theorem soundB_iff (l : List UInt8) (n : Int) : soundB l n = true ↔ 0 ≤ n ∧ l.length = nb n.toNat ∧ ∀ i, n.toNat ≤ i → bt l i = false := by
  unfold soundB
  simp only [Bool.and_eq_true, Bool.or_eq_true, decide_eq_true_eq]
  constructor
  · rintro ⟨h0, hl, h8⟩
    refine ⟨h0, hl, fun i hi => ?_⟩
    by_cases hb : 8 * l.length ≤ i
    · exact bt_none l i hb
    · have hlen : l.length = (n.toNat + 7) / 8 := hl
      rcases h8 with h8 | h8
      · omega
      · by_cases h8z : n.toNat % 8 = 0
        · omega
        · rw [low_zero _ _ (by omega)] at h8
          unfold bt
          rw [show i / 8 = l.length - 1 by omega]
          exact h8 _ (by omega)
  · rintro ⟨h0, hl, h⟩
    refine ⟨h0, hl, ?_⟩
    by_cases h8z : n.toNat % 8 = 0
    · exact .inl h8z
    · right
      have hlen : l.length = (n.toNat + 7) / 8 := hl
      rw [low_zero _ _ (by omega)]
      intro j hj
      have := h (8 * (l.length - 1) + (7 - j)) (by omega)
      unfold bt at this
      rwa [show (8 * (l.length - 1) + (7 - j)) / 8 = l.length - 1 by omega, show 7 - (8 * (l.length - 1) + (7 - j)) % 8 = j by omega] at this

theorem sound_pack (bs : List Bool) : soundB (pack bs) bs.length = true := by
  rw [soundB_iff]
  refine ⟨by omega, by rw [pack_length]; rfl, fun i hi => ?_⟩
  rw [bt_pack, List.getD_eq_getElem?_getD, List.getElem?_eq_none (by omega)]; rfl

theorem bitl_get (l : List UInt8) (n i : Nat) : (bitl l n).getD i false = (if i < n then bt l i else false) := by
  unfold bitl
  rw [List.getD_eq_getElem?_getD, List.getElem?_map]
  by_cases h : i < n
  · simp [h]
  · simp [h]

/-- sound bits are the bytes of their bits -/
theorem pack_bits {l : List UInt8} {n : Nat} (h : soundB l n = true) : pack (bitl l n) = l := by
  rw [soundB_iff] at h
  obtain ⟨_, hl, hz⟩ := h
  apply bytes_ext
  · rw [pack_length, bitl_length, hl]; rfl
  · intro i _
    rw [bt_pack, bitl_get]
    split
    · rfl
    · rename_i hn; exact (hz i (by simpa using hn)).symm

theorem bits_pack (bs : List Bool) : bitl (pack bs) bs.length = bs := by
  apply List.ext_getElem (by simp [bitl_length])
  intro i h1 h2
  simp only [bitl, List.getElem_map, List.getElem_range]
  rw [bt_pack, List.getD_eq_getElem?_getD, List.getElem?_eq_getElem h2]; rfl

theorem pack_inj {a b : List Bool} (hl : a.length = b.length) (h : pack a = pack b) : a = b := by
  rw [← bits_pack a, ← bits_pack b, h, hl]

/-- the number that bits are -/
def numB (bs : List Bool) : Nat := bs.foldl (fun v b => 2 * v + b2n b) 0
/-- the last bits of a number -/
def valB (v width : Nat) : List Bool := (List.range width).map fun i => v.testBit (width - 1 - i)

theorem numB_nil : numB [] = 0 := rfl
theorem numB_snoc (bs : List Bool) (b : Bool) : numB (bs ++ [b]) = 2 * numB bs + b2n b := by simp [numB, List.foldl_append]
theorem valB_length (v n : Nat) : (valB v n).length = n := by simp [valB]
theorem b2n_bit (b : Bool) (j : Nat) : (b2n b).testBit j = (decide (j = 0) && b) := by
  cases b
  · simp [b2n]
  · cases j with
    | zero => rfl
    | succ j => simp [b2n, Nat.testBit_succ]
theorem twice_bit (v : Nat) (b : Bool) (j : Nat) : (2 * v + b2n b).testBit j = if j = 0 then b else v.testBit (j - 1) := by
  cases j with
  | zero => cases b <;> simp [b2n, Nat.testBit_zero] <;> omega
  | succ j =>
    rw [Nat.testBit_succ]
    have := b2n_le b
    rw [show (2 * v + b2n b) / 2 = v by omega]
    simp
theorem testBit_numB (bs : List Bool) : ∀ j, (numB bs).testBit j = if j < bs.length then bs.getD (bs.length - 1 - j) false else false := by
  induction bs using snoc_ind with
  | h0 => intro j; simp [numB]
  | h1 bs b ih =>
    intro j
    rw [numB_snoc, twice_bit]
    by_cases hj : j = 0
    · subst hj; simp
    · rw [if_neg hj, ih]
      simp only [List.length_append, List.length_cons, List.length_nil]
      by_cases h : j - 1 < bs.length
      · rw [if_pos h, if_pos (by omega), List.getD_eq_getElem?_getD, List.getD_eq_getElem?_getD, List.getElem?_append_left (by omega)]
        congr 2; omega
      · rw [if_neg h, if_neg (by omega)]
theorem numB_lt (bs : List Bool) : numB bs < 2 ^ bs.length := by
  induction bs using snoc_ind with
  | h0 => simp [numB]
  | h1 bs b ih =>
    rw [numB_snoc]
    have := b2n_le b
    simp only [List.length_append, List.length_cons, List.length_nil, Nat.pow_succ, Nat.zero_add]
    omega
theorem valB_get (v n i : Nat) : (valB v n).getD i false = if i < n then v.testBit (n - 1 - i) else false := by
  unfold valB
  rw [List.getD_eq_getElem?_getD, List.getElem?_map]
  by_cases h : i < n
  · simp [h]
  · simp [h]
theorem numB_valB (v n : Nat) : numB (valB v n) = v % 2 ^ n := by
  apply Nat.eq_of_testBit_eq
  intro j
  rw [testBit_numB, Nat.testBit_mod_two_pow, valB_length, valB_get]
  by_cases h : j < n
  · rw [if_pos h, if_pos (by omega), show n - 1 - (n - 1 - j) = j by omega]; simp [h]
  · rw [if_neg h]; simp [h]
theorem valB_mod (v n : Nat) : valB (v % 2 ^ n) n = valB v n := by
  unfold valB
  apply List.map_congr_left
  intro i hi
  rw [List.mem_range] at hi
  rw [Nat.testBit_mod_two_pow]; simp; omega
theorem valB_numB (bs : List Bool) : valB (numB bs) bs.length = bs := by
  apply List.ext_getElem (by simp [valB])
  intro i h1 h2
  simp only [valB, List.getElem_map, List.getElem_range]
  rw [testBit_numB, if_pos (by omega), show bs.length - 1 - (bs.length - 1 - i) = i by omega, List.getD_eq_getElem?_getD, List.getElem?_eq_getElem h2]; rfl

theorem bt_set (l : List UInt8) (j : Nat) (x : UInt8) (i : Nat) (hj : j < l.length) : bt (l.set j x) i = if i / 8 = j then x.toNat.testBit (7 - i % 8) else bt l i := by
  unfold bt
  rw [List.getD_eq_getElem?_getD, List.getElem?_set]
  by_cases h : j = i / 8
  · subst h; rw [if_pos rfl, if_pos hj, if_pos rfl]; rfl
  · rw [if_neg h, if_neg (fun e => h e.symm), ← List.getD_eq_getElem?_getD]

theorem bt_snoc (l : List UInt8) (x : UInt8) (i : Nat) : bt (l ++ [x]) i = if i / 8 = l.length then x.toNat.testBit (7 - i % 8) else bt l i := by
  unfold bt
  rw [List.getD_eq_getElem?_getD, List.getD_eq_getElem?_getD]
  by_cases h : i / 8 < l.length
  · rw [List.getElem?_append_left h, if_neg (by omega)]
  · rw [List.getElem?_append_right (by omega)]
    by_cases h2 : i / 8 = l.length
    · rw [if_pos h2, h2]; simp
    · rw [if_neg h2, List.getElem?_eq_none (show l.length ≤ i / 8 by omega), List.getElem?_eq_none (by simp; omega)]

theorem pack_zero (bs : List Bool) (h : bs.length % 8 = 0) : (pack bs ++ [0]).length = bs.length / 8 + 1 := by rw [List.length_append, pack_length]; simp [nb]; omega

theorem shl_byte (b : Bool) (k : Nat) (hk : k < 8) : b2n b * 2 ^ k < 256 := by
  have h1 := b2n_le b
  have h2 : 2 ^ k ≤ 2 ^ 7 := Nat.pow_le_pow_right (by decide) (by omega)
  have h3 : b2n b * 2 ^ k ≤ 1 * 2 ^ k := Nat.mul_le_mul_right _ h1
  omega

theorem or_byte (x : UInt8) (b : Bool) (k : Nat) (hk : k < 8) : (x.toNat ||| b2n b * 2 ^ k) < 256 :=
  Nat.or_lt_two_pow (n := 8) x.toNat_lt (shl_byte b k hk)

/-- the byte that takes one more bit -/
def orBit (x : UInt8) (b : Bool) (k : Nat) : UInt8 := UInt8.ofNat (x.toNat ||| b2n b * 2 ^ k)
theorem orBit_toNat (x : UInt8) (b : Bool) (k : Nat) (hk : k < 8) : (orBit x b k).toNat = x.toNat ||| b2n b * 2 ^ k := UInt8.toNat_ofNat_of_lt' (or_byte x b k hk)
theorem orBit_bit (x : UInt8) (b : Bool) (k j : Nat) (hk : k < 8) : (orBit x b k).toNat.testBit j = (x.toNat.testBit j || (decide (j = k) && b)) := by
  rw [orBit_toNat _ _ _ hk, Nat.testBit_or, Nat.testBit_mul_two_pow, b2n_bit]
  congr 1
  by_cases h : k ≤ j
  · by_cases h2 : j = k
    · subst h2; simp
    · have : ¬ j - k = 0 := by omega
      simp [h, h2, this]
  · have : ¬ j = k := by omega
    simp [h, this]

/-- one more bit -/
theorem pack_snoc (bs : List Bool) (b : Bool) (L : List UInt8) (x : UInt8) (hL : L = if bs.length % 8 = 0 then pack bs ++ [0] else pack bs) (hx : L[bs.length / 8]? = some x) :
    L.set (bs.length / 8) (orBit x b (7 - bs.length % 8)) = pack (bs ++ [b]) := by
  have hlen : L.length = bs.length / 8 + 1 := by
    rw [hL]; split
    · exact pack_zero bs (by assumption)
    · rw [pack_length]; unfold nb; omega
  have hbt : ∀ i, bt L i = bs.getD i false := by
    intro i
    rw [hL]; split
    · rw [bt_snoc]; split
      · rename_i h8 hi
        rw [pack_length] at hi
        rw [List.getD_eq_getElem?_getD, List.getElem?_eq_none (by unfold nb at hi; omega)]; simp
      · exact bt_pack bs i
    · exact bt_pack bs i
  apply bytes_ext
  · rw [List.length_set, hlen, pack_length, List.length_append]; unfold nb; simp; omega
  · intro i hi
    rw [List.length_set, hlen] at hi
    rw [bt_set _ _ _ _ (by omega), bt_pack, orBit_bit _ _ _ _ (by omega)]
    have hxi : i / 8 = bs.length / 8 → x.toNat.testBit (7 - i % 8) = bs.getD i false := by
      intro h
      rw [← hbt i]; unfold bt
      rw [List.getD_eq_getElem?_getD, h, hx]; rfl
    have hap : (bs ++ [b]).getD i false = if i = bs.length then b else bs.getD i false := by
      simp only [List.getD_eq_getElem?_getD]
      rcases Nat.lt_trichotomy i bs.length with h | h | h
      · rw [List.getElem?_append_left h, if_neg (by omega)]
      · subst h; simp
      · rw [List.getElem?_eq_none (by simp; omega), if_neg (by omega), List.getElem?_eq_none (by omega)]
    rw [hap]
    by_cases h : i / 8 = bs.length / 8
    · rw [if_pos h, hxi h]
      by_cases h2 : i = bs.length
      · subst h2; rw [List.getD_eq_getElem?_getD, List.getElem?_eq_none (by omega)]; simp
      · have : ¬ (7 - i % 8 = 7 - bs.length % 8) := by omega
        simp [h2, this]
    · rw [if_neg h, if_neg (by omega), hbt]

theorem pack_take (bs : List Bool) (k : Nat) (hk : k < bs.length) (L : List UInt8) (x : UInt8) (hL : L = if k % 8 = 0 then pack (bs.take k) ++ [0] else pack (bs.take k)) (hx : L[k / 8]? = some x) :
    L.set (k / 8) (orBit x bs[k] (7 - k % 8)) = pack (bs.take (k + 1)) := by
  have e : (bs.take k).length = k := by simp; omega
  have h := pack_snoc (bs.take k) bs[k] L x (by rw [e]; exact hL) (by rw [e]; exact hx)
  rw [e] at h
  rw [h, List.take_succ_eq_append_getElem hk]

/-- bits as bytes -/
def u8s (bs : List Bool) : List UInt8 := bs.map b2u
theorem u8s_nil : u8s [] = [] := rfl
theorem u8s_snoc (bs : List Bool) (b : Bool) : u8s (bs ++ [b]) = u8s bs ++ [b2u b] := by simp [u8s]
theorem u8s_append (a b : List Bool) : u8s (a ++ b) = u8s a ++ u8s b := by simp [u8s]
theorem u8s_length (bs : List Bool) : (u8s bs).length = bs.length := by simp [u8s]
theorem u8s_get (bs : List Bool) (k : Nat) (h : k < (u8s bs).length) : (u8s bs)[k] = b2u (bs[k]'(by rwa [u8s_length] at h)) := by simp [u8s]

/-- k bits from a on -/
def cutl (l : List UInt8) (a k : Nat) : List Bool := (List.range k).map fun i => bt l (a + i)
theorem cutl_length (l : List UInt8) (a k : Nat) : (cutl l a k).length = k := by simp [cutl]
theorem cutl_succ (l : List UInt8) (a k : Nat) : cutl l a (k + 1) = cutl l a k ++ [bt l (a + k)] := by simp [cutl, List.range_succ]
theorem cutl_zero (l : List UInt8) (a : Nat) : cutl l a 0 = [] := rfl
theorem cutl_get (l : List UInt8) (a k i : Nat) : (cutl l a k).getD i false = if i < k then bt l (a + i) else false := by
  unfold cutl
  rw [List.getD_eq_getElem?_getD, List.getElem?_map]
  by_cases h : i < k
  · simp [h]
  · simp [h]
theorem cutl_all (l : List UInt8) (n : Nat) : cutl l 0 n = bitl l n := by simp [cutl, bitl]

theorem testBit_cut (l : List UInt8) (a k j : Nat) : (numB (cutl l a k)).testBit j = if j < k then bt l (a + (k - 1 - j)) else false := by
  rw [testBit_numB, cutl_length, cutl_get]
  by_cases h : j < k
  · rw [if_pos h, if_pos (by omega), if_pos h]
  · rw [if_neg h, if_neg h]

theorem read_step (l : List UInt8) (a t n x q : Nat) (hx : x = a + t) (hq : q = 8 - x % 8) (hn : n ≤ q) (hl : x / 8 < l.length) :
    numB (cutl l a (t + n)) = (numB (cutl l a t) * 2 ^ n) ||| ((l[x / 8]).toNat / 2 ^ (q - n) % 2 ^ n) := by
  apply Nat.eq_of_testBit_eq
  intro j
  rw [testBit_cut, Nat.testBit_or, Nat.testBit_mul_two_pow, Nat.testBit_mod_two_pow, Nat.testBit_div_two_pow, testBit_cut]
  by_cases hjn : n ≤ j
  · have e1 : ¬ j < n := by omega
    simp only [hjn, e1, decide_true, decide_false, Bool.true_and, Bool.false_and, Bool.or_false]
    by_cases hj : j < t + n
    · rw [if_pos hj, if_pos (by omega)]; congr 1; omega
    · rw [if_neg hj, if_neg (by omega)]
  · have e1 : j < n := by omega
    simp only [hjn, e1, decide_true, decide_false, Bool.true_and, Bool.false_and, Bool.false_or]
    rw [if_pos (by omega)]
    unfold bt
    rw [show (a + (t + n - 1 - j)) / 8 = x / 8 by omega, show 7 - (a + (t + n - 1 - j)) % 8 = j + (q - n) by omega, List.getD_eq_getElem?_getD, List.getElem?_eq_getElem hl]
    rfl

theorem sound_nat {l : List UInt8} {n : Int} (h : soundB l n = true) : ∃ m : Nat, n = m ∧ m ≤ 8 * l.length ∧ l.length = nb m := by
  obtain ⟨h0, hl, _⟩ := (soundB_iff l n).1 h
  obtain ⟨m, rfl⟩ := Int.eq_ofNat_of_zero_le h0
  refine ⟨m, rfl, ?_, hl⟩
  unfold nb at hl; simp at hl; omega

/-- the byte into which n bits of v are written, q - n places from its lowest -/
def wrByte (old : UInt8) (v r n q : Nat) : Nat := old.toNat ||| (v / 2 ^ (r - n) % 2 ^ n * 2 ^ (q - n))
theorem wrByte_bit (old : UInt8) (v r n q j : Nat) : (wrByte old v r n q).testBit j = (old.toNat.testBit j || (decide (q - n ≤ j) && (decide (j - (q - n) < n) && v.testBit (j - (q - n) + (r - n))))) := by
  unfold wrByte
  rw [Nat.testBit_or, Nat.testBit_mul_two_pow, Nat.testBit_mod_two_pow, Nat.testBit_div_two_pow]
theorem wrByte_part (v r n q : Nat) (hn : n ≤ q) (hq : q ≤ 8) : v / 2 ^ (r - n) % 2 ^ n * 2 ^ (q - n) < 256 := by
  have h1 : v / 2 ^ (r - n) % 2 ^ n < 2 ^ n := Nat.mod_lt _ (Nat.two_pow_pos n)
  have h2 : v / 2 ^ (r - n) % 2 ^ n * 2 ^ (q - n) < 2 ^ n * 2 ^ (q - n) := Nat.mul_lt_mul_of_pos_right h1 (Nat.two_pow_pos _)
  rw [← Nat.pow_add, show n + (q - n) = q by omega] at h2
  exact Nat.lt_of_lt_of_le h2 (Nat.pow_le_pow_right (by decide) hq : 2 ^ q ≤ 2 ^ 8)
theorem wrByte_lt (old : UInt8) (v r n q : Nat) (hn : n ≤ q) (hq : q ≤ 8) : wrByte old v r n q < 256 := Nat.or_lt_two_pow (n := 8) old.toNat_lt (wrByte_part v r n q hn hq)

/-- after t of d bits of v are written from a on -/
def Wrote (l l1 : List UInt8) (a v d t : Nat) : Prop := l1.length = l.length ∧ ∀ i, bt l1 i = if a ≤ i ∧ i < a + t then v.testBit (d - 1 - (i - a)) else bt l i

theorem Wrote.zero (l : List UInt8) (a v d : Nat) : Wrote l l a v d 0 := ⟨rfl, fun i => by rw [if_neg (by omega)]⟩
theorem Wrote.step {l l1 : List UInt8} {a v d t x r n q : Nat} (h : Wrote l l1 a v d t) (hz : ∀ i, a ≤ i → i < a + d → bt l i = false) (hx : x = a + t) (hr : r = d - t) (hq : q = 8 - x % 8) (hn : n ≤ q) (hnr : n ≤ r) (hl : x / 8 < l1.length) :
    Wrote l (l1.set (x / 8) (UInt8.ofNat (wrByte l1[x / 8] v r n q))) a v d (t + n) := by
  refine ⟨by rw [List.length_set]; exact h.1, fun i => ?_⟩
  rw [bt_set _ _ _ _ hl]
  by_cases hi : i / 8 = x / 8
  · rw [if_pos hi, UInt8.toNat_ofNat_of_lt' (wrByte_lt _ _ _ _ _ hn (by omega)), wrByte_bit]
    have hold : l1[x / 8].toNat.testBit (7 - i % 8) = bt l1 i := by
      unfold bt; rw [hi, List.getD_eq_getElem?_getD, List.getElem?_eq_getElem hl]; rfl
    rw [hold, h.2 i]
    by_cases hin : x ≤ i ∧ i < x + n
    · rw [if_neg (by omega), if_pos (by omega), hz i (by omega) (by omega)]
      have e1 : q - n ≤ 7 - i % 8 := by omega
      have e2 : 7 - i % 8 - (q - n) < n := by omega
      simp only [e1, e2, decide_true, Bool.true_and, Bool.false_or]
      congr 1; omega
    · have e : (decide (q - n ≤ 7 - i % 8) && (decide (7 - i % 8 - (q - n) < n) && v.testBit (7 - i % 8 - (q - n) + (r - n)))) = false := by
        by_cases e1 : q - n ≤ 7 - i % 8
        · have e2 : ¬ 7 - i % 8 - (q - n) < n := by omega
          simp [e2]
        · simp [e1]
      rw [e, Bool.or_false]
      by_cases hc : a ≤ i ∧ i < a + t
      · rw [if_pos hc, if_pos (by omega)]
      · rw [if_neg hc, if_neg (by omega)]
  · rw [if_neg hi, h.2 i]
    by_cases hc : a ≤ i ∧ i < a + t
    · rw [if_pos hc, if_pos (by omega)]
    · rw [if_neg hc, if_neg (by omega)]

/-- bytes with d bits of v behind the first m -/
theorem put_done {l l' : List UInt8} {m v d : Nat} (hs : soundB l m = true) (h : Wrote (l ++ (List.replicate (nb (m + d)) 0).drop l.length) l' m v d d) : l' = pack (bitl l m ++ valB v d) := by
  obtain ⟨_, hl, hz⟩ := (soundB_iff l m).1 hs
  rw [Int.toNat_natCast] at hl hz
  have hlen : (l ++ (List.replicate (nb (m + d)) (0 : UInt8)).drop l.length).length = nb (m + d) := by
    rw [List.length_append, List.length_drop, List.length_replicate, hl]; unfold nb; omega
  apply bytes_ext
  · rw [h.1, hlen, pack_length, List.length_append, bitl_length, valB_length]
  · intro i _
    rw [h.2 i, bt_pack]
    have hap : (bitl l m ++ valB v d).getD i false = if i < m then bt l i else (valB v d).getD (i - m) false := by
      simp only [List.getD_eq_getElem?_getD]
      by_cases hi : i < m
      · rw [List.getElem?_append_left (by rw [bitl_length]; exact hi), if_pos hi, ← List.getD_eq_getElem?_getD, bitl_get, if_pos hi]
      · rw [List.getElem?_append_right (by rw [bitl_length]; omega), if_neg hi, bitl_length]
    rw [hap, valB_get]
    have hbl : bt (l ++ (List.replicate (nb (m + d)) (0 : UInt8)).drop l.length) i = bt l i := by
      unfold bt
      simp only [List.getD_eq_getElem?_getD]
      by_cases hi : i / 8 < l.length
      · rw [List.getElem?_append_left hi]
      · rw [List.getElem?_append_right (by omega), List.getElem?_eq_none (show l.length ≤ i / 8 by omega), List.getElem?_drop, List.getElem?_replicate]
        split <;> simp
    by_cases hi : i < m
    · rw [if_neg (by omega), if_pos hi, hbl]
    · rw [if_neg hi]
      by_cases hd : i < m + d
      · rw [if_pos ⟨by omega, hd⟩, if_pos (by omega)]
      · rw [if_neg (by omega), if_neg (by omega), hbl, hz i (by omega)]

theorem put_zero {l : List UInt8} {m d : Nat} (hs : soundB l m = true) : ∀ i, m ≤ i → i < m + d → bt (l ++ (List.replicate (nb (m + d)) (0 : UInt8)).drop l.length) i = false := by
  obtain ⟨_, hl, hz⟩ := (soundB_iff l m).1 hs
  rw [Int.toNat_natCast] at hl hz
  intro i hi _
  have hbl : bt (l ++ (List.replicate (nb (m + d)) (0 : UInt8)).drop l.length) i = bt l i := by
    unfold bt
    simp only [List.getD_eq_getElem?_getD]
    by_cases hi : i / 8 < l.length
    · rw [List.getElem?_append_left hi]
    · rw [List.getElem?_append_right (by omega), List.getElem?_eq_none (show l.length ≤ i / 8 by omega), List.getElem?_drop, List.getElem?_replicate]
      split <;> simp
  rw [hbl, hz i hi]

/-- what Put answers: bytes, bits, the error -/
def putSpec (l : List UInt8) (n : Int) (v : Nat) (width : Int) : List UInt8 × Nat × Nat :=
  if soundB l n = false then ([], 0, 11) else if width < 0 ∨ 64 < width then ([], 0, 1) else (pack (bitl l n.toNat ++ valB v width.toNat), n.toNat + width.toNat, 0)

/-- what Get answers: a number, the error -/
def getSpec (l : List UInt8) (n at_ width : Int) : Nat × Nat :=
  if soundB l n = false then (0, 11) else if width < 0 ∨ 64 < width then (0, 1) else if at_ < 0 ∨ n < at_ ∨ n - at_ < width then (0, 10) else (numB (cutl l at_.toNat width.toNat), 0)

/-- what Cut answers: bytes, bits, the error -/
def cutSpec (l : List UInt8) (n a b : Int) : List UInt8 × Nat × Nat :=
  if soundB l n = false then ([], 0, 11) else if a < 0 ∨ b < a ∨ n < b then ([], 0, 10) else (pack (cutl l a.toNat (b - a).toNat), (b - a).toNat, 0)

theorem getSpec_code (l : List UInt8) (n a b : Int) : (getSpec l n a b).2 ≤ 11 := by
  unfold getSpec
  split
  · exact Nat.le_refl _
  · split
    · show 1 ≤ 11; decide
    · split
      · show 10 ≤ 11; decide
      · exact Nat.zero_le _
theorem putSpec_code (l : List UInt8) (n : Int) (v : Nat) (b : Int) : (putSpec l n v b).2.2 ≤ 11 := by
  unfold putSpec
  split
  · exact Nat.le_refl _
  · split
    · show 1 ≤ 11; decide
    · exact Nat.zero_le _
theorem cutSpec_code (l : List UInt8) (n a b : Int) : (cutSpec l n a b).2.2 ≤ 11 := by
  unfold cutSpec
  split
  · exact Nat.le_refl _
  · split
    · show 10 ≤ 11; decide
    · exact Nat.zero_le _

theorem cutl_pack (M : List Bool) (a d : Nat) (h : a + d ≤ M.length) : cutl (pack M) a d = (M.drop a).take d := by
  apply List.ext_getElem
  · rw [cutl_length, List.length_take, List.length_drop]; omega
  · intro i h1 h2
    rw [cutl_length] at h1
    simp only [cutl, List.getElem_map, List.getElem_range, List.getElem_take, List.getElem_drop]
    rw [bt_pack, List.getD_eq_getElem?_getD, List.getElem?_eq_getElem (by omega)]; rfl

theorem valB_split (v W k : Nat) (hk : k ≤ W) : valB v W = valB (v / 2 ^ k) (W - k) ++ valB v k := by
  apply List.ext_getElem
  · rw [List.length_append, valB_length, valB_length, valB_length]; omega
  · intro i h1 h2
    rw [valB_length] at h1
    rw [List.getElem_append]
    split
    · rename_i h
      simp only [valB, List.getElem_map, List.getElem_range]
      rw [Nat.testBit_div_two_pow]
      congr 1
      rw [valB_length] at h
      omega
    · rename_i h
      rw [valB_length] at h
      simp only [valB, List.getElem_map, List.getElem_range, List.length_map, List.length_range]
      congr 1
      omega

theorem valB_zero (v : Nat) : valB v 0 = [] := rfl
theorem valB_eq_iff (v u d : Nat) : valB v d = valB u d ↔ v % 2 ^ d = u % 2 ^ d := by
  constructor
  · intro h
    rw [← numB_valB, h, numB_valB]
  · intro h
    rw [← valB_mod v, h, valB_mod]

theorem pack_eq_iff (a b : List Bool) : (a.length = b.length ∧ pack a = pack b) ↔ a = b :=
  ⟨fun h => pack_inj h.1 h.2, fun h => by rw [h]; exact ⟨rfl, rfl⟩⟩

theorem nb_le (n : Nat) : nb n ≤ n + 1 := by unfold nb; omega
theorem pack_le (M : List Bool) {k : Nat} (h : M.length ≤ k) : (pack M).length ≤ k + 1 := by rw [pack_length]; have := nb_le M.length; omega

/-- bits that are sound are those of a list -/
theorem pack_sound {l : List UInt8} {m : Nat} (h : soundB l m = true) : l = pack (bitl l m) := by
  have h1 := (soundB_iff l m).1 h
  rw [Int.toNat_natCast] at h1
  apply bytes_ext
  · rw [pack_length, bitl_length]; exact h1.2.1
  · intro i _
    rw [bt_pack, bitl_get]
    split
    · rfl
    · exact h1.2.2 i (by omega)

end Go.Proofs.YtfooggamdbdniaaDoor

/-
  Words for memory that the other texts of this seat use: a slice of bytes that reads as a list; small lemmas on worlds.
-/
namespace Go.Proofs.YtfooggamdbdniaaDoor
open Go.RowKit

/-- a number as a byte of memory -/
abbrev bv (b : UInt8) : Value := .int .u8 (b.toNat : Int)

/-- the cells from A on hold the bytes l -/
def Bs (w : World) (A : Option Addr) (l : List UInt8) : Prop :=
  ∀ i b, l[i]? = some b → ∃ p o, A = some ⟨p, o, none⟩ ∧ w.cell? ⟨p, o + i, none⟩ = some (bv b)

theorem Bs.nil (w : World) (A : Option Addr) : Bs w A [] := fun i b h => by simp at h

theorem cell_lt {w : World} {a : Addr} {v : Value} (h : w.cell? a = some v) : a.block < w.heap.size := by
  unfold World.cell? at h
  rcases Nat.lt_or_ge a.block w.heap.size with hlt | hge
  · exact hlt
  · rw [Array.getElem?_eq_none hge] at h; simp at h

theorem Bs.below {w w' : World} {A : Option Addr} {l : List UInt8} (h : Bs w A l) (hb : Below w.heap.size w w') : Bs w' A l := fun i b hi => by
  obtain ⟨p, o, hA, hc⟩ := h i b hi
  exact ⟨p, o, hA, (hb.cell (cell_lt hc)).trans hc⟩

theorem Bs.at_ {w : World} {A : Option Addr} {l : List UInt8} (h : Bs w A l) (hl : 0 < l.length) :
    ∃ p o, A = some ⟨p, o, none⟩ ∧ p < w.heap.size ∧ ∀ i (hi : i < l.length), w.cell? ⟨p, o + i, none⟩ = some (bv l[i]) := by
  obtain ⟨p, o, hA, hc⟩ := h 0 l[0] (List.getElem?_eq_getElem hl)
  refine ⟨p, o, hA, cell_lt hc, fun i hi => ?_⟩
  obtain ⟨p', o', hA', hc'⟩ := h i l[i] (List.getElem?_eq_getElem hi)
  rw [hA] at hA'
  injection hA' with e
  injection e with e1 e2 _
  subst e1; subst e2
  exact hc'

/-- a callee's contract 'w = w'' as go_quiet wants it -/
theorem quiet_eq {P : Program} {f : FuncId} {args : Array Value} {w : World} {n : Nat} {v : Value}
    (h : Calls P f args (w.drewN n) fun e w' => e = .returned v ∧ w.drewN n = w') : Calls P f args (w.drewN n) fun e w'' => e = .returned v ∧ ∃ m, w'' = w.drewN m :=
  h.mono fun _ _ ⟨he, hm⟩ => ⟨he, n, hm.symm⟩

theorem below_drewN {B : Nat} {a w : World} (h : Below B a w) (n : Nat) : Below B a (w.drewN n) := ⟨h.os, h.tape, h.output, h.size, h.block⟩

theorem and_one_u8 (x : Nat) (hx : x < 256) : bits .and .u8 (x : Int) 1 = ((x % 2 : Nat) : Int) := by
  have h := bits_mask .u8 8 (by decide) (fun n h0 h1 => wraps_u8 n h0 h1) 1 (by decide) (x : Int) (by omega) (by omega)
  rw [show ((2 : Int) ^ 1 - 1) = 1 from rfl] at h
  rw [h]; omega
theorem or_u8 (x y : Nat) (hx : x < 256) (hy : y < 256) : bits .or .u8 (x : Int) (y : Int) = ((x ||| y : Nat) : Int) :=
  (bits_nat .u8 8 (by decide) (fun n h0 h1 => wraps_u8 n h0 h1) x y hx hy).2
theorem or_val (X : UInt8) (b : Bool) (k : Nat) (hk : k < 8) : Value.int .u8 (bits .or .u8 (X.toNat : Int) (((b2u b).toNat : Int) * 2 ^ k % 256)) = bv (orBit X b k) := by
  have e : (((b2u b).toNat : Int) * 2 ^ k % 256) = ((b2n b * 2 ^ k : Nat) : Int) := by
    have h := shl_byte b k hk
    rw [b2u_toNat, show ((b2n b : Int) * 2 ^ k) = ((b2n b * 2 ^ k : Nat) : Int) by rw [Int.natCast_mul, Int.natCast_pow]; rfl]
    omega
  rw [e, or_u8 _ _ X.toNat_lt (shl_byte b k hk)]
  show _ = Value.int .u8 _
  rw [orBit_toNat _ _ _ hk]
theorem nat_shr (x k : Nat) : (x : Int) / 2 ^ k = ((x / 2 ^ k : Nat) : Int) := by
  rw [Int.natCast_ediv, Int.natCast_pow]; rfl
theorem shr_bit (x k : Nat) : x / 2 ^ k % 2 = b2n (x.testBit k) := by
  rw [Nat.testBit_eq_decide_div_mod_eq]; unfold b2n
  by_cases h : x / 2 ^ k % 2 = 1
  · simp [h]
  · simp [h]; omega

theorem wrap_big (x : Nat) (hx : x < 18446744073709551616) : IntKind.u64.wrap (x : Int) = x := by
  simp [IntKind.wrap, IntKind.bits, IntKind.signed]; omega
theorem mask_u8 (y q : Nat) (hy : y < 256) (hq : q ≤ 8) : bits .and .u8 (y : Int) ((2 ^ q - 1) % 256) = ((y % 2 ^ q : Nat) : Int) := by
  have h := bits_mask .u8 8 (by decide) (fun n h0 h1 => wraps_u8 n h0 h1) q hq (y : Int) (by omega) (by omega)
  have h2 : (2 : Nat) ^ q ≤ 2 ^ 8 := Nat.pow_le_pow_right (by decide) hq
  have h3 : 0 < (2 : Nat) ^ q := Nat.two_pow_pos q
  have e : ((2 : Int) ^ q - 1) % 256 = 2 ^ q - 1 := by
    have : ((2 : Int) ^ q) = ((2 ^ q : Nat) : Int) := by rw [Int.natCast_pow]; rfl
    rw [this]; omega
  rw [e, h, Int.natCast_emod, Int.natCast_pow]; rfl
theorem or_big (x y : Nat) (hx : x < 18446744073709551616) (hy : y < 18446744073709551616) : bits .or .u64 (x : Int) (y : Int) = ((x ||| y : Nat) : Int) :=
  (bits_nat .u64 64 (by decide) (fun n h0 h1 => by have := wrap_big n.toNat (by omega); rwa [Int.toNat_of_nonneg h0] at this) x y hx hy).2
theorem read_val (N y q : Nat) (hN : N * 2 ^ q < 18446744073709551616) (hq : q ≤ 8) (hy : y < 256) :
    bits .or .u64 (IntKind.u64.wrap ((N : Int) * 2 ^ q)) (IntKind.u64.wrap (bits .and .u8 (y : Int) ((2 ^ q - 1) % 256))) = (((N * 2 ^ q) ||| (y % 2 ^ q) : Nat) : Int) := by
  have h1 : y % 2 ^ q < 18446744073709551616 := Nat.lt_of_le_of_lt (Nat.mod_le _ _) (by omega)
  rw [mask_u8 y q hy hq, show ((N : Int) * 2 ^ q) = ((N * 2 ^ q : Nat) : Int) by rw [Int.natCast_mul, Int.natCast_pow]; rfl, wrap_big _ hN, wrap_big _ h1, or_big _ _ hN h1]

theorem wr_val (old : UInt8) (v r n q : Nat) (hn : n ≤ q) (hq : q ≤ 8) :
    bits .or .u8 (old.toNat : Int) (bits .and .u8 (((v / 2 ^ (r - n) : Nat) : Int) % 256) ((2 ^ n - 1) % 256) * 2 ^ (q - n) % 256) = (wrByte old v r n q : Int) := by
  have h1 : (((v / 2 ^ (r - n) : Nat) : Int) % 256) = ((v / 2 ^ (r - n) % 256 : Nat) : Int) := by omega
  rw [h1, mask_u8 _ n (Nat.mod_lt _ (by decide)) (by omega)]
  have h2 : v / 2 ^ (r - n) % 256 % 2 ^ n = v / 2 ^ (r - n) % 2 ^ n := Nat.mod_mod_of_dvd _ (show (2 : Nat) ^ n ∣ 2 ^ 8 from Nat.pow_dvd_pow 2 (by omega))
  rw [h2]
  have h3 := wrByte_part v r n q hn hq
  have h4 : (((v / 2 ^ (r - n) % 2 ^ n : Nat) : Int) * 2 ^ (q - n) % 256) = ((v / 2 ^ (r - n) % 2 ^ n * 2 ^ (q - n) : Nat) : Int) := by
    rw [show (((v / 2 ^ (r - n) % 2 ^ n : Nat) : Int) * 2 ^ (q - n)) = ((v / 2 ^ (r - n) % 2 ^ n * 2 ^ (q - n) : Nat) : Int) by rw [Int.natCast_mul, Int.natCast_pow]; rfl]
    omega
  rw [h4, or_u8 _ _ old.toNat_lt h3]
  rfl

theorem ret_int {k : IntKind} {a b : Int} (h : a = b) : Ending.returned (.int k a) = .returned (.int k b) := by rw [h]
theorem ret_bool {a b : Bool} (h : a = b) : Ending.returned (.bool a) = .returned (.bool b) := by rw [h]

end Go.Proofs.YtfooggamdbdniaaDoor

/-
  Memory of the call's own, whatever it holds: what is made, appended to, stored into; kept while the world grows.
-/
namespace Go.Proofs.YtfooggamdbdniaaDoor
open Go.RowKit

theorem own_below {w w' : World} {base : Nat} {e : TypeId} {size n : Nat} {v : Value} {xs : List Value} (h : w.ownsRow base e size v n xs) (hb : Below w.heap.size w w') : w'.ownsRow base e size v n xs := by
  refine ⟨h.1, ?_⟩
  rcases h.2 with hn | ⟨g, cap, cur, rfl, hbg, hgg, rest⟩
  · exact .inl hn
  · exact .inr ⟨g, cap, cur, rfl, hbg, (hb.block g (Array.getElem?_eq_some_iff.1 hgg).1).trans hgg, rest⟩

theorem own_mono {w : World} {base base' : Nat} {e : TypeId} {size n : Nat} {v : Value} {xs : List Value} (h : w.ownsRow base e size v n xs) (hb : base' ≤ base) : w.ownsRow base' e size v n xs := by
  refine ⟨h.1, ?_⟩
  rcases h.2 with hn | ⟨g, cap, cur, rfl, hbg, rest⟩
  · exact .inl hn
  · exact .inr ⟨g, cap, cur, rfl, by omega, rest⟩

/-- a cell of a block that was just laid -/
theorem box_cell (w : World) (cs : Array Value) (t : TypeId) (i : Nat) (v : Value) (h : cs[i]? = some v) : (w.alloc (.cells cs t)).cell? ⟨w.heap.size, i, none⟩ = some v := by
  rw [cell_of_row _ _ _ cs t (0, 0) (heap_alloc_new w _)]; exact h

theorem box_free (w : World) (cs : Array Value) (t : TypeId) (i : Nat) : (w.alloc (.cells cs t)).frozen? ⟨w.heap.size, i, none⟩ = false :=
  frozen_of_row _ _ _ cs t (heap_alloc_new w _)

def Blk (w : World) (g : Nat) (t : TypeId) (cs : Array Value) : Prop := w.heap[g]? = some (.cells cs t (0, 0))
section
variable {w w' : World} {g : Nat} {t : TypeId} {cs : Array Value}
theorem Blk.lt (h : Blk w g t cs) : g < w.heap.size := by
  rcases Nat.lt_or_ge g w.heap.size with hlt | hge
  · exact hlt
  · unfold Blk at h; rw [Array.getElem?_eq_none hge] at h; cases h
theorem Blk.cell (h : Blk w g t cs) (i : Nat) : w.cell? ⟨g, i, none⟩ = cs[i]? := cell_of_row w g i cs t (0, 0) h
theorem Blk.frozen (h : Blk w g t cs) (i : Nat) : w.frozen? ⟨g, i, none⟩ = false := frozen_of_row w g i cs t h
theorem Blk.new (w : World) (t : TypeId) (cs : Array Value) : Blk (w.alloc (.cells cs t)) w.heap.size t cs := heap_alloc_new w _
theorem Blk.alloc (h : Blk w g t cs) (o : Obj) : Blk (w.alloc o) g t cs := (Below.heap_alloc w o g h.lt).trans h
theorem Blk.below {B : Nat} (h : Blk w g t cs) (hb : Below B w w') (hg : g < B) : Blk w' g t cs := (hb.block g hg).trans h
end

/-- one block of two cells, known still -/
theorem kept1 {w w1 : World} {x y : Value} {t : TypeId} {B : Nat} (hb : Below B (w.alloc (.cells #[x, y] t)) w1) (hB : w.heap.size < B) :
    w1.cell? ⟨w.heap.size, 0, none⟩ = some x ∧ w1.cell? ⟨w.heap.size, 1, none⟩ = some y ∧ w.heap.size + 1 ≤ w1.heap.size ∧ w1.frozen? ⟨w.heap.size, 0, none⟩ = false ∧ w1.frozen? ⟨w.heap.size, 1, none⟩ = false := by
  have h := (Blk.new w t #[x, y]).below hb hB
  exact ⟨h.cell 0, h.cell 1, h.lt, h.frozen 0, h.frozen 1⟩

/-- two blocks of two cells each, known still -/
theorem kept2 {w w1 : World} {x y a b : Value} {t t' : TypeId} {B : Nat} (hb : Below B ((w.alloc (.cells #[x, y] t)).alloc (.cells #[a, b] t')) w1) (hB : w.heap.size + 1 < B) :
    w1.cell? ⟨w.heap.size, 0, none⟩ = some x ∧ w1.cell? ⟨w.heap.size, 1, none⟩ = some y ∧ w1.cell? ⟨w.heap.size + 1, 0, none⟩ = some a ∧ w1.cell? ⟨w.heap.size + 1, 1, none⟩ = some b ∧
    w1.frozen? ⟨w.heap.size + 1, 0, none⟩ = false ∧ w1.frozen? ⟨w.heap.size + 1, 1, none⟩ = false ∧ w.heap.size + 2 ≤ w1.heap.size := by
  have h := ((Blk.new w t #[x, y]).alloc (.cells #[a, b] t')).below hb (by omega)
  have k := (Blk.new (w.alloc (.cells #[x, y] t)) t' #[a, b]).below hb (by simpa using hB)
  have e : (w.alloc (.cells #[x, y] t)).heap.size = w.heap.size + 1 := by simp
  rw [e] at k
  exact ⟨h.cell 0, h.cell 1, k.cell 0, k.cell 1, k.frozen 0, k.frozen 1, k.lt⟩

theorem below_alloc (w : World) (o : Obj) : Below w.heap.size w (w.alloc o) := (Below.refl _ _).alloc (Nat.le_refl _) _

theorem below_alloc2 (w : World) (o o' : Obj) : Below w.heap.size w ((w.alloc o).alloc o') := (below_alloc w o).alloc (by simp) o'

theorem own_grown {w w' : World} {base : Nat} {e : TypeId} {size n : Nat} {v : Value} {xs : List Value} (h : w.ownsRow base e size v n xs) (hg : w.grownBy w' v.ownBlock) (hb : base ≤ w.heap.size) : Below base w w' :=
  (Below.refl _ _).grown hg hb fun k hk => (h.lt k hk).1

/-- 'append(out, x)', x of one cell that was just laid in a block of its own -/
theorem app1 {P : Program} (w : World) {ops : Array Oper} {rest : List Oper} {o : Oper} {a : Act} {Q : Exit → Act → World → Prop} (hgd : o.guard = none) (s x : Operand) (t : TypeId)
    (ho : o.op = .call { callee := .builtin .append, args := #[s, x], argTypes := #[t, t] })
    (base : Nat) (e : TypeId) (z : Value) (bytes : Nat) (ht : P.underlying t = some (.slice e)) (hinfo : (P.info? e).map (fun i => (i.zero, i.size, i.bytes)) = some (some z, 1, bytes)) (hzs : z.cells.size = 1)
    (v : Value) (n : Nat) (xs : List Value) (hs : a.eval s = v) (hown : w.ownsRow base e 1 v n xs)
    (g : Nat) (u : Value) (hx : a.eval x = .slice (some ⟨g, 0, none⟩) 1 1) (hc : w.cell? ⟨g, 0, none⟩ = some u) (h1 : u.oneCell' = true)
    (h63 : n + 1 ≤ maxLen) (hbytes : (n + 1) * bytes ≤ 140737488355328) (hbase : base ≤ w.heap.size)
    (h : ∀ v' w', w'.ownsRow base e 1 v' (n + 1) (xs ++ [u]) → Below base w w' → wpList P ops Q rest (a.put o.dst v') w') : wpList P ops Q (o :: rest) a w := by
  obtain ⟨i, hi, hz, hsz, hby⟩ := info_parts hinfo
  refine wpList_append_own (P := P) w hgd s x t ho base e i z 1 bytes ht hi hz hsz hby hzs (by decide) v n xs hs hown ⟨g, 0, none⟩ 1 1 [u] hx rfl ?_ (by simpa using h1) h63 hbytes hbase fun v' w' h2 h3 _ => h v' w' h2 (own_grown hown h3 hbase)
  intro j y hj
  match j, hj with
  | 0, hj => simp at hj; subst hj; simpa [Addr.add] using hc

theorem str_eq (l l' : List UInt8) : ((⟨l.toArray⟩ : ByteArray).toList == (⟨l'.toArray⟩ : ByteArray).toList) = decide (l = l') := by
  rw [← beq_toListBytes, Bool.eq_iff_iff, MapKept.bytes_beq, decide_eq_true_eq]
  constructor
  · intro e
    injection e with e
    simpa using e
  · intro e; rw [e]

end Go.Proofs.YtfooggamdbdniaaDoor

/-
  A region that draws its order, whose operations read, compute, and call functions that make memory of their own and hand back plain values: whatever the order, the values are the same; the world behind it is the world ahead of it with more blocks.
-/
namespace Go.Proofs.YtfooggamdbdniaaDoor
open Go.RowKit

structure More where
  bl : Array Obj
  d : Nat

instance : Nonempty More := ⟨⟨#[], 0⟩⟩

/-- the world with more blocks, and some other count of draws -/
def plus (w : World) (x : More) : World := { w with heap := w.heap ++ x.bl, drawn := x.d }

theorem plus_block (w : World) (x : More) (k : Nat) (h : k < w.heap.size) : (plus w x).heap[k]? = w.heap[k]? := by
  show (w.heap ++ x.bl)[k]? = _
  rw [Array.getElem?_append_left h]

theorem plus_below (w : World) (x : More) : Below w.heap.size w (plus w x) :=
  ⟨rfl, rfl, rfl, by show _ ≤ (w.heap ++ x.bl).size; simp, fun k hk => plus_block w x k hk⟩

theorem plus_cell (w : World) (x : More) (a : Addr) (h : (w.cell? a).isSome = true) : (plus w x).cell? a = w.cell? a := by
  obtain ⟨v, hv⟩ := Option.isSome_iff_exists.1 h
  exact (plus_below w x).cell (cell_lt hv)

theorem below_plus {w w' : World} (h : Below w.heap.size w w') : ∃ x, w' = plus w x := by
  refine ⟨⟨w'.heap.extract w.heap.size w'.heap.size, w'.drawn⟩, ?_⟩
  have hh : w'.heap = w.heap ++ w'.heap.extract w.heap.size w'.heap.size := by
    apply Array.ext_getElem?
    intro i
    by_cases hi : i < w.heap.size
    · rw [Array.getElem?_append_left hi]; exact h.block i hi
    · rw [Array.getElem?_append_right (by omega), Array.getElem?_extract]
      have e : w.heap.size + (i - w.heap.size) = i := by omega
      rw [e]
      split
      · rfl
      · rename_i hn
        rw [Array.getElem?_eq_none]
        simp at hn; omega
  have h1 := h.os; have h2 := h.tape; have h3 := h.output
  cases w'
  simp only at h1 h2 h3 hh
  subst h1; subst h2; subst h3
  unfold plus
  simp only [World.mk.injEq, true_and, and_true]
  exact hh

theorem plus_plus {w w' : World} {x : More} (h : Below (plus w x).heap.size (plus w x) w') : ∃ x', w' = plus w x' :=
  below_plus ((plus_below w x).trans (h.mono (plus_below w x).size))

/-- a callee's contract as the region wants it -/
theorem ext_of {P : Program} {f : FuncId} {args : Array Value} {w : World} {x : More} {v : Value}
    (h : Calls P f args (plus w x) fun e w' => e = .returned v ∧ Below (plus w x).heap.size (plus w x) w') : Calls P f args (plus w x) fun e w'' => e = .returned v ∧ ∃ x', w'' = plus w x' :=
  h.mono fun _ _ ⟨he, hm⟩ => ⟨he, plus_plus hm⟩

theorem wp_region_ext {P : Program} {id : Nat} {Q : Exit → Act → World → Prop} {a : Act} {w : World} {l : List Oper} (hm : P.follows .mixedOrders = true) (hB : Region.lexB .any l.toArray = true)
    (h : wpQuiet P l.toArray (fun w' => ∃ x, w' = plus w x) (fun a' => ∀ w', (∃ x, w' = plus w x) → Q .normal a' w') l a) : (Code.region id l.toArray true).wp P Q a w :=
  wp_region_quiet (C := fun w' => ∃ x, w' = plus w x) hm hB ⟨⟨#[], w.drawn + 1⟩, by simp [plus]⟩ (by simpa using h)

/-- what was there is there still: a rule for the walk -/
theorem keep {w w' : World} (h : Below w.heap.size w w') : ∀ a : Addr, (w.cell? a).isSome = true → w'.cell? a = w.cell? a := fun a ha => by
  obtain ⟨v, hv⟩ := Option.isSome_iff_exists.1 ha
  exact h.cell (cell_lt hv)

theorem keepA (w : World) (o : Obj) (a : Addr) (h : (w.cell? a).isSome = true) : (w.alloc o).cell? a = w.cell? a := keep (below_alloc w o) a h

/-- a block of two cells: laid, and a call; kept over a call; kept over a new block and a call -/
theorem boxN {w w' : World} {t : TypeId} {x y : Value} (h : Below (w.alloc (.cells #[x, y] t)).heap.size (w.alloc (.cells #[x, y] t)) w') :
    w'.cell? ⟨w.heap.size, 0, none⟩ = some x ∧ w'.cell? ⟨w.heap.size, 1, none⟩ = some y := by
  obtain ⟨h0, h1, _⟩ := kept1 h (by simp)
  exact ⟨h0, h1⟩
theorem box1 {w w' : World} {p : Nat} {x y : Value} (h : Below w.heap.size w w') (b : w.cell? ⟨p, 0, none⟩ = some x ∧ w.cell? ⟨p, 1, none⟩ = some y) : w'.cell? ⟨p, 0, none⟩ = some x ∧ w'.cell? ⟨p, 1, none⟩ = some y :=
  ⟨(h.cell (cell_lt b.1)).trans b.1, (h.cell (cell_lt b.2)).trans b.2⟩
theorem boxA {w : World} {p : Nat} {x y : Value} (o : Obj) (b : w.cell? ⟨p, 0, none⟩ = some x ∧ w.cell? ⟨p, 1, none⟩ = some y) : (w.alloc o).cell? ⟨p, 0, none⟩ = some x ∧ (w.alloc o).cell? ⟨p, 1, none⟩ = some y :=
  box1 (below_alloc w o) b
theorem box2 {w w' : World} {o : Obj} {p : Nat} {x y : Value} (h : Below (w.alloc o).heap.size (w.alloc o) w') (b : w.cell? ⟨p, 0, none⟩ = some x ∧ w.cell? ⟨p, 1, none⟩ = some y) : w'.cell? ⟨p, 0, none⟩ = some x ∧ w'.cell? ⟨p, 1, none⟩ = some y :=
  box1 h (boxA o b)

/-- from the beginning on: a call -/
theorem on1 {w W w' : World} (h : Below w.heap.size w W) (k : Below W.heap.size W w') : Below w.heap.size w w' := h.trans (k.mono h.size)
/-- a new block, and a call -/
theorem on2 {w W w' : World} {o : Obj} (h : Below w.heap.size w W) (k : Below (W.alloc o).heap.size (W.alloc o) w') : Below w.heap.size w w' := on1 (on1 h (below_alloc W o)) k

end Go.Proofs.YtfooggamdbdniaaDoor

/- Facts that are carried from world to world: new blocks, draws, and a call that changes nothing that was there. -/
namespace Go.Proofs.YtfooggamdbdniaaDoor
open Go.RowKit

class Up (w W : World) : Prop where
  below : Below w.heap.size w W
instance Up.rfl {w : World} : Up w w := ⟨Below.refl _ _⟩
instance Up.alloc {w W : World} {o : Obj} [h : Up w W] : Up w (W.alloc o) := ⟨h.below.alloc h.below.size _⟩
instance Up.drew {w W : World} [h : Up w W] : Up w W.drew := ⟨h.below.drew⟩
instance Up.drewN {w W : World} {n : Nat} [h : Up w W] : Up w (W.drewN n) := ⟨below_drewN h.below n⟩

section
variable {w W w' : World}
theorem on (t : Below w.heap.size w w') {w2 : World} [u : Up w' W] (h : Below W.heap.size W w2) : Below w.heap.size w w2 := (t.trans (u.below.mono t.size)).trans (h.mono (by have := t.size; have := u.below.size; omega))
theorem go1 [u : Up w W] (h : Below W.heap.size W w') : Below w.heap.size w w' := u.below.trans (h.mono u.below.size)
theorem cel [u : Up w W] (h : Below W.heap.size W w') {a : Addr} {v : Value} (c : w.cell? a = some v) : w'.cell? a = some v := ((go1 h).cell (cell_lt c)).trans c
theorem box [u : Up w W] (h : Below W.heap.size W w') {a b : Addr} {x y : Value} (c : w.cell? a = some x ∧ w.cell? b = some y) : w'.cell? a = some x ∧ w'.cell? b = some y := ⟨cel h c.1, cel h c.2⟩
theorem Bs.go [u : Up w W] {A : Option Addr} {l : List UInt8} (b : Bs w A l) (h : Below W.heap.size W w') : Bs w' A l := b.below (go1 h)
theorem Bs.up [u : Up w W] {A : Option Addr} {l : List UInt8} (b : Bs w A l) : Bs W A l := b.below u.below
theorem onA (t : Below w.heap.size w w') [u : Up w' W] : Below w.heap.size w W := t.trans (u.below.mono t.size)
theorem Bs.on {A : Option Addr} {l : List UInt8} (b : Bs w A l) (t : Below w.heap.size w w') [u : Up w' W] : Bs W A l := b.below (onA t)
/-- a block that was laid, with one more behind it, or two, known behind a call -/
theorem boxN2 {t : TypeId} {x y : Value} {o : Obj} (h : Below ((w.alloc (.cells #[x, y] t)).alloc o).heap.size ((w.alloc (.cells #[x, y] t)).alloc o) w') : w'.cell? ⟨w.heap.size, 0, none⟩ = some x ∧ w'.cell? ⟨w.heap.size, 1, none⟩ = some y :=
  box h ⟨box_cell w #[x, y] t 0 x rfl, box_cell w #[x, y] t 1 y rfl⟩
theorem boxN3 {t : TypeId} {x y : Value} {o o2 : Obj} (h : Below (((w.alloc (.cells #[x, y] t)).alloc o).alloc o2).heap.size (((w.alloc (.cells #[x, y] t)).alloc o).alloc o2) w') : w'.cell? ⟨w.heap.size, 0, none⟩ = some x ∧ w'.cell? ⟨w.heap.size, 1, none⟩ = some y :=
  box h ⟨box_cell w #[x, y] t 0 x rfl, box_cell w #[x, y] t 1 y rfl⟩
end

theorem Blk.duo {w : World} {g : Nat} {t : TypeId} {x y : Value} (h : Blk w g t #[x, y]) :
    (w.cell? ⟨g, 0, none⟩ = some x ∧ w.cell? ⟨g, 1, none⟩ = some y) ∧ (w.frozen? ⟨g, 0, none⟩ = false ∧ w.frozen? ⟨g, 1, none⟩ = false) := ⟨⟨h.cell 0, h.cell 1⟩, h.frozen 0, h.frozen 1⟩
theorem Blk.tri {w : World} {g : Nat} {t : TypeId} {x y z : Value} (h : Blk w g t #[x, y, z]) :
    (w.cell? ⟨g, 0, none⟩ = some x ∧ w.cell? ⟨g, 1, none⟩ = some y ∧ w.cell? ⟨g, 2, none⟩ = some z) ∧ (w.frozen? ⟨g, 0, none⟩ = false ∧ w.frozen? ⟨g, 1, none⟩ = false ∧ w.frozen? ⟨g, 2, none⟩ = false) :=
  ⟨⟨h.cell 0, h.cell 1, h.cell 2⟩, h.frozen 0, h.frozen 1, h.frozen 2⟩
theorem keepF (w : World) (o : Obj) (a : Addr) (h : (w.cell? a).isSome = true) : (w.alloc o).frozen? a = w.frozen? a := by
  obtain ⟨v, hv⟩ := Option.isSome_iff_exists.1 h
  exact (below_alloc w o).frozen (cell_lt hv)
theorem Blk.go {w W w' : World} {g : Nat} {t : TypeId} {cs : Array Value} [u : Up w W] (h : Blk w g t cs) (hb : Below W.heap.size W w') : Blk w' g t cs := h.below (go1 hb) h.lt
theorem Blk.up {w W : World} {g : Nat} {t : TypeId} {cs : Array Value} [u : Up w W] (h : Blk w g t cs) : Blk W g t cs := h.below u.below h.lt

theorem Blk.set {w : World} {g : Nat} {t : TypeId} {cs : Array Value} (h : Blk w g t cs) (i : Nat) (v : Value) : Blk (w.setCell ⟨g, i, none⟩ v) g t (cs.setIfInBounds i v) := heap_setCell_same w g i cs t v h
theorem Blk.far {w : World} {g : Nat} {t : TypeId} {cs : Array Value} (h : Blk w g t cs) (a : Addr) (v : Value) (hne : g ≠ a.block) : Blk (w.setCell a v) g t cs := (heap_setCell_other w a g v hne).trans h
theorem Blk.drew {w : World} {g : Nat} {t : TypeId} {cs : Array Value} (h : Blk w g t cs) : Blk w.drew g t cs := h
theorem Blk.set2 {w : World} {g : Nat} {t : TypeId} {x y : Value} (h : Blk w g t #[x, y]) (a b : Value) : Blk ((w.setCell ⟨g, 0, none⟩ a).setCell ⟨g, 1, none⟩ b) g t #[a, b] := by simpa using (h.set 0 a).set 1 b
theorem Blk.set3 {w : World} {g : Nat} {t : TypeId} {x y z : Value} (h : Blk w g t #[x, y, z]) (a b c : Value) : Blk (((w.setCell ⟨g, 0, none⟩ a).setCell ⟨g, 1, none⟩ b).setCell ⟨g, 2, none⟩ c) g t #[a, b, c] := by simpa using ((h.set 0 a).set 1 b).set 2 c

theorem results_row_tmp {P : Program} {fn : Func} {p u : Tmp} {ty : TypeId} (h : fn.results = #[.cell p ty, .tmp u]) (tmps : Array Value) (w : World) (g : Nat) (t : TypeId) (cs : Array Value) (d : TypeDesc)
    (hp : tmps.getD p undef = .pointer (some ⟨g, 0, none⟩)) (hg : Blk w g t cs)
    (hu : P.underlying ty = some d) (hd : (match d with | .struct _ | .array _ _ => true | _ => false) = true) (hi : (P.info? ty).map (·.size) = some cs.size) (v : Value) (hv : tmps.getD u undef = v) :
    (results fn tmps).run P w = .ok (.tuple #[.agg cs, v]) w := by
  subst hv
  rw [results_cell_tmp h, hp]
  simp [asAddr, run_loadVar_row w g t ty cs (0, 0) d hg hu hd hi]

end Go.Proofs.YtfooggamdbdniaaDoor

/- What every statement's frame needs. -/
namespace Go.Proofs.YtfooggamdbdniaaDoor
open Go.ChangeShapes Go.WideShapes Go.ChangeAt Go.RowKit Go.Joins

theorem Tryd.own : ownKnob Tryd.prog.godebug = none := by kernel_rfl
theorem Tryd.laidOut : laidOutB Tryd.prog = true := by kernel_rfl

end Go.Proofs.YtfooggamdbdniaaDoor

/- Contracts of the library's counts of leading and trailing noughts at this program: laid off the shelf, in plain words (the numbers by name). -/
namespace Go.Proofs
open Go.Shelf
def YtfooggamdbdniaaDoor.lays134_ren : Go.Shelf.Ren := ⟨fun | 134 => 42 | 129 => 46 | n => n, fun | 53 => 22 | 3 => 3 | 4 => 4 | 46 => 77 | 5 => 5 | 9 => 9 | n => n, fun | n => n⟩
theorem YtfooggamdbdniaaDoor.lays134 : Go.Proofs.Lays.n134 Tryd.prog YtfooggamdbdniaaDoor.lays134_ren := {
  mixed := by kernel_rfl
  f129 := Tryd.func46.trans (congrArg some (by kernel_rfl))
  f134 := Tryd.func42.trans (congrArg some (by kernel_rfl))
  t3 := Tryd.underlying3
  a3 := Tryd.isAgg3
  z3 := Tryd.sizeOf3
  v3 := Tryd.zeroValue3
  t4 := Tryd.underlying4
  a4 := Tryd.isAgg4
  z4 := Tryd.sizeOf4
  v4 := Tryd.zeroValue4
  t5 := Tryd.underlying5
  a5 := Tryd.isAgg5
  z5 := Tryd.sizeOf5
  v5 := Tryd.zeroValue5
  t9 := Tryd.underlying9
  a9 := Tryd.isAgg9
  z9 := Tryd.sizeOf9
  v9 := Tryd.zeroValue9
  t46 := Tryd.underlying77
  a46 := Tryd.isAgg77
  z46 := Tryd.sizeOf77
  v46 := Tryd.zeroValue77
  t53 := Tryd.underlying22
  a53 := Tryd.isAgg22
  z53 := Tryd.sizeOf22
  v53 := Tryd.zeroValue22 }
theorem YtfooggamdbdniaaDoor.lz64 (x : Int) (w : World) (h0 : 0 ≤ x) (h1 : x ≤ 18446744073709551615) :
    Calls Tryd.prog 42 #[.int .u64 x] w fun e w' => e = .returned (.int .i64 (64 - (Lib.bitLen x.toNat : Int))) ∧ w' = w := Any.bits_LeadingZeros64 YtfooggamdbdniaaDoor.lays134 x w h0 h1
def YtfooggamdbdniaaDoor.lays29_ren : Go.Shelf.Ren := ⟨fun | 29 => 43 | n => n, fun | 0 => 0 | 3 => 3 | 4 => 4 | 5 => 5 | 22 => 22 | 25 => 77 | 54 => 88 | n => n, fun | 1 => 0 | n => n⟩
theorem YtfooggamdbdniaaDoor.lays29 : Go.Proofs.Lays7.n29 Tryd.prog YtfooggamdbdniaaDoor.lays29_ren := {
  mixed := by kernel_rfl
  f29 := Tryd.func43.trans (congrArg some (by kernel_rfl))
  t0 := Tryd.underlying0
  a0 := Tryd.isAgg0
  z0 := Tryd.sizeOf0
  v0 := Tryd.zeroValue0
  i0 := by kernel_rfl
  t3 := Tryd.underlying3
  a3 := Tryd.isAgg3
  z3 := Tryd.sizeOf3
  v3 := Tryd.zeroValue3
  i3 := by kernel_rfl
  t4 := Tryd.underlying4
  a4 := Tryd.isAgg4
  z4 := Tryd.sizeOf4
  v4 := Tryd.zeroValue4
  i4 := by kernel_rfl
  t5 := Tryd.underlying5
  a5 := Tryd.isAgg5
  z5 := Tryd.sizeOf5
  v5 := Tryd.zeroValue5
  i5 := by kernel_rfl
  t22 := Tryd.underlying22
  a22 := Tryd.isAgg22
  z22 := Tryd.sizeOf22
  v22 := Tryd.zeroValue22
  i22 := by kernel_rfl
  t25 := Tryd.underlying77
  a25 := Tryd.isAgg77
  z25 := Tryd.sizeOf77
  v25 := Tryd.zeroValue77
  i25 := by kernel_rfl
  t54 := Tryd.underlying88
  a54 := Tryd.isAgg88
  z54 := Tryd.sizeOf88
  g1 := by kernel_rfl }
/-- the library's table lies in its variable -/
def YtfooggamdbdniaaDoor.Tab (w : World) : Prop := TabAt 0 Lib.deBruijn64tab w
theorem YtfooggamdbdniaaDoor.tz64 (x : Nat) (hx : x < 18446744073709551616) (w : World) (hT : YtfooggamdbdniaaDoor.Tab w) :
    Calls Tryd.prog 43 #[.int .u64 x] w fun e w' => e = .returned (.int .i64 (Lib.ctz 64 x)) ∧ w' = w := Any7.bits_TrailingZeros64 YtfooggamdbdniaaDoor.lays29 x hx w fun _ => hT
end Go.Proofs

/- Frames of layer 3's cards: what is known as an argument; the listed table's cells; the witness. -/
namespace Go.Proofs.YtfooggamdbdniaaDoor
open Go.Joins Go.ChangeShapes Go.WideShapes Go.RowKit Go.Deep

section
variable {H : Type} {enc : TypeId × Value → H} {W : World}
theorem trod_fldX {P : Program} {base n : Nat} {spare : Nat → Bool} {held : Bool} {fs : Array Field} {cs : List Value} {xs : List (DataW H × List MemPlace)} (hlen : xs.length = fs.size)
    (hg : ∀ (i : Nat) (f : Field), fs[i]? = some f → DataW.trod enc P W base spare held n f.type ((cs.drop f.offset).take (P.cellsOf f.type)) = xs[i]?) (i : Nat) {ty : TypeId} {off k : Nat} (hf : fs[i]?.map (fun f => (f.type, f.offset)) = some (ty, off)) (hk : P.cellsOf ty = k) :
    ∃ y, DataW.trod enc P W base spare held n ty ((cs.drop off).take k) = some y := by
  obtain ⟨f, hff, e⟩ := Option.map_eq_some_iff.1 hf
  simp only [Prod.mk.injEq] at e
  obtain ⟨rfl, rfl⟩ := e
  subst hk
  have hi : i < xs.length := by rw [hlen]; exact (Array.getElem?_eq_some_iff.1 hff).1
  exact ⟨xs[i], (hg i f hff).trans (List.getElem?_eq_getElem hi)⟩

theorem Tryd.cellsXU : Tryd.prog.cellsOf 22 = 1 := by kernel_rfl
theorem Tryd.cellsX8 : Tryd.prog.cellsOf 5 = 1 := by kernel_rfl
theorem Tryd.cellsXB : Tryd.prog.cellsOf 4 = 1 := by kernel_rfl
theorem Tryd.cellsXV : Tryd.prog.cellsOf 24 = 4 := by kernel_rfl

theorem trodX_u64 {base n : Nat} {spare : Nat → Bool} {held : Bool} {c : Value} {y : DataW H × List MemPlace} (h : DataW.trod enc Tryd.prog W base spare held n 22 [c] = some y) : ∃ x : Nat, c = .int .u64 x ∧ x < 18446744073709551616 := by
  obtain ⟨x, e, _, wx⟩ := DataW.trod_int Tryd.underlying22 h
  have hb := bounds_u64 wx
  simp at e
  exact ⟨x.toNat, by rw [e, Int.toNat_of_nonneg hb.1], by omega⟩
theorem trodX_u8 {base n : Nat} {spare : Nat → Bool} {held : Bool} {c : Value} {y : DataW H × List MemPlace} (h : DataW.trod enc Tryd.prog W base spare held n 5 [c] = some y) : ∃ x : Nat, c = .int .u8 x ∧ x < 256 := by
  obtain ⟨x, e, _, wx⟩ := DataW.trod_int Tryd.underlying5 h
  have hb := bounds_u8 wx
  simp at e
  exact ⟨x.toNat, by rw [e, Int.toNat_of_nonneg hb.1], by omega⟩
theorem trodX_bool {base n : Nat} {spare : Nat → Bool} {held : Bool} {c : Value} {y : DataW H × List MemPlace} (h : DataW.trod enc Tryd.prog W base spare held n 4 [c] = some y) : ∃ b : Bool, c = .bool b := by
  obtain ⟨b, e, _⟩ := DataW.trod_bool Tryd.underlying4 h
  simp at e
  exact ⟨b, e⟩
/-- api.Val by value -/
theorem open_valArg {b0 : Nat} {v : Value} {d : DataW H} {p : List MemPlace} (hv : Value.okWide Tryd.prog W .any b0 24 v) (h : DataW.Trod enc Tryd.prog W 0 (fun _ => true) true 24 v d p) :
    ∃ (h : Bool) (p l b : Nat), v = .agg #[.bool h, .int .u64 p, .int .u8 l, .int .u8 b] ∧ p < 18446744073709551616 ∧ l < 256 ∧ b < 256 := by
  obtain ⟨cs, rfl, hsz⟩ := okWide_struct Tryd.underlying24 hv
  obtain ⟨l⟩ := cs
  match l, hsz.trans Tryd.cellsXV with
  | [c0, c1, c2, c3], _ =>
    obtain ⟨fuel, hf⟩ := h
    obtain ⟨xs, n, _, _, _, hlen, hg⟩ := DataW.trod_struct Tryd.underlying24 (show DataW.trod enc Tryd.prog W 0 (fun _ => true) true fuel 24 [c0, c1, c2, c3] = _ from hf)
    obtain ⟨y0, h0⟩ := trod_fldX hlen hg 0 rfl Tryd.cellsXB
    obtain ⟨y1, h1⟩ := trod_fldX hlen hg 1 rfl Tryd.cellsXU
    obtain ⟨y2, h2⟩ := trod_fldX hlen hg 2 rfl Tryd.cellsX8
    obtain ⟨y3, h3⟩ := trod_fldX hlen hg 3 rfl Tryd.cellsX8
    obtain ⟨b, rfl⟩ := trodX_bool h0
    obtain ⟨q, rfl, b1⟩ := trodX_u64 h1
    obtain ⟨l, rfl, b2⟩ := trodX_u8 h2
    obtain ⟨m, rfl, b3⟩ := trodX_u8 h3
    exact ⟨b, q, l, m, rfl, b1, b2, b3⟩
end

set_option maxRecDepth 100000 in
/-- the door's own heap meets the condition -/
theorem door_metX (os : Os) (args : Array Value) : laidMetH Tryd.prog [("math/bits.deBruijn64tab", Rows.laid_math_bits_deBruijn64tab)] ((World.doorLaid Tryd.prog 14 os).forCall (fun _ _ => 0) ⟨#[], args, []⟩).memory :=
  laidMetH_of_parts3 (fuel := 8) (laidMet_of_run' 8 (by kernel_rfl) (by kernel_rfl)) (by kernel_rfl) (by kernel_rfl)

set_option maxRecDepth 100000 in
/-- what the condition gives the walks -/
theorem tab_of_laid {W : World} (h : laidMetH Tryd.prog [("math/bits.deBruijn64tab", Rows.laid_math_bits_deBruijn64tab)] W) : YtfooggamdbdniaaDoor.Tab W := by
  rw [MakeChecks.laidMetH_plain _ _ _ (by kernel_rfl)] at h
  have e : (Rows.laid_math_bits_deBruijn64tab : DataW Unit) = Lib.tabData .u8 (Lib.deBruijn64tab.map Int.ofNat) := by kernel_rfl
  rw [e] at h
  have hg : Tryd.prog.globalNamed "math/bits.deBruijn64tab" = some 0 := by kernel_rfl
  have h' := Lib.tabIs_of_head (t := 88) (e := 5) (n := 64) hg (by kernel_rfl) Tryd.underlying88 Tryd.underlying5 (by kernel_rfl) (by kernel_rfl) h
  intro j hj
  have := World.var?_cell hg h' j
  rw [this]
  simp only [List.map_map, List.getElem?_toArray, List.getElem?_map, List.getElem?_eq_getElem hj, Option.map_some, Function.comp, List.getD_eq_getElem?_getD, Option.getD_some]
  rfl

end Go.Proofs.YtfooggamdbdniaaDoor

/-
  A slice of bytes of the call's own: what is made, appended to, stored into; kept while the world grows.
-/
namespace Go.Proofs.YtfooggamdbdniaaDoor
open Go.RowKit

/-- bytes of the call's own -/
def OwnB (w : World) (base : Nat) (v : Value) (l : List UInt8) : Prop := w.ownsRow base 5 1 v l.length (l.map bv)

/-- a value that reads as bytes -/
def IsB (w : World) (v : Value) (l : List UInt8) : Prop := ∃ A c, v = .slice A l.length c ∧ l.length ≤ c ∧ c ≤ maxLen ∧ Bs w A l

theorem IsB.below {w w' : World} {v : Value} {l : List UInt8} (h : IsB w v l) (hb : Below w.heap.size w w') : IsB w' v l := by
  obtain ⟨A, c, h1, h2, h3, h4⟩ := h
  exact ⟨A, c, h1, h2, h3, h4.below hb⟩

theorem OwnB.below {w w' : World} {base : Nat} {v : Value} {l : List UInt8} (h : OwnB w base v l) (hb : Below w.heap.size w w') : OwnB w' base v l := own_below h hb
theorem OwnB.mono {w : World} {base base' : Nat} {v : Value} {l : List UInt8} (h : OwnB w base v l) (hb : base' ≤ base) : OwnB w base' v l := own_mono h hb
theorem OwnB.nil (w : World) (base : Nat) : OwnB w base (.slice none 0 0) [] := World.ownsRow_nil _ _ _ _

theorem OwnB.isB {w : World} {base : Nat} {v : Value} {l : List UInt8} (h : OwnB w base v l) : IsB w v l := by
  rcases h.2 with ⟨rfl, h0⟩ | ⟨g, cap, cur, rfl, hbg, hgg, hn, hm, hs, ht⟩
  · have : l = [] := List.eq_nil_of_length_eq_zero h0
    subst this
    exact ⟨none, 0, rfl, Nat.le_refl _, Nat.zero_le _, Bs.nil _ _⟩
  · refine ⟨some ⟨g, 0, none⟩, cap, rfl, hn, hm, fun i b hi => ⟨g, 0, rfl, ?_⟩⟩
    rw [Nat.zero_add, cell_of_row w g i cur _ (0, 0) hgg]
    have h2 : (cur.toList.take (l.length * 1))[i]? = some (bv b) := by rw [ht, List.getElem?_map, hi]; rfl
    rw [List.getElem?_take] at h2
    split at h2
    · simpa using h2
    · cases h2

theorem Tryd.info_u8 : (Tryd.prog.info? 5).map (fun i => (i.zero, i.size, i.bytes)) = some (some (.int .u8 0), 1, 1) := by kernel_rfl

theorem OwnB.alloc {w : World} {base : Nat} {v : Value} {l : List UInt8} (h : OwnB w base v l) (o : Obj) : OwnB (w.alloc o) base v l := World.ownsRow.alloc h o

/-- 'append(out, b)' of one byte -/
theorem appB (w : World) {ops : Array Oper} {rest : List Oper} {o : Oper} {a : Act} {Q : Exit → Act → World → Prop} (hgd : o.guard = none) (s x : Operand)
    (ho : o.op = .call { callee := .builtin .append, args := #[s, x], argTypes := #[27, 27] })
    (base : Nat) (v : Value) (l : List UInt8) (hs : a.eval s = v) (hown : OwnB w base v l)
    (g : Nat) (b : UInt8) (hx : a.eval x = .slice (some ⟨g, 0, none⟩) 1 1) (hc : w.cell? ⟨g, 0, none⟩ = some (bv b)) (hlen : l.length + 1 ≤ 140737488355328) (hbase : base ≤ w.heap.size)
    (h : ∀ g' cap w', OwnB w' base (.slice (some ⟨g', 0, none⟩) (l.length + 1) cap) (l ++ [b]) → Below base w w' → wpList Tryd.prog ops Q rest (a.put o.dst (.slice (some ⟨g', 0, none⟩) (l.length + 1) cap)) w') : wpList Tryd.prog ops Q (o :: rest) a w := by
  refine app1 w hgd s x 27 ho base 5 (.int .u8 0) 1 Tryd.underlying27 Tryd.info_u8 rfl v l.length (l.map bv) hs hown g (bv b) hx hc rfl (by unfold maxLen; omega) (by omega) hbase fun v' w' h1 h2 => ?_
  have h3 := h1
  rcases h3.2 with ⟨_, h0⟩ | ⟨g', cap, cur, rfl, _⟩
  · omega
  · exact h g' cap w' (by unfold OwnB; simpa using h1) h2

theorem OwnB.form {w : World} {base : Nat} {v : Value} {l : List UInt8} (h : OwnB w base v l) (hl : 0 < l.length) :
    ∃ g cap, v = .slice (some ⟨g, 0, none⟩) l.length cap ∧ base ≤ g ∧ g < w.heap.size ∧ l.length ≤ cap := by
  rcases h.2 with ⟨_, h0⟩ | ⟨g, cap, cur, rfl, hb, hg, hc, _⟩
  · omega
  · exact ⟨g, cap, rfl, hb, (Array.getElem?_eq_some_iff.1 hg).1, hc⟩

theorem OwnB.cell {w : World} {base g n cap : Nat} {l : List UInt8} (h : OwnB w base (.slice (some ⟨g, 0, none⟩) n cap) l) (i : Nat) (hi : i < l.length) : w.cell? ⟨g, i, none⟩ = some (bv l[i]) := by
  obtain ⟨A, c, hv, _, _, hb⟩ := h.isB
  injection hv with e1 e2 e3
  subst e1
  obtain ⟨p, o, hA, hc⟩ := hb i l[i] (List.getElem?_eq_getElem hi)
  injection hA with e
  injection e with e1 e2 _
  subst e1; subst e2
  simpa using hc

theorem OwnB.len {w : World} {base g n cap : Nat} {A : Option Addr} {l : List UInt8} (h : OwnB w base (.slice A n cap) l) : n = l.length := by
  obtain ⟨A, c, hv, _⟩ := h.isB
  injection hv

theorem OwnB.frozen {w : World} {base g n cap : Nat} {l : List UInt8} (h : OwnB w base (.slice (some ⟨g, 0, none⟩) n cap) l) (i : Nat) : w.frozen? ⟨g, i, none⟩ = false := by
  have hn : n = l.length := h.len (g := g)
  subst hn
  exact World.ownsRow.frozenAt h i

theorem OwnB.set {w : World} {base g n cap : Nat} {l : List UInt8} (h : OwnB w base (.slice (some ⟨g, 0, none⟩) n cap) l) (i : Nat) (x : UInt8) :
    OwnB (w.setCell ⟨g, i, none⟩ (bv x)) base (.slice (some ⟨g, 0, none⟩) n cap) (l.set i x) := by
  have hn : n = l.length := h.len (g := g)
  subst hn
  have h1 := World.ownsRow.stored h i (bv x)
  unfold OwnB
  rw [List.map_set, List.length_set]
  exact h1.1

theorem OwnB.base {w : World} {base g n cap : Nat} {l : List UInt8} (h : OwnB w base (.slice (some ⟨g, 0, none⟩) n cap) l) (hl : 0 < l.length) : base ≤ g := by
  obtain ⟨g', cap', hv, hb, _⟩ := h.form hl
  injection hv with e
  injection e with e
  injection e with e _ _
  omega

/-- a store elsewhere -/
theorem OwnB.far {w : World} {base : Nat} {v : Value} {l : List UInt8} (h : OwnB w base v l) {p : Addr} (hp : v.ownBlock ≠ some p.block) (u : Value) : OwnB (w.setCell p u) base v l :=
  World.ownsRow.kept (row := some p.block) h ⟨rfl, rfl, rfl, by simp [World.setCell], fun k _ hk => Below.heap_setCell w p u k (fun e => hk (by rw [e]))⟩ (.inr hp)

theorem OwnB.ne {w : World} {base : Nat} {v : Value} {l : List UInt8} (h : OwnB w base v l) {k : Nat} (hk : k < base) : v.ownBlock ≠ some k := by
  intro e
  have := (World.ownsRow.lt h k e).1
  omega

theorem OwnB.drew {w : World} {base : Nat} {v : Value} {l : List UInt8} (h : OwnB w base v l) : OwnB w.drew base v l := h

theorem OwnB.lt {w : World} {base g n cap : Nat} {l : List UInt8} (h : OwnB w base (.slice (some ⟨g, 0, none⟩) n cap) l) : base ≤ g ∧ g < w.heap.size := World.ownsRow.lt h g rfl

/-- 'make([]byte, n)' -/
theorem mkB (w : World) {ops : Array Oper} {rest : List Oper} {o : Oper} {a : Act} {Q : Exit → Act → World → Prop} (hgd : o.guard = none) (lo co : Operand)
    (ho : o.op = Op.makeSlice 27 lo co) (base n : Nat) (hl : a.eval lo = .int .i64 n) (hc : a.eval co = .int .i64 n) (hn : n ≤ 140737488355328) (hbase : base ≤ w.heap.size)
    (h : ∀ w', OwnB w' base (.slice (some ⟨w.heap.size, 0, none⟩) n n) (List.replicate n 0) → Below w.heap.size w w' → wpList Tryd.prog ops Q rest (a.put o.dst (.slice (some ⟨w.heap.size, 0, none⟩) n n)) w') : wpList Tryd.prog ops Q (o :: rest) a w := by
  obtain ⟨i, hi, hz, hsz, hby⟩ := info_parts Tryd.info_u8
  refine wpList_make_full w hgd lo co 27 ho base 5 i (.int .u8 0) 1 Tryd.underlying27 hi hz hsz .i64 .i64 n n n hl hc rfl rfl (by rw [hby]; omega) (by unfold maxLen; omega) hbase fun w' h1 h2 => h w' ?_ ?_
  · unfold OwnB
    rw [List.length_replicate, List.map_replicate]
    have e : (madeCells (Value.int .u8 0).cells (n * 1)).toList = List.replicate n (bv 0) := by rw [Nat.mul_one]; exact toList_madeCells_one _ _
    rw [e] at h1
    exact h1
  · exact (Below.refl _ _).grown h2 (Nat.le_refl _) (fun k hk => by cases hk)

/-- 'copy(b, x)', b of the call's own, x not longer -/
theorem copyB (w : World) {ops : Array Oper} {rest : List Oper} {o : Oper} {a : Act} {Q : Exit → Act → World → Prop} (hgd : o.guard = none) (d s : Operand)
    (ho : o.op = .call { callee := .builtin .copy, args := #[d, s], argTypes := #[27, 27] }) (base g n cap : Nat) (L : List UInt8) (hd : a.eval d = .slice (some ⟨g, 0, none⟩) n cap)
    (hown : OwnB w base (.slice (some ⟨g, 0, none⟩) n cap) L) (A : Option Addr) (c : Nat) (l : List UInt8) (hs : a.eval s = .slice A l.length c) (hb : Bs w A l) (hln : l.length ≤ n)
    (h : ∀ w', OwnB w' base (.slice (some ⟨g, 0, none⟩) n cap) (l ++ L.drop l.length) → Below base w w' → g < w'.heap.size → wpList Tryd.prog ops Q rest (a.put o.dst (goInt l.length)) w') : wpList Tryd.prog ops Q (o :: rest) a w := by
  have hnL : n = L.length := hown.len (g := g)
  have hlt := hown.lt
  rcases hown.2 with ⟨h0, _⟩ | ⟨g', cap', cur, h', hb', hg, hnc, hcm, hcs, htake⟩
  · cases h0
  · injection h' with e1 e2 e3
    injection e1 with e1
    injection e1 with e1 _ _
    subst e1; subst e3
    have hcsz : cur.toList.length = cap := by rw [Array.length_toList, hcs, Nat.mul_one]
    refine wpList_copy_splice hgd d s 27 27 ho 5 Tryd.underlying27 (by have := Tryd.info_u8; simp only [Option.map_eq_some_iff, Prod.mk.injEq] at this ⊢; obtain ⟨i, hi, _, h2, _⟩ := this; exact ⟨i, hi, h2⟩) (some ⟨g, 0, none⟩) A n cap l.length c hd hs g 0 cur.toList 5 (by simpa using hg) (l.map bv) (by rw [List.length_map]; exact (Nat.min_eq_left hln).symm) ?_ ?_ ?_ base w (Below.refl _ _) hb' ?_
    · intro hpos
      rw [List.length_map] at hpos
      obtain ⟨p, o, rfl, _, hc⟩ := hb.at_ hpos
      refine ⟨rfl, _, rfl, fun j v hj => ?_⟩
      rw [List.getElem?_map] at hj
      obtain ⟨b, hjb, rfl⟩ := Option.map_eq_some_iff.1 hj
      obtain ⟨hjl, rfl⟩ := List.getElem?_eq_some_iff.1 hjb
      have := hc j hjl
      unfold Addr.add
      split
      · rename_i h0; subst h0; simpa using this
      · exact this
    · rw [List.length_map, hcsz, Nat.zero_add]; omega
    · intro v hv
      obtain ⟨b, _, rfl⟩ := List.mem_map.1 hv
      rfl
    · intro w' hh hbel
      rw [List.length_map]
      have hlenL : (l ++ L.drop l.length).length = L.length := by rw [List.length_append, List.length_drop]; omega
      refine h w' ⟨by rw [List.length_map, Nat.mul_one], .inr ⟨g, cap, (splice cur.toList 0 (l.map bv)).toArray, by rw [hlenL, hnL], hb', hh.out, by omega, hcm, ?_, ?_⟩⟩ hbel ?_
      · rw [List.size_toArray, length_splice _ _ _ (by rw [List.length_map, hcsz]; omega), hcsz, Nat.mul_one]
      · rw [hlenL]
        simp only [splice, List.take_zero, List.nil_append, Nat.zero_add, List.length_map, Nat.mul_one] at htake ⊢
        rw [List.take_append, List.length_map, List.take_of_length_le (by rw [List.length_map]; omega), List.map_append, List.map_drop, ← htake, List.take_drop, List.drop_take]
        congr 2
        rw [List.drop_take]
        congr 1
        omega
      · have := hh.out
        rcases Nat.lt_or_ge g w'.heap.size with h1 | h1
        · exact h1
        · rw [Array.getElem?_eq_none h1] at this; cases this

/-- 'string(b)' -/
theorem str_of {w : World} {A : Option Addr} {l : List UInt8} (h : Bs w A l) (c : Nat) : (convert 27 9 (.slice A l.length c)).run Tryd.prog w = .ok (.string ⟨l.toArray⟩) w := by
  rcases Nat.eq_zero_or_pos l.length with h0 | h0
  · have : l = [] := List.eq_nil_of_length_eq_zero h0
    subst this
    rcases A with _ | a
    · exact run_convert_bytes_nil w _ _ Tryd.underlying27 Tryd.underlying5 _ _ _ Tryd.underlying9
    · exact run_convert_bytes_back w _ _ _ a c [] Tryd.underlying27 Tryd.underlying5 Tryd.underlying9 (fun j hj => by simp at hj)
  · obtain ⟨p, o, rfl, _, hc⟩ := h.at_ h0
    refine run_convert_bytes_back w _ _ _ _ c l Tryd.underlying27 Tryd.underlying5 Tryd.underlying9 (fun j hj => ?_)
    have := hc j hj
    unfold Addr.add
    split
    · rename_i h0; subst h0; simpa using this
    · exact this

/-- what a slice of the call's own reads as -/
theorem OwnB.bs {w : World} {base n c : Nat} {A : Option Addr} {l : List UInt8} (h : OwnB w base (.slice A n c) l) : Bs w A l := by
  obtain ⟨A', c', hv, _, _, hb⟩ := h.isB
  injection hv with e1 _ _
  subst e1
  exact hb

section
variable {w W w' : World}
theorem OwnB.go [u : Up w W] {base : Nat} {v : Value} {l : List UInt8} (b : OwnB w base v l) (h : Below W.heap.size W w') : OwnB w' base v l := own_below b (go1 h)
theorem OwnB.up [u : Up w W] {base : Nat} {v : Value} {l : List UInt8} (b : OwnB w base v l) : OwnB W base v l := own_below b u.below
end

end Go.Proofs.YtfooggamdbdniaaDoor

/- The parameters of the statements, opened: what a reading gives to the walks. -/
namespace Go.Proofs.YtfooggamdbdniaaDoor
open Go.ChangeShapes Go.WideShapes Go.ChangeAt Go.RowKit Go.Joins


theorem wf_u8s {zs : List Int} (h : ∀ n ∈ zs, (Lit.int .u8 n).wf = true) : ∃ l : List UInt8, zs = l.map fun b => (b.toNat : Int) := by
  refine ⟨zs.map fun n => UInt8.ofNat n.toNat, ?_⟩
  rw [List.map_map]
  apply List.ext_getElem (by simp)
  intro i h1 h2
  simp only [List.getElem_map, Function.comp]
  have := bounds_u8 (h zs[i] (List.getElem_mem h1))
  rw [UInt8.toNat_ofNat_of_lt' (show zs[i].toNat < 256 by omega)]
  omega

section
variable {H : Type} {enc : TypeId × Value → H} {W : World}

/-- a slice of bytes, as one cell reads -/
theorem open_bytes {fuel : Nat} {v : Value} {x : DataW H × List MemPlace} {sp : Nat → Bool} {held : Bool} {b0 : Nat} (h : DataW.trod enc Tryd.prog W b0 sp held fuel 27 [v] = some x) :
    ∃ (A : Option Addr) (c : Nat) (l : List UInt8), v = .slice A l.length c ∧ l.length ≤ maxLen ∧ Bs W A l := by
  rcases open_ints Tryd.underlying27 Tryd.underlying5 (by kernel_rfl) h with ⟨hcs, _⟩ | ⟨a, len, cap, zs, hcs, _, hl, hm, hz, _, hcell, hwz⟩
  · simp at hcs
    exact ⟨none, 0, [], hcs, Nat.zero_le _, Bs.nil _ _⟩
  · simp at hcs
    obtain ⟨l, rfl⟩ := wf_u8s hwz
    have hlen : len ≤ l.length := by
      rw [List.length_map] at hz
      rw [hz]; split <;> omega
    refine ⟨some a, cap, l.take len, ?_, ?_, fun i b hi => ?_⟩
    · rw [List.length_take, Nat.min_eq_left hlen]; exact hcs
    · rw [List.length_take]; omega
    · rw [List.getElem?_take] at hi
      split at hi
      · rename_i hil
        have hil' : i < l.length := by omega
        have hc := hcell i (by rw [List.length_map]; exact hil')
        have e : (l.map fun b => (b.toNat : Int)).getD i 0 = (b.toNat : Int) := by
          rw [List.getD_eq_getElem?_getD, List.getElem?_map, hi]; rfl
        rw [e] at hc
        obtain ⟨p, o, spot⟩ := a
        have hc0 := hcell 0 (by rw [List.length_map]; omega)
        have hs : spot = none := by simpa [Addr.add] using World.cell?_spot hc0
        subst hs
        refine ⟨p, o, rfl, ?_⟩
        rw [← hc]
        congr 1
        unfold Addr.add
        split
        · rename_i h0; subst h0; rfl
        · rfl
      · cases hi

/-- api.Bits by value -/
theorem open_bits {b0 : Nat} {v : Value} {d : DataW H} {p : List MemPlace} (hv : Value.okWide Tryd.prog W .any b0 29 v) (h : DataW.Trod enc Tryd.prog W 0 (fun _ => true) true 29 v d p) :
    ∃ (A : Option Addr) (c : Nat) (l : List UInt8) (n : Int), v = .agg #[.slice A l.length c, .int .i64 n] ∧ Bs W A l ∧ (-9223372036854775808 ≤ n ∧ n ≤ 9223372036854775807) ∧ l.length ≤ maxLen := by
  obtain ⟨c0, c1, y0, y1, m, rfl, _, _, hy0, hy1⟩ := open_agg2 Tryd.underlying29 (by kernel_rfl) (by kernel_rfl) hv h
  obtain ⟨A, c, l, rfl, hl, hb⟩ := open_bytes hy0
  obtain ⟨n, e1, _, wn⟩ := DataW.trod_int Tryd.underlying3 hy1
  simp at e1
  subst e1
  exact ⟨A, c, l, n, rfl, hb, bounds_i64 wn, hl⟩
end

end Go.Proofs.YtfooggamdbdniaaDoor

/-
  A region that draws its order, some of whose operations make memory (calls above all) and hand back values that nobody can name ahead; all others read and compute. One walk in the order of the text serves every order: an operation that reads only what the world held when the region began is walked from there, one that reads what a call made from the world behind that call.
-/
namespace Go.Proofs.YtfooggamdbdniaaDoor
open Go.RowKit

/-- operations that call nothing -/
def calmB (o : Oper) : Bool := match o.op with
  | .call c => match c.callee with
    | .builtin .len | .builtin .cap | .builtin .min | .builtin .max => true
    | _ => false
  | .go _ | .defer _ | .panic _ | .send .. | .recv .. | .select .. | .nilCheck _ => false
  | _ => true

section
variable (P : Program) (w w' : World) (f : FuncId) (args : Array Value)
theorem not_enter_v (s : Sem Value) : (do pure (Next.value (← s)) : Sem Next).run P w ≠ .ok (.enter f args) w' := by
  intro h
  simp only [Sem.run_bind] at h
  cases hs : s.run P w <;> simp [hs, Result.andThen, Sem.run_pure] at h
theorem not_enter_u (s : Sem Unit) : (do s; pure Next.skip : Sem Next).run P w ≠ .ok (.enter f args) w' := by
  intro h
  simp only [Sem.run_bind] at h
  cases hs : s.run P w <;> simp [hs, Result.andThen, Sem.run_pure] at h
theorem not_enter_p (s : Sem Bool) (x y : Value) : (do pure (Next.value (if ← s then x else y)) : Sem Next).run P w ≠ .ok (.enter f args) w' := by
  intro h
  simp only [Sem.run_bind] at h
  cases hs : s.run P w <;> simp [hs, Result.andThen, Sem.run_pure] at h
theorem calm_spec {o : Oper} (h : calmB o = true) (ρ : Operand → Value) : (execOp ρ o).run P w ≠ .ok (.enter f args) w' := by
  intro hr
  unfold calmB at h
  cases ho : o.op
  all_goals (simp only [ho] at h; unfold execOp at hr; simp only [ho] at hr)
  all_goals try (exact not_enter_v P w w' f args _ hr)
  all_goals try (exact not_enter_u P w w' f args _ hr)
  all_goals try (exact not_enter_p P w w' f args _ _ _ hr)
  all_goals try (cases hr; done)
  all_goals try (cases h; done)
  case call c =>
    cases hc : c.callee with
    | builtin b =>
      simp only [hc] at h
      cases b <;> simp only at h <;> try (cases h; done)
      all_goals
        simp [resolve, hc, Result.andThen, invoke, builtin] at hr
        (split at hr <;> cases hr)
    | invoke r n => simp [hc] at h
    | value f => simp [hc] at h
end

/-- what an operation that may make memory leaves -/
def growUpon (P : Program) (w : World) (R : Value → World → Prop) : Result Next → Prop
  | .ok (.value u) w' => Below w.heap.size w w' ∧ R u w'
  | .ok (.enter f args) w' => w' = w ∧ Calls P f args w (fun e w'' => ∃ v, e = .returned v ∧ Below w.heap.size w w'' ∧ R v w'')
  | _ => False

theorem calls_some {P : Program} {f : FuncId} {args : Array Value} {w : World} {R : Ending → World → Prop} (h : Calls P f args w R) : ∃ e w', R e w' := by
  obtain ⟨e, w', _, hr, _⟩ := h []
  exact ⟨e, w', hr⟩
theorem growUpon_some {P : Program} {w : World} {R : Value → World → Prop} {r : Result Next} (h : growUpon P w R r) : ∃ v w', Below w.heap.size w w' ∧ R v w' := by
  unfold growUpon at h
  split at h
  · exact ⟨_, _, h⟩
  · obtain ⟨_, hc⟩ := h
    obtain ⟨e, w', v, _, h1, h2⟩ := calls_some hc
    exact ⟨v, w', h1, h2⟩
  · exact h.elim

def upd (E : Nat → World) (k : Nat) (z : World) : Nat → World := fun j => if j = k then z else E j
theorem upd_same (E : Nat → World) (k : Nat) (z : World) : upd E k z k = z := if_pos rfl
theorem upd_ne {E : Nat → World} {k j : Nat} {z : World} (h : j ≠ k) : upd E k z j = E j := if_neg h
theorem upd_comm (E : Nat → World) {i j : Nat} (x y : World) (h : i ≠ j) : upd (upd E i x) j y = upd (upd E j y) i x := by
  funext k
  unfold upd
  by_cases h1 : k = j
  · subst h1
    rw [if_pos rfl, if_neg (fun e => h e.symm), if_pos rfl]
  · rw [if_neg h1]
    by_cases h2 : k = i
    · rw [if_pos h2, if_pos h2]
    · rw [if_neg h2, if_neg h2, if_neg h1]

abbrev cls (W : World) : World → Prop := fun w' => ∃ x, w' = plus W x
theorem cls_self (W : World) : cls W W := ⟨⟨#[], W.drawn⟩, by simp [plus]⟩

section
variable {P : Program} {md : Region.Mode} {ops : Array Oper} (ch : List (Option Nat)) (sp : List Nat) (RR : Nat → Value → World → Prop) (w : World)

/-- the world from which operation k is walked -/
def from_ (E : Nat → World) (k : Nat) : World := match ch.getD k none with
  | none => w
  | some i => E i

/-- operation k comes up -/
def fOp (P : Program) (ops : Array Oper) (k : Nat) (E : Nat → World) (K : (Nat → World) → Act → Prop) (a : Act) : Prop :=
  match ops[k]? with
  | none => K E a
  | some o => if Region.wanted o (yielded ops a.tmps) then
      (if sp.contains k then (∀ w', cls (from_ ch w E k) w' → growUpon P w' (RR k) ((execOp a.eval o).run P w')) ∧ ∀ v z, RR k v z → Below (from_ ch w E k).heap.size (from_ ch w E k) z → K (upd E k z) (a.put o.dst v)
       else o.quiet P a (cls (from_ ch w E k)) (K E))
    else K E (a.put o.dst undef)

def wpAnyF (P : Program) (md : Region.Mode) (ops : Array Oper) (Q : (Nat → World) → Act → Prop) : Nat → Array Bool → (Nat → World) → Act → Prop
  | 0, seen, E, a => Region.ready md ops seen = [] ∧ Q E a
  | f + 1, seen, E, a => (Region.ready md ops seen = [] → Q E a) ∧ ∀ i ∈ Region.ready md ops seen, fOp ch sp RR w P ops i E (wpAnyF P md ops Q f (seen.setIfInBounds i true)) a

/-- the walk in the order of the text -/
def walkF (P : Program) (ops : Array Oper) (Q : (Nat → World) → Act → Prop) : List Oper → Nat → (Nat → World) → Act → Prop
  | [], _, E, a => Q E a
  | o :: l, k, E, a => if Region.wanted o (yielded ops a.tmps) then
      (if sp.contains k then (∀ w', cls (from_ ch w E k) w' → growUpon P w' (RR k) ((execOp a.eval o).run P w')) ∧ ∀ v z, RR k v z → Below (from_ ch w E k).heap.size (from_ ch w E k) z → walkF P ops Q l (k + 1) (upd E k z) (a.put o.dst v)
       else o.quiet P a (cls (from_ ch w E k)) (walkF P ops Q l (k + 1) E))
    else walkF P ops Q l (k + 1) E (a.put o.dst undef)
variable {ch sp RR w}

theorem fOp_mono {k : Nat} {E : Nat → World} {a : Act} {K K' : (Nat → World) → Act → Prop} (h : ∀ E a, K E a → K' E a) (hh : fOp ch sp RR w P ops k E K a) : fOp ch sp RR w P ops k E K' a := by
  unfold fOp at *
  split
  · rename_i ho; simp only [ho] at hh; exact h _ _ hh
  · rename_i o ho
    simp only [ho] at hh
    split
    · rename_i hw
      simp only [hw, if_true] at hh
      split
      · rename_i hs
        rw [if_pos hs] at hh
        exact ⟨hh.1, fun v z h1 h2 => h _ _ (hh.2 v z h1 h2)⟩
      · rename_i hs
        rw [if_neg hs] at hh
        exact Oper.quiet_mono (h E) hh
    · rename_i hw
      simp only [hw] at hh
      exact h _ _ hh

/-- closed facts about a region: each world that an operation is walked from stands behind an operation that it waits for; what is no maker of memory is calm -/
def ancB (md : Region.Mode) (ops : Array Oper) (i : Nat) : Nat → Nat → Bool
  | 0, _ => false
  | f + 1, j => match ops[j]? with
    | none => false
    | some oj => oj.after.any fun e => Region.binds md e && (e.on == i || ancB md ops i f e.on)
def freshB (md : Region.Mode) (ops : Array Oper) (ch : List (Option Nat)) (sp : List Nat) : Bool :=
  (List.range ops.size).all fun j => (match ch.getD j none with
    | none => true
    | some i => ancB md ops i 4 j) && (sp.contains j || match ops[j]? with
    | none => true
    | some o => calmB o)

def Closed (md : Region.Mode) (ops : Array Oper) (seen : Array Bool) : Prop :=
  seen.size = ops.size ∧ ∀ j oj, ops[j]? = some oj → seen.getD j false = true → ∀ e ∈ oj.after, Region.binds md e = true → seen.getD e.on false = true
theorem Closed.set {seen : Array Bool} {i : Nat} (h : Closed md ops seen) (hi : i ∈ Region.ready md ops seen) : Closed md ops (seen.setIfInBounds i true) := by
  obtain ⟨_, oi, hoi, hall⟩ := mem_ready.1 hi
  refine ⟨by simp [h.1], fun j oj hj hl e he hb => ?_⟩
  by_cases hij : i = j
  · subst hij
    have : oj = oi := Option.some.inj (hj.symm.trans hoi)
    subst this
    exact getD_set_true (hall e he hb)
  · rw [getD_set_ne false hij] at hl
    exact getD_set_true (h.2 j oj hj hl e he hb)
theorem anc_seen {seen : Array Bool} (h : Closed md ops seen) (i : Nat) : ∀ (f j : Nat) (oj : Oper), ops[j]? = some oj → (∀ e ∈ oj.after, Region.binds md e = true → seen.getD e.on false = true) → ancB md ops i f j = true → seen.getD i false = true := by
  intro f
  induction f with
  | zero => intro j oj _ _ h; simp [ancB] at h
  | succ f ih =>
    intro j oj hoj hall hB
    unfold ancB at hB
    rw [hoj] at hB
    obtain ⟨e, he, hb⟩ := Array.any_eq_true'.1 hB
    simp only [Bool.and_eq_true, Bool.or_eq_true, beq_iff_eq] at hb
    have hs := hall e he hb.1
    rcases hb.2 with h1 | h1
    · rw [← h1]; exact hs
    · have hlt : e.on < ops.size := by
        rcases Nat.lt_or_ge e.on ops.size with h | h
        · exact h
        · unfold ancB at h1
          cases f with
          | zero => simp at h1
          | succ f => simp [Array.getElem?_eq_none h] at h1
      exact ih e.on (ops[e.on]) (Array.getElem?_eq_getElem hlt) (h.2 _ _ (Array.getElem?_eq_getElem hlt) hs) h1
theorem fresh_ch (hB : freshB md ops ch sp = true) {seen : Array Bool} (hc : Closed md ops seen) {i j : Nat} (hj : j ∈ Region.ready md ops seen) (hi : seen.getD i true = false) : ch.getD j none ≠ some i := by
  intro he
  obtain ⟨_, oj, hoj, hall⟩ := mem_ready.1 hj
  have h1 := List.all_eq_true.1 hB j (List.mem_range.2 (Array.getElem?_eq_some_iff.1 hoj).1)
  simp only [he, Bool.and_eq_true] at h1
  have := anc_seen hc i _ j oj hoj hall h1.1
  rw [getD_both hi] at this
  cases this
theorem fresh_calm (hB : freshB md ops ch sp = true) {j : Nat} {o : Oper} (hj : ops[j]? = some o) (hs : sp.contains j = false) : calmB o = true := by
  have h1 := List.all_eq_true.1 hB j (List.mem_range.2 (Array.getElem?_eq_some_iff.1 hj).1)
  simp only [Bool.and_eq_true, hs, Bool.false_or, hj] at h1
  exact h1.2
theorem from_upd {E : Nat → World} {i j : Nat} {z : World} (h : ch.getD j none ≠ some i) : from_ ch w (upd E i z) j = from_ ch w E j := by
  unfold from_
  split
  · rfl
  · rename_i k hk
    exact upd_ne fun e => h (by rw [hk, e])

/-- in one world of a class a calm operation yields one value -/
theorem quiet_one {o : Oper} {a : Act} {C : World → Prop} {u v : Value} {w : World} (hw : C w) (hcalm : calmB o = true) (hu : o.quietAt P a C w u) (hv : o.quietAt P a C w v) : u = v := by
  unfold Oper.quietAt at hu hv
  have hne := calm_spec P w
  cases hr : (execOp a.eval o).run P w with
  | halt h w' => rw [hr] at hu; simp [Oper.quietUpon] at hu
  | ok n w' =>
    rw [hr] at hu hv
    cases n with
    | value x => simp only [Oper.quietUpon] at hu hv; rw [← hu.2, ← hv.2]
    | skip => simp only [Oper.quietUpon] at hu hv; rw [hu.2, hv.2]
    | enter f args => exact absurd hr (hne w' f args hcalm _)
    | _ => simp [Oper.quietUpon] at hu

/-- what operation i does in state a, as the walk shows it -/
def Shows (ch : List (Option Nat)) (sp : List Nat) (RR : Nat → Value → World → Prop) (w : World) (P : Program) (ops : Array Oper) (i : Nat) (oi : Oper) (E : Nat → World) (a : Act) (G : (Nat → World) → Value → Prop) : Prop :=
  (Region.wanted oi (yielded ops a.tmps) = true ∧ sp.contains i = true ∧ (∀ w', cls (from_ ch w E i) w' → growUpon P w' (RR i) ((execOp a.eval oi).run P w')) ∧
      (∃ v z, RR i v z ∧ Below (from_ ch w E i).heap.size (from_ ch w E i) z) ∧ ∀ v z, RR i v z → Below (from_ ch w E i).heap.size (from_ ch w E i) z → G (upd E i z) v) ∨
  (Region.wanted oi (yielded ops a.tmps) = true ∧ sp.contains i = false ∧ ∃ v, (∀ w', cls (from_ ch w E i) w' → oi.quietAt P a (cls (from_ ch w E i)) w' v) ∧ G E v) ∨
  (Region.wanted oi (yielded ops a.tmps) = false ∧ G E undef)

theorem shows_iff {i : Nat} {oi : Oper} {E : Nat → World} {a : Act} {K : (Nat → World) → Act → Prop} (hi : ops[i]? = some oi) :
    fOp ch sp RR w P ops i E K a ↔ Shows ch sp RR w P ops i oi E a fun E' v => K E' (a.put oi.dst v) := by
  unfold fOp Shows
  simp only [hi]
  by_cases hw : Region.wanted oi (yielded ops a.tmps) = true
  · simp only [hw, if_true, true_and, Bool.true_eq_false, false_and, or_false]
    by_cases hs : sp.contains i = true
    · simp only [hs, if_true, true_and, Bool.true_eq_false, false_and, or_false]
      constructor
      · rintro ⟨h1, h2⟩
        obtain ⟨v, z, hb, hr⟩ := growUpon_some (h1 _ (cls_self _))
        exact ⟨h1, ⟨v, z, hr, hb⟩, h2⟩
      · rintro ⟨h1, _, h2⟩
        exact ⟨h1, h2⟩
    · have hs' : sp.contains i = false := by simpa using hs
      simp only [hs', Bool.false_eq_true, if_false, false_and, true_and, false_or]
      rfl
  · have hw' : Region.wanted oi (yielded ops a.tmps) = false := by simpa using hw
    simp only [hw', Bool.false_eq_true, if_false, false_and, true_and, false_or]

/-- i's showing stays when j's value is put, and the other way round -/
theorem fOp_put {i j : Nat} {oi oj : Oper} (hj : ops[j]? = some oj) (hap : oi.apart ops oj = true) (hij : j ≠ i) (hci : ch.getD i none ≠ some j) (hcj : ch.getD j none ≠ some i)
    (hsi : ∀ cs b, oi.op ≠ .select cs b) (hsj : ∀ cs b, oj.op ≠ .select cs b) (hcalm : sp.contains j = false → calmB oj = true) {K : (Nat → World) → Act → Prop} {E : Nat → World} {a : Act}
    (h : Shows ch sp RR w P ops i oi E a fun E' v => fOp ch sp RR w P ops j E' K (a.put oi.dst v)) :
    fOp ch sp RR w P ops j E (fun E' a' => Shows ch sp RR w P ops i oi E' a' fun E'' v => K E'' (a'.put oi.dst v)) a := by
  obtain ⟨h1, h2, h3⟩ := Oper.apart_spec hap
  have kw : ∀ (u : Value), Region.wanted oi (yielded ops (a.put oj.dst u).tmps) = Region.wanted oi (yielded ops a.tmps) := fun u => wanted_put oi a oj.dst u h3
  have ke : ∀ (u : Value), execOp (a.put oj.dst u).eval oi = execOp a.eval oi := fun u => execOp_put oi hsi a oj.dst u h3
  have kwj : ∀ (v : Value), Region.wanted oj (yielded ops (a.put oi.dst v).tmps) = Region.wanted oj (yielded ops a.tmps) := fun v => wanted_put oj a oi.dst v h1
  have kej : ∀ (v : Value), execOp (a.put oi.dst v).eval oj = execOp a.eval oj := fun v => execOp_put oj hsj a oi.dst v h1
  have comm : ∀ (v u : Value), (a.put oi.dst v).put oj.dst u = (a.put oj.dst u).put oi.dst v := fun v u => Act.put_comm a v u h2
  rw [shows_iff hj]
  have fj : ∀ z, from_ ch w (upd E i z) j = from_ ch w E j := fun z => from_upd hcj
  have fi : ∀ z, from_ ch w (upd E j z) i = from_ ch w E i := fun z => from_upd hci
  rcases h with ⟨hw, hs, hgrow, ⟨v0, z0, hr0, hb0⟩, hall⟩ | ⟨hw, hs, v, hq, hv⟩ | ⟨hw, hv⟩
  · -- i makes memory
    simp only at hall
    have h0 := hall v0 z0 hr0 hb0
    rw [shows_iff hj] at h0
    unfold Shows at h0 ⊢
    simp only [kwj, kej, fj] at h0
    rcases h0 with ⟨wj, sj, gj, ej, _⟩ | ⟨wj, sj, u, qj, _⟩ | ⟨wj, _⟩
    · refine .inl ⟨wj, sj, gj, ej, fun u zj hru hbu => .inl ⟨by rw [kw]; exact hw, hs, by rw [fi, ke]; exact hgrow, ⟨v0, z0, hr0, by rw [fi]; exact hb0⟩, fun v z hr hb => ?_⟩⟩
      rw [fi] at hb
      have hx := hall v z hr hb
      rw [shows_iff hj] at hx
      unfold Shows at hx
      simp only [kwj, kej, fj, wj, sj] at hx
      simp only [true_and, Bool.true_eq_false, false_and, or_false] at hx
      have := hx.2.2 u zj hru hbu
      rw [upd_comm E z zj (Ne.symm hij), comm] at this
      exact this
    · refine .inr (.inl ⟨wj, sj, u, fun w' hw' => by have := qj w' hw'; unfold Oper.quietAt at this ⊢; rwa [kej] at this, .inl ⟨by rw [kw]; exact hw, hs, by rw [ke]; exact hgrow, ⟨v0, z0, hr0, hb0⟩, fun v z hr hb => ?_⟩⟩)
      have hx := hall v z hr hb
      rw [shows_iff hj] at hx
      unfold Shows at hx
      simp only [kwj, fj, wj, sj] at hx
      simp only [true_and, Bool.false_eq_true, Bool.true_eq_false, false_and, or_false, false_or] at hx
      obtain ⟨u', qj', hx⟩ := hx
      have e : u' = u := by
        have x1 := qj' _ (cls_self _)
        have x2 := qj _ (cls_self _)
        unfold Oper.quietAt at x1 x2
        rw [kej] at x1 x2
        exact quiet_one (a := a) (cls_self _) (hcalm sj) x1 x2
      subst e
      rw [comm] at hx
      exact hx
    · refine .inr (.inr ⟨wj, .inl ⟨by rw [kw]; exact hw, hs, by rw [ke]; exact hgrow, ⟨v0, z0, hr0, hb0⟩, fun v z hr hb => ?_⟩⟩)
      have hx := hall v z hr hb
      rw [shows_iff hj] at hx
      unfold Shows at hx
      simp only [kwj, wj] at hx
      simp only [Bool.false_eq_true, false_and, false_or, true_and] at hx
      rw [comm] at hx
      exact hx
  · -- i is quiet
    rw [shows_iff hj] at hv
    unfold Shows at hv ⊢
    simp only [kwj, kej] at hv
    have qi : ∀ u w', cls (from_ ch w E i) w' → oi.quietAt P (a.put oj.dst u) (cls (from_ ch w E i)) w' v := fun u w' hw' => by
      have := hq w' hw'; unfold Oper.quietAt at this ⊢; rwa [ke]
    rcases hv with ⟨wj, sj, gj, ej, hk⟩ | ⟨wj, sj, u, qj, hk⟩ | ⟨wj, hk⟩
    · refine .inl ⟨wj, sj, gj, ej, fun u zj hru hbu => .inr (.inl ⟨by rw [kw]; exact hw, hs, v, by rw [fi]; exact qi u, ?_⟩)⟩
      have := hk u zj hru hbu
      rw [comm] at this; exact this
    · refine .inr (.inl ⟨wj, sj, u, fun w' hw' => by have := qj w' hw'; unfold Oper.quietAt at this ⊢; rwa [kej] at this, .inr (.inl ⟨by rw [kw]; exact hw, hs, v, qi u, ?_⟩)⟩)
      rw [comm] at hk; exact hk
    · refine .inr (.inr ⟨wj, .inr (.inl ⟨by rw [kw]; exact hw, hs, v, qi undef, ?_⟩)⟩)
      rw [comm] at hk; exact hk
  · -- i is passed over
    rw [shows_iff hj] at hv
    unfold Shows at hv ⊢
    simp only [kwj, kej] at hv
    rcases hv with ⟨wj, sj, gj, ej, hk⟩ | ⟨wj, sj, u, qj, hk⟩ | ⟨wj, hk⟩
    · refine .inl ⟨wj, sj, gj, ej, fun u zj hru hbu => .inr (.inr ⟨by rw [kw]; exact hw, ?_⟩)⟩
      have := hk u zj hru hbu
      rw [comm] at this; exact this
    · refine .inr (.inl ⟨wj, sj, u, fun w' hw' => by have := qj w' hw'; unfold Oper.quietAt at this ⊢; rwa [kej] at this, .inr (.inr ⟨by rw [kw]; exact hw, ?_⟩)⟩)
      rw [comm] at hk; exact hk
    · refine .inr (.inr ⟨wj, .inr (.inr ⟨by rw [kw]; exact hw, ?_⟩)⟩)
      rw [comm] at hk; exact hk

/-- an operation that may come up may be taken first -/
theorem wpAnyF_first {Q : (Nat → World) → Act → Prop} {i : Nat} {oi : Oper} (hi : ops[i]? = some oi) (hsel : ∀ (j : Nat) (o : Oper) cs b, ops[j]? = some o → o.op ≠ .select cs b) (hB : freshB md ops ch sp = true) :
    ∀ (f : Nat) (seen : Array Bool) (E : Nat → World) (a : Act), Closed md ops seen →
      (∀ j oj, ops[j]? = some oj → j ≠ i → seen.getD j true = false → (∀ e ∈ oj.after, Region.binds md e = true → e.on ≠ i) → oi.apart ops oj = true) →
      i ∈ Region.ready md ops seen → Shows ch sp RR w P ops i oi E a (fun E' v => wpAnyF ch sp RR w P md ops Q f (seen.setIfInBounds i true) E' (a.put oi.dst v)) →
      wpAnyF ch sp RR w P md ops Q (f + 1) seen E a := by
  have some_of : ∀ {E a} {G : (Nat → World) → Value → Prop}, Shows ch sp RR w P ops i oi E a G → ∃ E' v, G E' v := by
    rintro E a G (⟨_, _, _, ⟨v, z, h1, h2⟩, h⟩ | ⟨_, _, v, _, h⟩ | ⟨_, h⟩)
    · exact ⟨_, _, h v z h1 h2⟩
    · exact ⟨_, _, h⟩
    · exact ⟨_, _, h⟩
  have shows_mono : ∀ {E a} {G G' : (Nat → World) → Value → Prop}, (∀ E v, G E v → G' E v) → Shows ch sp RR w P ops i oi E a G → Shows ch sp RR w P ops i oi E a G' := by
    rintro E a G G' hg (⟨h1, h2, h3, h4, h⟩ | ⟨h1, h2, v, h3, h⟩ | ⟨h1, h⟩)
    · exact .inl ⟨h1, h2, h3, h4, fun v z x y => hg _ _ (h v z x y)⟩
    · exact .inr (.inl ⟨h1, h2, v, h3, hg _ _ h⟩)
    · exact .inr (.inr ⟨h1, hg _ _ h⟩)
  intro f
  induction f with
  | zero =>
    intro seen E a hc _ hr H
    refine ⟨fun h => (by rw [h] at hr; cases hr), fun j hj => ?_⟩
    by_cases hji : j = i
    · subst hji; rw [shows_iff hi]; exact H
    · obtain ⟨E', v, h⟩ := some_of H
      have := ready_mono hj hji
      rw [h.1] at this
      cases this
  | succ f ih =>
    intro seen E a hc hfree hr H
    refine ⟨fun h => (by rw [h] at hr; cases hr), fun j hj => ?_⟩
    by_cases hji : j = i
    · subst hji; rw [shows_iff hi]; exact H
    · obtain ⟨hjun, oj, hoj, hall⟩ := mem_ready.1 hj
      have hiun := (mem_ready.1 hr).1
      have hnot : ∀ e ∈ oj.after, Region.binds md e = true → e.on ≠ i := fun e he hb heq => by
        have h1 := hall e he hb
        rw [heq, getD_both hiun] at h1
        cases h1
      have H2 := shows_mono (fun E' v h => h.2 j (ready_mono hj hji)) H
      have h2 := fOp_put hoj (hfree j oj hoj hji hjun hnot) hji (fresh_ch hB hc hr hjun) (fresh_ch hB hc hj hiun) (fun cs b => hsel i oi cs b hi) (fun cs b => hsel j oj cs b hoj) (fun hs => fresh_calm hB hoj hs) H2
      have hfree' : ∀ k ok, ops[k]? = some ok → k ≠ i → (seen.setIfInBounds j true).getD k true = false →
          (∀ e ∈ ok.after, Region.binds md e = true → e.on ≠ i) → oi.apart ops ok = true := fun k ok hk hki hun hno => by
        refine hfree k ok hk hki ?_ hno
        by_cases hjk : j = k
        · subst hjk; exact hjun
        · rw [getD_set_ne true hjk] at hun; exact hun
      refine fOp_mono (fun E' a' h3 => ih (seen.setIfInBounds j true) E' a' (hc.set hj) hfree' (ready_mono hr (Ne.symm hji)) ?_) h2
      rw [Array.setIfInBounds_comm _ _ hji]
      exact h3

theorem wpAnyF_lex {Q : (Nat → World) → Act → Prop} (hs : Region.noSelect ops = true) (hB : freshB md ops ch sp = true) : ∀ (l : List Oper) (k : Nat) (seen : Array Bool) (E : Nat → World) (a : Act), (∀ j, l[j]? = ops[k + j]?) → Closed md ops seen →
    Region.lexFrom md ops l.length k seen = true → walkF ch sp RR w P ops Q l k E a → wpAnyF ch sp RR w P md ops Q l.length seen E a
  | [], _, _, _, _, _, _, hL, h => ⟨by simpa [Region.lexFrom] using hL, h⟩
  | o :: l, k, seen, E, a, hl, hc, hL, h => by
    have h0 : ops[k]? = some o := by simpa using (hl 0).symm
    simp only [List.length_cons, Region.lexFrom, Bool.and_eq_true] at hL
    obtain ⟨⟨hr, hf⟩, hL'⟩ := hL
    have hr' : k ∈ Region.ready md ops seen := by simpa using hr
    have hst : fOp ch sp RR w P ops k E (walkF ch sp RR w P ops Q l (k + 1)) a := by unfold fOp; simp only [h0]; exact h
    refine wpAnyF_first h0 (Region.noSelect_spec hs) hB l.length seen E a hc (Region.free_spec h0 hf) hr' ?_
    rw [shows_iff h0] at hst
    have ih := fun (E' : Nat → World) (v : Value) => wpAnyF_lex (Q := Q) hs hB l (k + 1) (seen.setIfInBounds k true) E' (a.put o.dst v) (fun j => by have := hl (j + 1); simpa [Nat.add_assoc, Nat.add_comm 1 j] using this) (hc.set hr') hL'
    rcases hst with ⟨h1, h2, h3, h4, h⟩ | ⟨h1, h2, v, h3, h⟩ | ⟨h1, h⟩
    · exact .inl ⟨h1, h2, h3, h4, fun v z x y => ih _ _ (h v z x y)⟩
    · exact .inr (.inl ⟨h1, h2, v, h3, ih _ _ h⟩)
    · exact .inr (.inr ⟨h1, ih _ _ h⟩)

def Gr (A B : World) : Prop := Below A.heap.size A B
theorem Gr.trans {A B C : World} (h : Gr A B) (k : Gr B C) : Gr A C := Below.trans h (Below.mono k h.size)

theorem wpAny_of_F {Q : (Nat → World) → Act → Prop} {Q' : Exit → Act → World → Prop} (hB : freshB md ops ch sp = true) (hQ : ∀ E a w', Gr w w' → (∀ i, Gr (E i) w') → Q E a → Q' .normal a w') :
    ∀ (f : Nat) (seen : Array Bool) (E : Nat → World) (a : Act) (w' : World), Gr w w' → (∀ i, Gr (E i) w') → wpAnyF ch sp RR w P md ops Q f seen E a → wpAny P md ops Q' f seen a w'
  | 0, _, E, a, w', h0, hE, h => ⟨h.1, hQ _ _ _ h0 hE h.2⟩
  | f + 1, seen, E, a, w', h0, hE, h => by
    refine ⟨fun hr => hQ _ _ _ h0 hE (h.1 hr), fun k hk => ?_⟩
    have hk' := h.2 k hk
    have ih := fun E' a' w'' (x : Gr w w'') (y : ∀ i, Gr (E' i) w'') => wpAny_of_F (Q' := Q') hB hQ f (seen.setIfInBounds k true) E' a' w'' x y
    have hcls : cls (from_ ch w E k) w' := by
      unfold from_
      split
      · exact below_plus h0
      · exact below_plus (hE _)
    obtain ⟨_, o, ho, _⟩ := mem_ready.1 hk
    unfold fOp at hk'
    unfold wpOp
    simp only [ho] at hk' ⊢
    split
    · rename_i hw
      simp only [hw, if_true] at hk'
      refine .inl ?_
      by_cases hs : sp.contains k = true
      · rw [if_pos hs] at hk'
        obtain ⟨hg, hn⟩ := hk'
        have hg := hg w' hcls
        have hfb : Gr (from_ ch w E k) w' := by
          unfold from_
          split
          · exact h0
          · exact hE _
        have fin : ∀ v z, Below w'.heap.size w' z → RR k v z → wpAny P md ops Q' f (seen.setIfInBounds k true) (a.put o.dst v) z := fun v z hb hr => by
          have hg : Gr w' z := hb
          refine ih _ _ z (h0.trans hg) (fun i => ?_) (hn v z hr (hfb.trans hg))
          unfold upd
          split
          · exact Below.refl _ _
          · exact (hE i).trans hg
        unfold growUpon at hg
        unfold Oper.wp
        generalize (execOp a.eval o).run P w' = r at *
        split at hg
        · exact fin _ _ hg.1 hg.2
        · obtain ⟨rfl, hcall⟩ := hg
          refine hcall.mono fun e w'' ⟨v, he, hb, hr⟩ => ?_
          subst he
          exact fin v w'' hb hr
        · exact hg.elim
      · rw [if_neg hs] at hk'
        obtain ⟨v, hq, hn⟩ := hk'
        have hq := hq w' hcls
        have hcalm := fresh_calm hB ho (by simpa using hs)
        unfold Oper.quietAt at hq
        unfold Oper.wp
        have hne := calm_spec P w'
        cases hr : (execOp a.eval o).run P w' with
        | halt h w'' => rw [hr] at hq; simp [Oper.quietUpon] at hq
        | ok n w'' =>
          rw [hr] at hq
          cases n with
          | value x =>
            obtain ⟨rfl, rfl⟩ := hq
            exact ih _ _ _ h0 hE hn
          | skip =>
            obtain ⟨rfl, rfl⟩ := hq
            exact ih _ _ _ h0 hE hn
          | enter f args => exact absurd hr (hne w'' f args hcalm _)
          | _ => simp [Oper.quietUpon] at hq
    · rename_i hw
      simp only [hw] at hk'
      exact ih _ _ _ h0 hE hk'

/-- one walk serves every order -/
theorem wp_region_fresh {id : Nat} {Q : Exit → Act → World → Prop} {a : Act} {l : List Oper} (ch : List (Option Nat)) (sp : List Nat) (RR : Nat → Value → World → Prop) (hm : P.follows .mixedOrders = true) (hL : Region.lexB .any l.toArray = true) (hB : freshB .any l.toArray ch sp = true)
    (h : walkF ch sp RR w P l.toArray (fun E a' => ∀ w', Gr w w' → (∀ i, Gr (E i) w') → Q .normal a' w') l 0 (fun _ => w) a) : (Code.region id l.toArray true).wp P Q a w := by
  simp only [Region.lexB, Bool.and_eq_true] at hL
  refine wp_region_any hm ?_
  have hgr : Gr w { w with drawn := w.drawn + 1 } := ⟨rfl, rfl, rfl, Nat.le_refl _, fun _ _ => rfl⟩
  have := wpAnyF_lex (ch := ch) (sp := sp) (RR := RR) (w := w) (P := P) (md := .any) (ops := l.toArray) hL.1 hB l 0 (Array.replicate l.toArray.size false) (fun _ => w) a (by simp) ⟨by simp, fun j oj _ hl => (by rw [getD_replicate_false] at hl; cases hl)⟩ (by simpa using hL.2) h
  have := wpAny_of_F (Q' := Q) hB (fun E a w' h0 hE hq => hq w' h0 hE) _ _ _ a { w with drawn := w.drawn + 1 } hgr (fun _ => hgr) this
  simpa using this

/-! the walk, piece by piece -/
def segB (ch : List (Option Nat)) (sp : List Nat) (c : Option Nat) (k : Nat) : Nat → Bool
  | 0 => true
  | n + 1 => (match ch.getD k none, c with
    | none, none => true
    | some i, some j => i == j
    | _, _ => false) && !sp.contains k && segB ch sp c (k + 1) n

theorem walkF_seg {Q : (Nat → World) → Act → Prop} {E : Nat → World} (c : Option Nat) (W : World) (hW : (match c with | none => w | some i => E i) = W) : ∀ (n : Nat) (l : List Oper) (k : Nat) (a : Act), segB ch sp c k n = true →
    wpQuiet P ops (cls W) (walkF ch sp RR w P ops Q (l.drop n) (k + n) E) (l.take n) a → walkF ch sp RR w P ops Q l k E a := by
  intro n
  induction n with
  | zero => intro l k a _ h; simpa [wpQuiet] using h
  | succ n ih =>
    intro l k a hB h
    cases l with
    | nil =>
      have : walkF ch sp RR w P ops Q [] (k + (n + 1)) E a := by simpa [wpQuiet] using h
      exact this
    | cons o l =>
      unfold segB at hB
      simp only [Bool.and_eq_true, Bool.not_eq_true'] at hB
      obtain ⟨⟨h1, h2⟩, h3⟩ := hB
      have hf : from_ ch w E k = W := by
        unfold from_
        rw [← hW]
        cases hk : ch.getD k none <;> cases c <;> simp only [hk] at h1
        · rfl
        · cases h1
        · cases h1
        · rename_i i j
          have : i = j := by simpa using h1
          rw [this]
      rw [List.take_succ_cons, List.drop_succ_cons] at h
      unfold walkF
      rw [if_neg (show ¬ (sp.contains k = true) by rw [h2]; decide), hf]
      unfold wpQuiet at h
      have e : k + (n + 1) = k + 1 + n := by omega
      rw [e] at h
      split
      · rename_i hw
        rw [if_pos hw] at h
        exact Oper.quiet_mono (fun a' h' => ih l (k + 1) a' h3 h') h
      · rename_i hw
        rw [if_neg hw] at h
        exact ih l (k + 1) _ h3 h

theorem walkF_one {Q : (Nat → World) → Act → Prop} {E : Nat → World} {o : Oper} {l : List Oper} {k : Nat} {a : Act} (c : Option Nat) (W : World) (hW : (match c with | none => w | some i => E i) = W) (hB : segB ch sp c k 1 = true)
    (h : wpQuiet P ops (cls W) (walkF ch sp RR w P ops Q l (k + 1) E) [o] a) : walkF ch sp RR w P ops Q (o :: l) k E a := walkF_seg c W hW 1 (o :: l) k a hB h
theorem walkF_end {Q : (Nat → World) → Act → Prop} {E : Nat → World} {k : Nat} {a : Act} (h : Q E a) : walkF ch sp RR w P ops Q [] k E a := h

/-- an operation that makes memory -/
theorem walkF_make {Q : (Nat → World) → Act → Prop} {E : Nat → World} {o : Oper} {l : List Oper} {k : Nat} {a : Act} (c : Option Nat) (W : World) (hW : (match c with | none => w | some i => E i) = W) (hc : ch.getD k none = c) (hs : sp.contains k = true) (hw : Region.wanted o (yielded ops a.tmps) = true)
    (h1 : ∀ x, growUpon P (plus W x) (RR k) ((execOp a.eval o).run P (plus W x)))
    (h2 : ∀ v z, RR k v z → Gr W z → walkF ch sp RR w P ops Q l (k + 1) (upd E k z) (a.put o.dst v)) : walkF ch sp RR w P ops Q (o :: l) k E a := by
  have hf : from_ ch w E k = W := by unfold from_; rw [hc]; exact hW
  unfold walkF
  rw [if_pos hw, if_pos hs, hf]
  exact ⟨fun w' ⟨x, hx⟩ => by rw [hx]; exact h1 x, h2⟩
/-- passed over -/
theorem walkF_skip {Q : (Nat → World) → Act → Prop} {E : Nat → World} {o : Oper} {l : List Oper} {k : Nat} {a : Act} (hw : Region.wanted o (yielded ops a.tmps) = false)
    (h2 : walkF ch sp RR w P ops Q l (k + 1) E (a.put o.dst undef)) : walkF ch sp RR w P ops Q (o :: l) k E a := by
  unfold walkF
  rw [if_neg (by rw [hw]; decide)]
  exact h2
theorem grow_call {f : FuncId} {args : Array Value} {W : World} {R : Value → World → Prop} {r : Result Next} (hr : r = .ok (.enter f args) W) (h : Calls P f args W (fun e w'' => ∃ v, e = .returned v ∧ Below W.heap.size W w'' ∧ R v w'')) : growUpon P W R r := by
  subst hr; exact ⟨rfl, h⟩
end
end Go.Proofs.YtfooggamdbdniaaDoor
