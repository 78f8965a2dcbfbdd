/- Plain mathematics of bit strings: cutting. Imports nothing of the program. -/
import Derived.Test.YtfooggamdbdniaaDoorMath
namespace Go.Proofs.YtfooggamdbdniaaDoor

/-- byte i of what is cut from bit 8 f + s on -/
def cutByte (l : List UInt8) (f s i : Nat) : Nat := ((l.getD (f + i) 0).toNat * 2 ^ s % 256) ||| ((l.getD (f + i + 1) 0).toNat / 2 ^ (8 - s))

theorem byte_high (x : UInt8) (j : Nat) (h : 8 ≤ j) : x.toNat.testBit j = false :=
  Nat.testBit_lt_two_pow (Nat.lt_of_lt_of_le x.toNat_lt (Nat.pow_le_pow_right (by decide) h : 2 ^ 8 ≤ 2 ^ j))

theorem cutByte_lt (l : List UInt8) (f s i : Nat) : cutByte l f s i < 256 :=
  Nat.or_lt_two_pow (n := 8) (Nat.mod_lt _ (by decide)) (Nat.lt_of_le_of_lt (Nat.div_le_self _ _) (UInt8.toNat_lt _))

theorem cutByte_bit (l : List UInt8) (f s i j : Nat) (hs : s < 8) (hj : j < 8) : (cutByte l f s i).testBit (7 - j) = bt l (8 * (f + i) + s + j) := by
  unfold cutByte
  rw [Nat.testBit_or, show (256 : Nat) = 2 ^ 8 from rfl, Nat.testBit_mod_two_pow, Nat.testBit_mul_two_pow, Nat.testBit_div_two_pow]
  unfold bt
  have h7 : 7 - j < 8 := by omega
  by_cases h : s + j < 8
  · rw [show (8 * (f + i) + s + j) / 8 = f + i by omega, show 7 - (8 * (f + i) + s + j) % 8 = 7 - j - s by omega, byte_high _ (7 - j + (8 - s)) (by omega)]
    have h1 : s ≤ 7 - j := by omega
    simp [h7, h1]
  · rw [show (8 * (f + i) + s + j) / 8 = f + i + 1 by omega, show 7 - (8 * (f + i) + s + j) % 8 = 7 - j + (8 - s) by omega]
    have h1 : ¬ s ≤ 7 - j := by omega
    simp [h1]

/-- b holds the first 8 k bits that are cut from bit a on -/
def CutAt (l : List UInt8) (a N k : Nat) (b : List UInt8) : Prop := b.length = N ∧ ∀ i, bt b i = if i < 8 * k then bt l (a + i) else false

theorem CutAt.zero (l : List UInt8) (a N : Nat) : CutAt l a N 0 (List.replicate N 0) := by
  refine ⟨List.length_replicate, fun i => ?_⟩
  rw [if_neg (by omega)]
  unfold bt
  rw [List.getD_eq_getElem?_getD, List.getElem?_replicate]
  split <;> simp

theorem CutAt.step {l : List UInt8} {a N k : Nat} {b : List UInt8} (h : CutAt l a N k b) (hk : k < N) : CutAt l a N (k + 1) (b.set k (UInt8.ofNat (cutByte l (a / 8) (a % 8) k))) := by
  refine ⟨by rw [List.length_set]; exact h.1, fun i => ?_⟩
  rw [bt_set _ _ _ _ (by rw [h.1]; exact hk)]
  by_cases hi : i / 8 = k
  · rw [if_pos hi, UInt8.toNat_ofNat_of_lt' (cutByte_lt _ _ _ _), cutByte_bit _ _ _ _ _ (by omega) (by omega), if_pos (by omega)]
    congr 1; omega
  · rw [if_neg hi, h.2 i]
    by_cases h2 : i < 8 * k
    · rw [if_pos h2, if_pos (by omega)]
    · rw [if_neg h2, if_neg (by omega)]

/-- the last byte, with u bits -/
def maskByte (x : UInt8) (u : Nat) : Nat := x.toNat &&& (255 * 2 ^ (8 - u) % 256)
theorem maskByte_lt (x : UInt8) (u : Nat) : maskByte x u < 256 := Nat.lt_of_le_of_lt Nat.and_le_left x.toNat_lt
theorem maskByte_bit (x : UInt8) (u j : Nat) (hj : j < 8) : (maskByte x u).testBit (7 - j) = (x.toNat.testBit (7 - j) && decide (j < u)) := by
  unfold maskByte
  rw [Nat.testBit_and, show (256 : Nat) = 2 ^ 8 from rfl, Nat.testBit_mod_two_pow, Nat.testBit_mul_two_pow, show (255 : Nat) = 2 ^ 8 - 1 from rfl, Nat.testBit_two_pow_sub_one]
  congr 1
  by_cases h : j < u
  · have h1 : 8 - u ≤ 7 - j := by omega
    have h2 : 7 - j < 8 := by omega
    have h3 : 7 - j - (8 - u) < 8 := by omega
    simp [h, h1, h2, h3]
  · have h1 : ¬ 8 - u ≤ 7 - j := by omega
    simp [h, h1]

theorem cut_even {l : List UInt8} {a n : Nat} {b : List UInt8} (h : CutAt l a (nb n) (nb n) b) (h8 : n % 8 = 0) : b = pack (cutl l a n) := by
  apply bytes_ext
  · rw [h.1, pack_length, cutl_length]
  · intro i _
    rw [h.2 i, bt_pack, cutl_get, show 8 * nb n = n by unfold nb; omega]

theorem cut_odd {l : List UInt8} {a n : Nat} {b : List UInt8} (h : CutAt l a (nb n) (nb n) b) (h8 : ¬ n % 8 = 0) (x : UInt8) (hx : b[nb n - 1]? = some x) :
    b.set (nb n - 1) (UInt8.ofNat (maskByte x (n % 8))) = pack (cutl l a n) := by
  have hN : 0 < nb n := by unfold nb; omega
  apply bytes_ext
  · rw [List.length_set, h.1, pack_length, cutl_length]
  · intro i hi
    rw [List.length_set, h.1] at hi
    rw [bt_set _ _ _ _ (by rw [h.1]; omega), bt_pack, cutl_get]
    by_cases hl : i / 8 = nb n - 1
    · rw [if_pos hl, UInt8.toNat_ofNat_of_lt' (maskByte_lt _ _), maskByte_bit _ _ _ (by omega)]
      have e : x.toNat.testBit (7 - i % 8) = bt b i := by
        unfold bt; rw [List.getD_eq_getElem?_getD, hl, hx]; rfl
      rw [e, h.2 i, if_pos (by omega)]
      by_cases hn : i < n
      · have h2 : i % 8 < n % 8 := by unfold nb at hl; omega
        rw [if_pos hn]; simp [h2]
      · have h2 : ¬ i % 8 < n % 8 := by unfold nb at hl; omega
        rw [if_neg hn]; simp [h2]
    · rw [if_neg hl, h.2 i]
      have hn : i < n := by unfold nb at hl hi; omega
      rw [if_pos (by unfold nb at hi; unfold nb; omega), if_pos hn]

end Go.Proofs.YtfooggamdbdniaaDoor
