/- Plain mathematics of bit strings: laying one behind the other. Imports nothing of the program. -/
import Derived.Test.YtfooggamdbdniaaDoorMathC
namespace Go.Proofs.YtfooggamdbdniaaDoor

theorem bt_or (b : List UInt8) (j y i : Nat) (hj : j < b.length) (hy : y < 256) :
    bt (b.set j (UInt8.ofNat (b[j].toNat ||| y))) i = (bt b i || (decide (i / 8 = j) && y.testBit (7 - i % 8))) := by
  rw [bt_set _ _ _ _ hj]
  by_cases h : i / 8 = j
  · rw [if_pos h, UInt8.toNat_ofNat_of_lt' (Nat.or_lt_two_pow (n := 8) (UInt8.toNat_lt _) hy), Nat.testBit_or]
    have e : b[j].toNat.testBit (7 - i % 8) = bt b i := by
      unfold bt; rw [h, List.getD_eq_getElem?_getD, List.getElem?_eq_getElem hj]; rfl
    rw [e]; simp [h]
  · rw [if_neg h]; simp [h]

/-- what falls into the next byte -/
def lowOf (c : UInt8) (s : Nat) : Nat := c.toNat * 2 ^ (8 - s) % 256
theorem lowOf_lt (c : UInt8) (s : Nat) : lowOf c s < 256 := Nat.mod_lt _ (by decide)
theorem lowOf_bit (c : UInt8) (s j : Nat) (hs : s < 8) (hj : j < 8) : (lowOf c s).testBit (7 - j) = (decide (j < s) && c.toNat.testBit (s - 1 - j)) := by
  unfold lowOf
  rw [show (256 : Nat) = 2 ^ 8 from rfl, Nat.testBit_mod_two_pow, Nat.testBit_mul_two_pow]
  by_cases h : j < s
  · have h1 : 7 - j < 8 := by omega
    have h2 : 8 - s ≤ 7 - j := by omega
    rw [show 7 - j - (8 - s) = s - 1 - j by omega]; simp [h, h1, h2]
  · have h2 : ¬ 8 - s ≤ 7 - j := by omega
    simp [h, h2]
theorem shr_bits (c : UInt8) (s j : Nat) (hj : j < 8) : (c.toNat / 2 ^ s).testBit (7 - j) = (decide (s ≤ j) && c.toNat.testBit (7 - j + s)) := by
  rw [Nat.testBit_div_two_pow]
  by_cases h : s ≤ j
  · simp [h]
  · rw [byte_high c (7 - j + s) (by omega)]; simp

theorem lay_byte (x : List UInt8) (c : UInt8) (a k i : Nat) (hx : x[k]? = some c) :
    ((decide (i / 8 = a / 8 + k) && (c.toNat / 2 ^ (a % 8)).testBit (7 - i % 8)) || (decide (i / 8 = a / 8 + k + 1) && (lowOf c (a % 8)).testBit (7 - i % 8))) = (decide (a + 8 * k ≤ i ∧ i < a + 8 * k + 8) && bt x (i - a)) := by
  rw [shr_bits _ _ _ (by omega), lowOf_bit _ _ _ (by omega) (by omega)]
  by_cases h : a + 8 * k ≤ i ∧ i < a + 8 * k + 8
  · have e : bt x (i - a) = c.toNat.testBit (7 - (i - a) % 8) := by
      unfold bt; rw [show (i - a) / 8 = k by omega, List.getD_eq_getElem?_getD, hx]; rfl
    rw [e]
    by_cases h1 : i / 8 = a / 8 + k
    · have h2 : ¬ i / 8 = a / 8 + k + 1 := by omega
      have h3 : a % 8 ≤ i % 8 := by omega
      rw [show 7 - (i - a) % 8 = 7 - i % 8 + a % 8 by omega]
      simp [h, h1, h2, h3]
    · have h2 : i / 8 = a / 8 + k + 1 := by omega
      have h3 : i % 8 < a % 8 := by omega
      rw [show 7 - (i - a) % 8 = a % 8 - 1 - i % 8 by omega]
      simp [h, h1, h2, h3]
  · have e1 : (decide (i / 8 = a / 8 + k) && (decide (a % 8 ≤ i % 8) && c.toNat.testBit (7 - i % 8 + a % 8))) = false := by
      by_cases h1 : i / 8 = a / 8 + k
      · have h2 : ¬ a % 8 ≤ i % 8 := by omega
        simp [h2]
      · simp [h1]
    have e2 : (decide (i / 8 = a / 8 + k + 1) && (decide (i % 8 < a % 8) && c.toNat.testBit (a % 8 - 1 - i % 8))) = false := by
      by_cases h1 : i / 8 = a / 8 + k + 1
      · have h2 : ¬ i % 8 < a % 8 := by omega
        simp [h2]
      · simp [h1]
    rw [e1, e2]; simp [h]

/-- b is L, with the first k bytes of x laid from bit a on -/
def LayAt (L x : List UInt8) (a k : Nat) (b : List UInt8) : Prop := b.length = L.length ∧ ∀ i, bt b i = (bt L i || (decide (a ≤ i ∧ i < a + 8 * k) && bt x (i - a)))

theorem LayAt.zero (L x : List UInt8) (a : Nat) : LayAt L x a 0 L := ⟨rfl, fun i => by
  have e : decide (a ≤ i ∧ i < a + 8 * 0) = false := decide_eq_false (by omega)
  rw [e]; simp⟩

theorem lay_join (P Q R : Prop) [Decidable P] [Decidable Q] [Decidable R] (u t : Bool) (h : R ↔ P ∨ Q) (_ : ¬ (P ∧ Q)) : (u || (decide R && t)) = ((u || (decide P && t)) || (decide Q && t)) := by
  by_cases hp : P <;> by_cases hq : Q <;> simp [h, hp, hq]

/-- the next byte leaves nothing over -/
theorem LayAt.step1 {L x b : List UInt8} {a k : Nat} {c : UInt8} (h : LayAt L x a k b) (hx : x[k]? = some c) (hj : a / 8 + k < b.length) (h0 : lowOf c (a % 8) = 0) :
    LayAt L x a (k + 1) (b.set (a / 8 + k) (UInt8.ofNat (b[a / 8 + k].toNat ||| c.toNat / 2 ^ (a % 8)))) := by
  refine ⟨by rw [List.length_set]; exact h.1, fun i => ?_⟩
  have hb := lay_byte x c a k i hx
  rw [h0] at hb
  simp only [Nat.zero_testBit, Bool.and_false, Bool.or_false] at hb
  rw [bt_or _ _ _ _ hj (Nat.lt_of_le_of_lt (Nat.div_le_self _ _) c.toNat_lt), h.2 i, hb]
  exact (lay_join _ _ _ _ _ (by omega) (by omega)).symm

/-- .. something over -/
theorem LayAt.step2 {L x b : List UInt8} {a k : Nat} {c : UInt8} (h : LayAt L x a k b) (hx : x[k]? = some c) (hj : a / 8 + k < b.length) (hj2 : a / 8 + k + 1 < b.length) :
    LayAt L x a (k + 1) ((b.set (a / 8 + k) (UInt8.ofNat (b[a / 8 + k].toNat ||| c.toNat / 2 ^ (a % 8)))).set (a / 8 + k + 1) (UInt8.ofNat (b[a / 8 + k + 1].toNat ||| lowOf c (a % 8)))) := by
  refine ⟨by rw [List.length_set, List.length_set]; exact h.1, fun i => ?_⟩
  have hb := lay_byte x c a k i hx
  have h2 := bt_or (b.set (a / 8 + k) (UInt8.ofNat (b[a / 8 + k].toNat ||| c.toNat / 2 ^ (a % 8)))) (a / 8 + k + 1) (lowOf c (a % 8)) i (by rw [List.length_set]; exact hj2) (lowOf_lt _ _)
  rw [List.getElem_set_ne (by omega)] at h2
  rw [h2, bt_or _ _ _ _ hj (Nat.lt_of_le_of_lt (Nat.div_le_self _ _) c.toNat_lt), Bool.or_assoc, hb, h.2 i]
  exact (lay_join _ _ _ _ _ (by omega) (by omega)).symm

/-- what is over lies within, if all bits of x have room -/
theorem lay_room {x : List UInt8} {c : UInt8} {a k n M : Nat} (hx : x[k]? = some c) (hz : ∀ i, n ≤ i → bt x i = false) (hM : a + n ≤ 8 * M) (h0 : lowOf c (a % 8) ≠ 0) : a / 8 + k + 1 < M := by
  apply Classical.byContradiction
  intro hge
  apply h0
  apply Nat.eq_of_testBit_eq
  intro j
  rw [Nat.zero_testBit]
  by_cases hj : j < 8
  · rw [show j = 7 - (7 - j) by omega, lowOf_bit _ _ _ (by omega) (by omega)]
    by_cases hs : 7 - j < a % 8
    · have e : c.toNat.testBit (a % 8 - 1 - (7 - j)) = bt x (8 * k + 8 - a % 8 + (7 - j)) := by
        unfold bt
        rw [show (8 * k + 8 - a % 8 + (7 - j)) / 8 = k by omega, show 7 - (8 * k + 8 - a % 8 + (7 - j)) % 8 = a % 8 - 1 - (7 - j) by omega, List.getD_eq_getElem?_getD, hx]; rfl
      rw [e, hz _ (by omega)]; simp
    · simp [hs]
  · exact Nat.testBit_lt_two_pow (Nat.lt_of_lt_of_le (lowOf_lt _ _) (Nat.pow_le_pow_right (by decide) (show 8 ≤ j by omega) : 2 ^ 8 ≤ 2 ^ j))

end Go.Proofs.YtfooggamdbdniaaDoor
