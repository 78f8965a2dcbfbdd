/- Plain mathematics of dividing two words by one: Knuth's way with two digits, and bit by bit. -/
namespace Go.Proofs.Ytdagegafanfhmaa

/-- q at or above the quotient, r what is left of U by q -/
structure DivI (B U u y1 y0 q r : Nat) : Prop where
  eq : q * y1 + r = U
  ge : (U * B + u) / (y1 * B + y0) ≤ q
  top : q ≤ B + 1

theorem div_expand (B q y1 y0 : Nat) : q * (y1 * B + y0) = (q * y1) * B + q * y0 := by
  rw [Nat.mul_add, Nat.mul_assoc]

theorem div_start {B U u y1 y0 : Nat} (h1 : B ≤ 2 * y1) (hp : 0 < y1) (hy0 : y0 < B) (hu : u < B) (hU : U < y1 * B + y0) : DivI B U u y1 y0 (U / y1) (U % y1) := by
  have hd := Nat.div_add_mod U y1
  have hm := Nat.mod_lt U hp
  refine ⟨by rw [Nat.mul_comm]; exact hd, ?_, ?_⟩
  · have hpos : 0 < y1 * B + y0 := Nat.lt_of_lt_of_le (Nat.mul_pos hp (by omega)) (Nat.le_add_right _ _)
    have h3 : (U * B + u) / (y1 * B + y0) < U / y1 + 1 := by
      rw [Nat.div_lt_iff_lt_mul hpos, div_expand]
      have h4 : (U + 1) * B ≤ ((U / y1 + 1) * y1) * B := by
        apply Nat.mul_le_mul_right
        rw [Nat.succ_mul, Nat.mul_comm]; omega
      rw [Nat.succ_mul] at h4
      omega
    omega
  · have h : U / y1 < B + 2 := by
      rw [Nat.div_lt_iff_lt_mul hp, Nat.add_mul, Nat.mul_comm B]
      omega
    omega

/-- q is too great -/
theorem div_more {B U u y1 y0 q r : Nat} (h : DivI B U u y1 y0 q r) (h1 : 0 < y1) (hu : u < B) (hU : U < y1 * B + y0)
    (hc : B ≤ q ∨ r * B + u < q * y0) : 1 ≤ q ∧ DivI B U u y1 y0 (q - 1) (r + y1) := by
  have hpos : 0 < y1 * B + y0 := Nat.lt_of_le_of_lt (Nat.zero_le _) hU
  have heq := h.eq
  have hq : (U * B + u) / (y1 * B + y0) < q := by
    rcases hc with hc | hc
    · have : (U * B + u) / (y1 * B + y0) < B := by
        rw [Nat.div_lt_iff_lt_mul hpos, Nat.mul_comm B]
        have h3 : (U + 1) * B ≤ (y1 * B + y0) * B := Nat.mul_le_mul_right _ hU
        rw [Nat.succ_mul] at h3
        omega
      omega
    · rw [Nat.div_lt_iff_lt_mul hpos, div_expand]
      have h3 : U * B = (q * y1) * B + r * B := by rw [← Nat.add_mul, heq]
      omega
  have hq1 : 1 ≤ q := Nat.lt_of_le_of_lt (Nat.zero_le _) hq
  refine ⟨hq1, ?_, Nat.le_sub_one_of_lt hq, by have := h.top; omega⟩
  obtain ⟨k, rfl⟩ : ∃ k, q = k + 1 := ⟨q - 1, by omega⟩
  rw [Nat.add_sub_cancel]
  rw [Nat.succ_mul] at heq
  omega

/-- it is not -/
theorem div_end {B U u y1 y0 q r : Nat} (h : DivI B U u y1 y0 q r) (hpos : 0 < y1 * B + y0) (hc : q * y0 ≤ r * B + u) : q = (U * B + u) / (y1 * B + y0) := by
  have := h.ge
  have heq := h.eq
  have h2 : q ≤ (U * B + u) / (y1 * B + y0) := by
    rw [Nat.le_div_iff_mul_le hpos, div_expand]
    have h3 : U * B = (q * y1) * B + r * B := by rw [← Nat.add_mul, heq]
    omega
  omega
theorem div_stop {B U u y1 y0 q r : Nat} (h : DivI B U u y1 y0 q r) (hpos : 0 < y1 * B + y0) (hy0 : y0 < B) (hq : q ≤ B) (hr : B ≤ r) : q = (U * B + u) / (y1 * B + y0) := by
  refine div_end h hpos ?_
  have h1 : q * y0 ≤ B * B := Nat.mul_le_mul hq (by omega)
  have h2 : B * B ≤ r * B := Nat.mul_le_mul_right _ hr
  omega

/-- a digit of the quotient and what is left -/
theorem div_digit {B U u y q : Nat} (hu : u < B) (hU : U < y) (hq : q = (U * B + u) / y) :
    q < B ∧ q * y ≤ U * B + u ∧ U * B + u - q * y = (U * B + u) % y ∧ (U * B + u) % y < y := by
  have hp : 0 < y := by omega
  have h := Nat.div_add_mod (U * B + u) y
  rw [← hq, Nat.mul_comm] at h
  refine ⟨?_, by omega, by omega, Nat.mod_lt _ hp⟩
  rw [hq, Nat.div_lt_iff_lt_mul hp, Nat.mul_comm B]
  have h3 : (U + 1) * B ≤ y * B := Nat.mul_le_mul_right _ hU
  rw [Nat.succ_mul] at h3
  omega

/-- both digits -/
theorem div_two (B U u1 u0 y : Nat) (hy : 0 < y) : ((U * B + u1) / y) * B + (((U * B + u1) % y) * B + u0) / y = ((U * B + u1) * B + u0) / y := by
  have h := Nat.div_add_mod (U * B + u1) y
  generalize (U * B + u1) / y = q at *
  generalize (U * B + u1) % y = r at *
  have e : (U * B + u1) * B + u0 = (r * B + u0) + y * (q * B) := by
    rw [← h, Nat.add_mul, Nat.mul_assoc]; omega
  rw [e, Nat.add_mul_div_left _ _ hy]; omega

theorem div_shift (a y s : Nat) : (a * 2 ^ s) / (y * 2 ^ s) = a / y := Nat.mul_div_mul_right _ _ (Nat.two_pow_pos s)

/-- the upper word, shifted, with what comes of the lower one -/
theorem div_join (W hi lo s : Nat) (hs : s ≤ 64) (hW : W = 2 ^ 64) : (hi * 2 ^ s + lo / 2 ^ (64 - s)) * W + lo * 2 ^ s % W = (hi * W + lo) * 2 ^ s := by
  have e : W = 2 ^ (64 - s) * 2 ^ s := by rw [← Nat.pow_add, Nat.sub_add_cancel hs]; exact hW
  have h1 : lo * 2 ^ s % W = lo % 2 ^ (64 - s) * 2 ^ s := by rw [e, Nat.mul_mod_mul_right]
  have h2 := Nat.div_add_mod lo (2 ^ (64 - s))
  rw [h1, Nat.add_mul, Nat.add_mul]
  have h3 : lo / 2 ^ (64 - s) * W + lo % 2 ^ (64 - s) * 2 ^ s = lo * 2 ^ s := by
    conv => rhs; rw [← h2]
    rw [Nat.add_mul, Nat.mul_comm (2 ^ (64 - s)), Nat.mul_assoc, ← e]
  have h4 : hi * 2 ^ s * W = hi * W * 2 ^ s := by rw [Nat.mul_assoc, Nat.mul_assoc, Nat.mul_comm (2 ^ s)]
  omega

/-- bit by bit: so many of the lower word's bits are read -/
structure LongI (hi lo n j q r : Nat) : Prop where
  eq : q * n + r = hi * 2 ^ j + lo / 2 ^ (64 - j)
  lt : r < n
theorem long_start (hi lo n : Nat) (hlo : lo < 2 ^ 64) (h : hi < n) : LongI hi lo n 0 0 hi := ⟨by
  have : lo / 2 ^ (64 - 0) = 0 := Nat.div_eq_of_lt hlo
  rw [this, Nat.pow_zero]; omega, h⟩
theorem long_next {hi lo n j q r : Nat} (h : LongI hi lo n j q r) (hj : j < 64) : LongI hi lo n (j + 1) (if n ≤ 2 * r + lo / 2 ^ (63 - j) % 2 then 2 * q + 1 else 2 * q) (if n ≤ 2 * r + lo / 2 ^ (63 - j) % 2 then 2 * r + lo / 2 ^ (63 - j) % 2 - n else 2 * r + lo / 2 ^ (63 - j) % 2) := by
  have h1 := h.eq
  have h2 := h.lt
  have e : lo / 2 ^ (64 - j) = lo / 2 ^ (63 - j) / 2 := by
    have e3 : 64 - j = (63 - j) + 1 := by omega
    rw [e3, Nat.pow_succ, Nat.div_div_eq_div_mul]
  have e2 : 64 - (j + 1) = 63 - j := by omega
  rw [e] at h1
  have hp : hi * 2 ^ (j + 1) = 2 * (hi * 2 ^ j) := by rw [Nat.pow_succ, ← Nat.mul_assoc, Nat.mul_comm]
  generalize hx : lo / 2 ^ (63 - j) = x at *
  have key : (2 * q) * n + (2 * r + x % 2) = hi * 2 ^ (j + 1) + x := by
    rw [hp, Nat.mul_assoc]; omega
  by_cases hc : n ≤ 2 * r + x % 2
  · rw [if_pos hc, if_pos hc]
    refine ⟨?_, by omega⟩
    rw [e2, hx, Nat.add_mul]; omega
  · rw [if_neg hc, if_neg hc]
    refine ⟨?_, by omega⟩
    rw [e2, hx]; omega
theorem long_end {hi lo n q r : Nat} (h : LongI hi lo n 64 q r) : q = (hi * 2 ^ 64 + lo) / n := by
  have h1 := h.eq
  have h2 := h.lt
  rw [Nat.sub_self, Nat.pow_zero, Nat.div_one] at h1
  have h3 : hi * 2 ^ 64 + lo = r + n * q := by rw [Nat.mul_comm n, ← h1]; omega
  rw [h3, Nat.add_mul_div_left _ _ (by omega), Nat.div_eq_of_lt h2]; omega
theorem long_top {hi lo n j q r : Nat} (h : LongI hi lo n j q r) (hhi : hi < n) (hlo : lo < 2 ^ 64) (hj : j ≤ 64) : q < 2 ^ j := by
  have h1 := h.eq
  have h3 : lo / 2 ^ (64 - j) < 2 ^ j := by
    rw [Nat.div_lt_iff_lt_mul (Nat.two_pow_pos _), ← Nat.pow_add]
    have : j + (64 - j) = 64 := by omega
    rw [this]; exact hlo
  have h4 : (hi + 1) * 2 ^ j ≤ n * 2 ^ j := Nat.mul_le_mul_right _ hhi
  rw [Nat.succ_mul] at h4
  have h5 : q * n < 2 ^ j * n := by rw [Nat.mul_comm (2 ^ j)]; omega
  exact Nat.lt_of_mul_lt_mul_right h5


theorem div_words (B W : Nat) (hW : B * B = W) (a L : Nat) : (a * B + L / B) * B + L % B = a * W + L := by
  rw [Nat.add_mul, Nat.mul_assoc, Nat.add_assoc, Nat.mul_comm (L / B), Nat.div_add_mod, hW]
/-- all that the walk names, and what it comes to -/
theorem div_names (hi lo y s : Nat) (h0 : hi ≠ 0) (hlt : hi < y) (hlo : lo < 18446744073709551616) (hs : s ≤ 63) (hY1 : 9223372036854775808 ≤ y * 2 ^ s) (hY2 : y * 2 ^ s < 18446744073709551616) :
    ∃ Y y1 y0 H l1 U L u1 u0 : Nat, Y = y * 2 ^ s ∧ y1 = Y / 4294967296 ∧ y0 = Y % 4294967296 ∧ H = hi * 2 ^ s ∧ l1 = lo / 2 ^ (64 - s) ∧ U = H ||| l1 ∧ L = lo * 2 ^ s % 18446744073709551616 ∧ u1 = L / 4294967296 ∧ u0 = L % 4294967296 ∧
      Y = y1 * 4294967296 + y0 ∧ y0 < 4294967296 ∧ 2147483648 ≤ y1 ∧ y1 < 4294967296 ∧ H < 18446744073709551616 ∧ l1 < 18446744073709551616 ∧ U < Y ∧ L < 18446744073709551616 ∧ u1 < 4294967296 ∧ u0 < 4294967296 ∧ L = u1 * 4294967296 + u0 ∧
      ((U * 4294967296 + u1) * 4294967296 + u0) / Y = (hi * 18446744073709551616 + lo) / y := by
  have hp := Nat.two_pow_pos s
  refine ⟨_, _, _, _, _, _, _, _, _, rfl, rfl, rfl, rfl, rfl, rfl, rfl, rfl, rfl, ?_⟩
  have hH : hi * 2 ^ s + 2 ^ s ≤ y * 2 ^ s := by rw [← Nat.succ_mul]; exact Nat.mul_le_mul_right _ hlt
  have hl : lo / 2 ^ (64 - s) < 2 ^ s := by
    rw [Nat.div_lt_iff_lt_mul (Nat.two_pow_pos _), ← Nat.pow_add, show s + (64 - s) = 64 by omega]
    exact hlo
  have hU : (hi * 2 ^ s ||| lo / 2 ^ (64 - s)) = hi * 2 ^ s + lo / 2 ^ (64 - s) := by
    rw [Nat.mul_comm hi]; exact (Nat.two_pow_add_eq_or_of_lt hl _).symm
  rw [hU]
  have hj := div_join 18446744073709551616 hi lo s (by omega) (by rfl)
  have hL : lo * 2 ^ s % 18446744073709551616 < 18446744073709551616 := Nat.mod_lt _ (by decide)
  have hl2 : lo / 2 ^ (64 - s) ≤ lo := Nat.div_le_self _ _
  have hd := div_shift (hi * 18446744073709551616 + lo) y s
  rw [← hj] at hd
  generalize lo * 2 ^ s % 18446744073709551616 = L at *
  generalize hi * 2 ^ s = H at *
  generalize lo / 2 ^ (64 - s) = l1 at *
  generalize 2 ^ s = t at *
  generalize y * t = Y at *
  refine ⟨by omega, by omega, by omega, by omega, by omega, by omega, by omega, hL, by omega, by omega, by omega, ?_⟩
  rw [div_words 4294967296 18446744073709551616 rfl]
  exact hd

end Go.Proofs.Ytdagegafanfhmaa
