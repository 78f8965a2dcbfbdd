/- Plain mathematics of CRC-32C: a step a bit; a step is linear and loses nothing. -/
namespace Go.Proofs.Ytpedobpbpomkaaa

/-- one bit -/
def cstep (c : Nat) : Nat := if c % 2 = 1 then c / 2 ^^^ 2197175160 else c / 2
/-- so many bits -/
def csteps : Nat → Nat → Nat
  | 0, c => c
  | n + 1, c => csteps n (cstep c)
/-- one byte, all bytes -/
def crcB (c b : Nat) : Nat := csteps 8 (c ^^^ b)
def crcF (c : Nat) (l : List UInt8) : Nat := l.foldl (fun c b => crcB c b.toNat) c
def crcL (l : List UInt8) : Nat := 4294967295 - crcF 4294967295 l

theorem xor_mod2 (a b : Nat) : (a ^^^ b) % 2 = (a % 2 + b % 2) % 2 := by
  have h := @Nat.xor_mod_two_eq_one a b
  omega
theorem xor_div2 (a b : Nat) : (a ^^^ b) / 2 = a / 2 ^^^ b / 2 := Nat.xor_div_two
theorem cstep_xor (a b : Nat) : cstep (a ^^^ b) = cstep a ^^^ cstep b := by
  unfold cstep
  rw [xor_mod2, xor_div2]
  rcases Nat.mod_two_eq_zero_or_one a with ha | ha <;> rcases Nat.mod_two_eq_zero_or_one b with hb | hb
  · rw [ha, hb]; rfl
  · rw [ha, hb]
    rw [if_pos (by decide), if_neg (by decide), if_pos rfl, Nat.xor_assoc]
  · rw [ha, hb]
    rw [if_pos (by decide), if_pos rfl, if_neg (by decide), Nat.xor_assoc, Nat.xor_assoc, Nat.xor_comm (b / 2)]
  · rw [ha, hb]
    rw [if_neg (by decide), if_pos rfl, if_pos rfl, Nat.xor_assoc, Nat.xor_comm (b / 2) 2197175160, ← Nat.xor_assoc 2197175160, Nat.xor_self, Nat.zero_xor]
theorem csteps_xor (n : Nat) : ∀ a b, csteps n (a ^^^ b) = csteps n a ^^^ csteps n b := by
  induction n with
  | zero => intro a b; rfl
  | succ n ih => intro a b; unfold csteps; rw [cstep_xor, ih]
theorem csteps_add (m n c : Nat) : csteps (m + n) c = csteps n (csteps m c) := by
  induction m generalizing c with
  | zero => rw [Nat.zero_add]; rfl
  | succ m ih => rw [Nat.succ_add]; show csteps (m + n) (cstep c) = _; rw [ih]; rfl
theorem csteps_succ (n c : Nat) : csteps (n + 1) c = cstep (csteps n c) := csteps_add n 1 c
theorem cstep_lt {c : Nat} (h : c < 4294967296) : cstep c < 4294967296 := by
  unfold cstep
  split
  · exact Nat.xor_lt_two_pow (n := 32) (by omega) (by omega)
  · omega
theorem csteps_lt (n : Nat) : ∀ {c : Nat}, c < 4294967296 → csteps n c < 4294967296 := by
  induction n with
  | zero => intro c h; exact h
  | succ n ih => intro c h; exact ih (cstep_lt h)
theorem cstep_zero {c : Nat} (h : c < 4294967296) (h0 : cstep c = 0) : c = 0 := by
  unfold cstep at h0
  split at h0
  · exfalso
    have h1 : c / 2 = 2197175160 := by
      have := congrArg (· ^^^ 2197175160) h0
      simp only [Nat.xor_assoc, Nat.xor_self, Nat.xor_zero, Nat.zero_xor] at this
      exact this
    omega
  · omega
theorem csteps_zero (n : Nat) : ∀ {c : Nat}, c < 4294967296 → csteps n c = 0 → c = 0 := by
  induction n with
  | zero => intro c _ h; exact h
  | succ n ih => intro c h h0; exact cstep_zero h (ih (cstep_lt h) h0)
theorem csteps_nought (n : Nat) : csteps n 0 = 0 := by
  induction n with
  | zero => rfl
  | succ n ih => exact ih
/-- noughts below are but passed over -/
theorem csteps_even (n : Nat) : ∀ k, csteps n (k * 2 ^ n) = k := by
  induction n with
  | zero => intro k; show k * 1 = k; omega
  | succ n ih =>
    intro k
    show csteps n (cstep (k * 2 ^ (n + 1))) = k
    have e : k * 2 ^ (n + 1) = 2 * (k * 2 ^ n) := by rw [Nat.pow_succ, ← Nat.mul_assoc, Nat.mul_comm]
    have : cstep (k * 2 ^ (n + 1)) = k * 2 ^ n := by
      unfold cstep; rw [e, if_neg (by omega)]; omega
    rw [this, ih]
theorem split_byte (c : Nat) : c = c % 256 ^^^ c / 256 * 2 ^ 8 := by
  apply Nat.eq_of_testBit_eq
  intro i
  rw [Nat.testBit_xor, Nat.testBit_mul_two_pow, show (256 : Nat) = 2 ^ 8 from rfl, Nat.testBit_mod_two_pow, Nat.testBit_div_two_pow]
  rcases Nat.lt_or_ge i 8 with h | h
  · simp [h, show ¬ 8 ≤ i by omega]
  · simp [h, show ¬ i < 8 by omega, show 8 ≤ i by omega, Nat.sub_add_cancel h]
/-- by a table -/
theorem crcB_table (c x : Nat) (hx : x < 256) : crcB c x = csteps 8 ((c ^^^ x) % 256) ^^^ c / 256 := by
  unfold crcB
  have h : c ^^^ x = (c ^^^ x) % 256 ^^^ (c / 256) * 2 ^ 8 := by
    have h1 := split_byte (c ^^^ x)
    have h2 : (c ^^^ x) / 256 = c / 256 := by
      rw [show (256 : Nat) = 2 ^ 8 from rfl, Nat.xor_div_two_pow, show x / 2 ^ 8 = 0 from Nat.div_eq_of_lt hx, Nat.xor_zero]
    rw [h2] at h1
    exact h1
  conv => lhs; rw [h]
  rw [csteps_xor, csteps_even]
theorem crcB_lt {c b : Nat} (hc : c < 4294967296) (hb : b < 256) : crcB c b < 4294967296 := csteps_lt 8 (Nat.xor_lt_two_pow (n := 32) hc (by omega))
theorem crcF_lt (l : List UInt8) : ∀ {c : Nat}, c < 4294967296 → crcF c l < 4294967296 := by
  induction l with
  | nil => intro c h; exact h
  | cons b l ih => intro c h; exact ih (crcB_lt h b.toNat_lt)
theorem crcF_append (a b : List UInt8) (c : Nat) : crcF c (a ++ b) = crcF (crcF c a) b := by unfold crcF; rw [List.foldl_append]
theorem crcF_snoc (l : List UInt8) (k : Nat) (h : k < l.length) (c : Nat) : crcF c (l.take (k + 1)) = crcB (crcF c (l.take k)) l[k].toNat := by
  rw [List.take_succ_eq_append_getElem h, crcF_append]; rfl
theorem crcL_lt (l : List UInt8) : crcL l < 4294967296 := by unfold crcL; omega
theorem crcL_inj {a b : List UInt8} : crcL a = crcL b ↔ crcF 4294967295 a = crcF 4294967295 b := by
  have ha := crcF_lt a (c := 4294967295) (by decide)
  have hb := crcF_lt b (c := 4294967295) (by decide)
  unfold crcL
  omega

/-- the sum's difference goes by the bytes' difference -/
theorem crcF_xor (l : List UInt8) : ∀ (m : List UInt8) (c d : Nat), l.length = m.length → crcF c l ^^^ crcF d m = crcF (c ^^^ d) (List.zipWith (· ^^^ ·) l m) := by
  induction l with
  | nil => intro m c d h; cases m with
    | nil => rfl
    | cons => simp at h
  | cons x l ih => intro m c d h; cases m with
    | nil => simp at h
    | cons y m =>
      show crcF (crcB c x.toNat) l ^^^ crcF (crcB d y.toNat) m = crcF (crcB (c ^^^ d) (x ^^^ y).toNat) (List.zipWith (· ^^^ ·) l m)
      rw [ih m _ _ (by simpa using h)]
      congr 1
      unfold crcB
      rw [← csteps_xor, UInt8.toNat_xor]
      congr 1
      rw [Nat.xor_assoc, Nat.xor_assoc, ← Nat.xor_assoc x.toNat, Nat.xor_comm x.toNat d, Nat.xor_assoc d]
theorem xor_eq_zero {a b : Nat} : a ^^^ b = 0 ↔ a = b := by
  constructor
  · intro h
    have := congrArg (· ^^^ b) h
    simpa [Nat.xor_assoc] using this
  · rintro rfl; exact Nat.xor_self _

/-- bytes as a number, the lowest first -/
def crcNum : List UInt8 → Nat
  | [] => 0
  | b :: l => b.toNat + 256 * crcNum l
theorem crcNum_lt (l : List UInt8) : crcNum l < 2 ^ (8 * l.length) := by
  induction l with
  | nil => exact Nat.one_pos
  | cons b l ih =>
    have := b.toNat_lt
    have e : 2 ^ (8 * (b :: l).length) = 256 * 2 ^ (8 * l.length) := by rw [List.length_cons, Nat.mul_succ, Nat.pow_add, Nat.mul_comm]
    rw [e]; unfold crcNum; omega
theorem add_xor (b k : Nat) (hb : b < 256) : b + 256 * k = b ^^^ k * 2 ^ 8 := by
  have h := split_byte (b + 256 * k)
  rw [show (b + 256 * k) % 256 = b by omega, show (b + 256 * k) / 256 = k by omega] at h
  exact h
theorem crcF_num (l : List UInt8) : ∀ c, crcF c l = csteps (8 * l.length) (c ^^^ crcNum l) := by
  induction l with
  | nil => intro c; show c = c ^^^ 0; rw [Nat.xor_zero]
  | cons b l ih =>
    intro c
    show crcF (crcB c b.toNat) l = _
    rw [ih, List.length_cons, Nat.mul_succ, Nat.add_comm, csteps_add]
    congr 1
    show csteps 8 (c ^^^ b.toNat) ^^^ crcNum l = csteps 8 (c ^^^ (b.toNat + 256 * crcNum l))
    rw [add_xor _ _ b.toNat_lt, ← Nat.xor_assoc, csteps_xor 8 (c ^^^ b.toNat), csteps_even]
/-- what lies within 32 bits in a row is told -/
theorem crcF_burst (l : List UInt8) (k s : Nat) (hn : crcNum l = k * 2 ^ s) (hk : k < 4294967296) (hs : s ≤ 8 * l.length) : crcF 0 l = 0 ↔ k = 0 := by
  rw [crcF_num, Nat.zero_xor, hn]
  have e : 8 * l.length = s + (8 * l.length - s) := by omega
  rw [e, csteps_add, csteps_even]
  constructor
  · exact csteps_zero _ hk
  · rintro rfl; exact csteps_nought _

end Go.Proofs.Ytpedobpbpomkaaa
