/- Plain mathematics of sums of bits modulo 2^61 - 1. Imports nothing of the program. -/
import Derived.Test.YtfooggamdbdniaaMath
namespace Go.Proofs.Ytfooggamdbdniaa

section
variable (P F : Nat)
def stepG (s a : Nat) : Nat := (s * F + a) % P
def joinG (a b n : Nat) : Nat := (a * F ^ n + b) % P
def moreG (s : Nat) (bs : List Bool) : Nat := bs.foldl (fun s b => stepG P F s (1 + b2n b)) (s % P)
theorem stepG_mod (s a : Nat) : stepG P F (s % P) a = stepG P F s a := by
  unfold stepG
  rw [Nat.add_mod, Nat.mul_mod, Nat.mod_mod, ← Nat.mul_mod, ← Nat.add_mod]
theorem joinG_mod1 (a b n : Nat) : joinG P F (a % P) b n = joinG P F a b n := by
  unfold joinG
  rw [Nat.add_mod, Nat.mul_mod, Nat.mod_mod, ← Nat.mul_mod, ← Nat.add_mod]
theorem joinG_mod2 (a b n : Nat) : joinG P F a (b % P) n = joinG P F a b n := by
  unfold joinG
  rw [Nat.add_mod, Nat.mod_mod, ← Nat.add_mod]
theorem joinG_assoc (a b c n k : Nat) : joinG P F (joinG P F a b n) c k = joinG P F a (joinG P F b c k) (n + k) := by
  have h1 : joinG P F (joinG P F a b n) c k = joinG P F (a * F ^ n + b) c k := joinG_mod1 _ _ _ _ _
  have h2 : joinG P F a (joinG P F b c k) (n + k) = joinG P F a (b * F ^ k + c) (n + k) := joinG_mod2 _ _ _ _ _
  rw [h1, h2]
  unfold joinG
  congr 1
  rw [Nat.add_mul, Nat.pow_add, Nat.mul_assoc, Nat.add_assoc]
theorem joinG_zero (a : Nat) : joinG P F a 0 0 = a % P := by unfold joinG; simp
theorem moreG_snoc (s : Nat) (bs : List Bool) (b : Bool) : moreG P F s (bs ++ [b]) = stepG P F (moreG P F s bs) (1 + b2n b) := by unfold moreG; rw [List.foldl_append]; rfl
theorem moreG_lt (h : 0 < P) (s : Nat) (bs : List Bool) : moreG P F s bs < P := by
  induction bs using snoc_ind with
  | h0 => exact Nat.mod_lt _ h
  | h1 bs b _ => rw [moreG_snoc]; exact Nat.mod_lt _ h
theorem moreG_mod (s : Nat) (bs : List Bool) : moreG P F (s % P) bs = moreG P F s bs := by unfold moreG; rw [Nat.mod_mod]
theorem moreG_append (h : 0 < P) (s : Nat) (a b : List Bool) : moreG P F s (a ++ b) = moreG P F (moreG P F s a) b := by
  have h : moreG P F s a % P = moreG P F s a := Nat.mod_eq_of_lt (moreG_lt P F h s a)
  unfold moreG at h ⊢
  rw [List.foldl_append, h]
theorem moreG_join (s : Nat) (b : List Bool) : moreG P F s b = joinG P F s (moreG P F 0 b) b.length := by
  induction b using snoc_ind with
  | h0 => simp [moreG, joinG]
  | h1 b x ih =>
    have e1 : stepG P F (joinG P F s (moreG P F 0 b) b.length) (1 + b2n x) = stepG P F (s * F ^ b.length + moreG P F 0 b) (1 + b2n x) := stepG_mod _ _ _ _
    rw [moreG_snoc, ih, e1, moreG_snoc, List.length_append, List.length_singleton]
    have e2 : joinG P F s (stepG P F (moreG P F 0 b) (1 + b2n x)) (b.length + 1) = joinG P F s (moreG P F 0 b * F + (1 + b2n x)) (b.length + 1) := joinG_mod2 _ _ _ _ _
    rw [e2]
    unfold stepG joinG
    congr 1
    rw [Nat.add_mul, Nat.pow_succ, Nat.mul_assoc, Nat.add_assoc]
theorem joinG_more (h : 0 < P) (a b : List Bool) : joinG P F (moreG P F 0 a) (moreG P F 0 b) b.length = moreG P F 0 (a ++ b) := by rw [moreG_append _ _ h, ← moreG_join]
theorem fac_invG (G a b c : Nat) (hG : F * G % P = 1) (ha : a < P) (hb : b < P) (h : (a * F) % P = (b * F) % P) : a = b := by
  have h2 : a * F * G % P = b * F * G % P := by rw [Nat.mul_mod, h, ← Nat.mul_mod]
  rw [Nat.mul_assoc, Nat.mul_assoc, Nat.mul_mod, Nat.mul_mod b, hG, Nat.mul_one, Nat.mul_one, Nat.mod_mod, Nat.mod_mod] at h2
  rwa [Nat.mod_eq_of_lt ha, Nat.mod_eq_of_lt hb] at h2
end

theorem pw_even (p q n P : Nat) (h : n % 2 = 0) : p * (q * q % P) ^ (n / 2) % P = p * q ^ n % P := by
  rw [Nat.mul_mod, ← Nat.pow_mod, ← Nat.mul_mod, ← Nat.pow_two, ← Nat.pow_mul]
  congr 3; omega
theorem pw_odd (p q n P : Nat) (h : n % 2 = 1) : (p * q % P) * (q * q % P) ^ (n / 2) % P = p * q ^ n % P := by
  rw [Nat.mul_mod, ← Nat.pow_mod, Nat.mod_mod, ← Nat.mul_mod, ← Nat.pow_two, ← Nat.pow_mul, Nat.mul_assoc, ← Nat.pow_succ']
  congr 3; omega

theorem times_step (a b k : Nat) (P : Nat) : (a * (b % 2 ^ k) % P + (b / 2 ^ k % 2) * (a * 2 ^ k % P)) % P = a * (b % 2 ^ (k + 1)) % P := by
  have e : b % 2 ^ (k + 1) = b % 2 ^ k + 2 ^ k * (b / 2 ^ k % 2) := by
    rw [Nat.pow_succ, Nat.mod_mul]
  have e2 : a * (b % 2 ^ (k + 1)) = a * (b % 2 ^ k) + (b / 2 ^ k % 2) * (a * 2 ^ k) := by
    rw [e, Nat.mul_add, ← Nat.mul_assoc, Nat.mul_comm (a * 2 ^ k)]
  rw [e2, Nat.add_mod (a * (b % 2 ^ k)), Nat.add_mod (a * (b % 2 ^ k) % P), Nat.mod_mod, Nat.mul_mod (b / 2 ^ k % 2) (a * 2 ^ k % P), Nat.mod_mod, ← Nat.mul_mod]
theorem double_step (a k P : Nat) : (a * 2 ^ k % P + a * 2 ^ k % P) % P = a * 2 ^ (k + 1) % P := by
  have e : a * 2 ^ (k + 1) = a * 2 ^ k + a * 2 ^ k := by rw [Nat.pow_succ, ← Nat.mul_assoc, Nat.mul_two]
  rw [e, Nat.add_mod (a * 2 ^ k)]

def stepR (s a : Nat) : Nat := stepG 2305843009213693951 1000000007 s a
def joinR (a b n : Nat) : Nat := joinG 2305843009213693951 1000000007 a b n
def moreR (s : Nat) (bs : List Bool) : Nat := moreG 2305843009213693951 1000000007 s bs
theorem stepR_lt (s a : Nat) : stepR s a < 2305843009213693951 := Nat.mod_lt _ (by decide)
theorem joinR_lt (a b n : Nat) : joinR a b n < 2305843009213693951 := Nat.mod_lt _ (by decide)
theorem moreR_lt (s : Nat) (bs : List Bool) : moreR s bs < 2305843009213693951 := moreG_lt _ _ (by decide) s bs
theorem stepR_val (s a : Nat) : stepR s a = (s * 1000000007 + a) % 2305843009213693951 := by unfold stepR stepG; exact Eq.refl _
theorem stepR_mod (s a : Nat) : stepR (s % 2305843009213693951) a = stepR s a := by unfold stepR; exact stepG_mod _ _ _ _
theorem turns_eq {Z5 Z6 X s c : Nat} (h5 : Z5 = stepR s c) (h6 : Z6 = stepR X c) (hx : X = s % 2305843009213693951) : Z5 = Z6 := by
  subst hx; rw [h5, h6, stepR_mod]
theorem add_cancel (x y c P : Nat) (h : (x + c) % P = (y + c) % P) : x % P = y % P := by
  have h1 : ((x : Int) + c) % P = ((y : Int) + c) % P := by have := congrArg (fun n : Nat => (n : Int)) h; simpa using this
  have h2 := Int.emod_add_cancel_right (c : Int) |>.1 h1
  have h3 : ((x % P : Nat) : Int) = ((y % P : Nat) : Int) := by simpa using h2
  exact Int.ofNat.inj h3
theorem fac_inv (a b c : Nat) (ha : a < 2305843009213693951) (hb : b < 2305843009213693951) (h : stepR a c = stepR b c) : a = b := by
  have h1 := add_cancel _ _ c _ ((stepR_val a c).symm.trans (h.trans (stepR_val b c)))
  exact fac_invG 2305843009213693951 1000000007 162220979843304191 a b c (by decide) ha hb h1
theorem step_apart (a : Nat) : stepR a 2 ≠ stepR a 1 := by have h1 := stepR_val a 2; have h2 := stepR_val a 1; omega

end Go.Proofs.Ytfooggamdbdniaa
