/- Plain mathematics of numbers that are written as bits (zig). Imports nothing of the program. -/
import Derived.Test.YtbogjnfjnchfhaaMath
namespace Go.Proofs.Ytbogjnfjnchfhaa

def foldZ (v : Int) : Nat := if 0 ≤ v then 2 * v.toNat else 2 * (-(v + 1)).toNat + 1
def unfoldZ (n : Nat) : Int := if n % 2 = 0 then ((n / 2 : Nat) : Int) else -((n / 2 : Nat) : Int) - 1

theorem foldZ_lt (v : Int) (h : -9223372036854775808 ≤ v ∧ v ≤ 9223372036854775807) : foldZ v < 18446744073709551616 := by unfold foldZ; split <;> omega
theorem unfold_fold (v : Int) : unfoldZ (foldZ v) = v := by unfold foldZ unfoldZ; split <;> split <;> omega
theorem fold_unfold (n : Nat) : foldZ (unfoldZ n) = n := by unfold foldZ unfoldZ; split <;> split <;> omega
theorem unfoldZ_bd (n : Nat) (h : n < 18446744073709551616) : -9223372036854775808 ≤ unfoldZ n ∧ unfoldZ n ≤ 9223372036854775807 := by unfold unfoldZ; split <;> omega
theorem foldZ_inj {a b : Int} (h : foldZ a = foldZ b) : a = b := by rw [← unfold_fold a, h, unfold_fold]

/-- the rows: how wide; how long the front is; the front as a number -/
def zw : Nat → Nat | 0 => 0 | 1 => 7 | 2 => 9 | 3 => 12 | 4 => 32 | _ => 64
def zl : Nat → Nat | 0 => 1 | 1 => 2 | 2 => 3 | 3 => 4 | _ => 5
def zp : Nat → Nat | 0 => 0 | 1 => 2 | 2 => 6 | 3 => 14 | 4 => 30 | _ => 31
/-- the first row that fits -/
def zk (n : Nat) : Nat := if n < 1 then 0 else if n < 128 then 1 else if n < 512 then 2 else if n < 4096 then 3 else if n < 4294967296 then 4 else 5
def zenc (n : Nat) : List Bool := valB (zp (zk n)) (zl (zk n)) ++ valB n (zw (zk n))

theorem zk_le (n : Nat) : zk n ≤ 5 := by unfold zk; (repeat' split) <;> omega
theorem zl_pos (k : Nat) : 1 ≤ zl k ∧ zl k ≤ 5 := by unfold zl; split <;> omega
theorem zw_le (k : Nat) : zw k ≤ 64 := by unfold zw; split <;> omega
theorem zenc_length (n : Nat) : (zenc n).length = zl (zk n) + zw (zk n) := by unfold zenc; rw [List.length_append, valB_length, valB_length]
theorem zenc_pos (n : Nat) : 1 ≤ (zenc n).length ∧ (zenc n).length ≤ 69 := by
  rw [zenc_length]; have := zl_pos (zk n); have := zw_le (zk n); omega
theorem zk_fits (n : Nat) (h : n < 18446744073709551616) : n < 2 ^ zw (zk n) := by
  unfold zk
  repeat' split
  all_goals simp only [zw]; omega
theorem zk_first (n k : Nat) (h : n < 2 ^ zw k) (hk : k ≤ 5) : zk n ≤ k := by
  unfold zk
  match k, hk with
  | 0, _ => simp only [zw] at h; (repeat' split) <;> omega
  | 1, _ => simp only [zw] at h; (repeat' split) <;> omega
  | 2, _ => simp only [zw] at h; (repeat' split) <;> omega
  | 3, _ => simp only [zw] at h; (repeat' split) <;> omega
  | 4, _ => simp only [zw] at h; (repeat' split) <;> omega
  | 5, _ => (repeat' split) <;> omega
theorem zk_not (n k : Nat) (h : k < zk n) : ¬ n < 2 ^ zw k := fun h1 => by
  have := zk_first n k h1 (by have := zk_le n; omega); omega
theorem zk_mono {a b : Nat} (h : a ≤ b) (hb : b < 18446744073709551616) : zk a ≤ zk b := zk_first a _ (Nat.lt_of_le_of_lt h (zk_fits b hb)) (zk_le b)
theorem zlen_mono {i j : Nat} (h : i ≤ j) (hj : j ≤ 5) : zl i + zw i ≤ zl j + zw j := by
  have h5 : ∀ j ≤ 5, ∀ i ≤ j, zl i + zw i ≤ zl j + zw j := by decide
  exact h5 j hj i h
theorem zenc_mono {a b : Nat} (h : a ≤ b) (hb : b < 18446744073709551616) : (zenc a).length ≤ (zenc b).length := by
  rw [zenc_length, zenc_length]; exact zlen_mono (zk_mono h hb) (zk_le b)
theorem foldZ_half (v : Int) : foldZ (v.tdiv 2) ≤ foldZ v := by
  unfold foldZ
  rcases Int.lt_or_le v 0 with h | h
  · have e : v.tdiv 2 = -((-v) / 2) := by
      rw [show v = -(-v) by omega, Int.neg_tdiv, Int.tdiv_eq_ediv_of_nonneg (by omega)]; simp
    rw [e]
    split <;> split <;> omega
  · rw [Int.tdiv_eq_ediv_of_nonneg h, if_pos h, if_pos (by omega)]; omega

/-- how many ones are ahead, so many at most -/
def ones : Nat → List Bool → Nat
  | k + 1, true :: r => ones k r + 1
  | _, _ => 0
theorem ones_le (k : Nat) (L : List Bool) : ones k L ≤ k := by
  induction k generalizing L with
  | zero => simp [ones]
  | succ k ih =>
    cases L with
    | nil => simp [ones]
    | cons b r => cases b <;> simp [ones]; exact ih r
theorem ones_len (k : Nat) (L : List Bool) : ones k L ≤ L.length := by
  induction k generalizing L with
  | zero => simp [ones]
  | succ k ih =>
    cases L with
    | nil => simp [ones]
    | cons b r => cases b <;> simp [ones]; exact ih r
/-- one more -/
theorem ones_go (k : Nat) (L : List Bool) (j : Nat) (hj : j < k) (h : L.getD j false = true) : ones (k - j) (L.drop j) = ones (k - (j + 1)) (L.drop (j + 1)) + 1 := by
  have hl : j < L.length := by
    rcases Nat.lt_or_ge j L.length with h1 | h1
    · exact h1
    · rw [List.getD_eq_getElem?_getD, List.getElem?_eq_none h1] at h; cases h
  rw [List.getD_eq_getElem?_getD, List.getElem?_eq_getElem hl] at h
  rw [List.drop_eq_getElem_cons hl, show k - j = (k - (j + 1)) + 1 by omega, show L[j] = true from h]
  rfl
theorem ones_stop (k : Nat) (L : List Bool) (j : Nat) (h : L.getD j false = false) : ones (k - j) (L.drop j) = 0 := by
  rcases Nat.lt_or_ge j L.length with hl | hl
  · rw [List.getD_eq_getElem?_getD, List.getElem?_eq_getElem hl] at h
    rw [List.drop_eq_getElem_cons hl, show L[j] = false from h]
    cases k - j <;> rfl
  · rw [List.drop_eq_nil_of_le hl]
    cases k - j <;> rfl

/-- which row stands ahead -/
def zrow (L : List Bool) : Nat := ones 5 L

theorem zrow_front (L : List Bool) (h : zl (zrow L) ≤ L.length) : L.take (zl (zrow L)) = valB (zp (zrow L)) (zl (zrow L)) := by
  revert h
  unfold zrow
  rcases L with _ | ⟨a, _ | ⟨b, _ | ⟨c, _ | ⟨d, _ | ⟨e, r⟩⟩⟩⟩⟩
  · simp [ones, zl]
  · cases a <;> simp [ones, zl, zp, valB, List.range_succ]
  · cases a <;> cases b <;> simp [ones, zl, zp, valB, List.range_succ] <;> decide
  · cases a <;> cases b <;> cases c <;> simp [ones, zl, zp, valB, List.range_succ] <;> decide
  · cases a <;> cases b <;> cases c <;> cases d <;> simp [ones, zl, zp, valB, List.range_succ] <;> decide
  · cases a <;> cases b <;> cases c <;> cases d <;> cases e <;> simp [ones, zl, zp, valB, List.range_succ] <;> decide

theorem zrow_num (L : List Bool) (h : zl (zrow L) ≤ L.length) : numB (L.take (zl (zrow L))) = zp (zrow L) := by
  rw [zrow_front L h, numB_valB]
  have : ∀ k ≤ 5, zp k % 2 ^ zl k = zp k := by decide
  exact this _ (ones_le 5 L)
theorem zrow_not (L : List Bool) (k : Nat) (hk : k < zrow L) (h : zl k ≤ L.length) : numB (L.take (zl k)) ≠ zp k := by
  revert h hk
  unfold zrow
  rcases L with _ | ⟨a, _ | ⟨b, _ | ⟨c, _ | ⟨d, _ | ⟨e, r⟩⟩⟩⟩⟩
  · simp [ones]
  · cases a <;> simp [ones] <;> (intro hk; obtain rfl : k = 0 := by omega) <;> simp [zl, zp, numB, b2n]
  · cases a <;> cases b <;> simp [ones] <;> intro hk <;> (obtain rfl | rfl : k = 0 ∨ k = 1 := by omega) <;> simp_all [zl, zp, numB, b2n]
  · cases a <;> cases b <;> cases c <;> simp [ones] <;> intro hk <;> (obtain rfl | rfl | rfl : k = 0 ∨ k = 1 ∨ k = 2 := by omega) <;> simp_all [zl, zp, numB, b2n]
  · cases a <;> cases b <;> cases c <;> cases d <;> simp [ones] <;> intro hk <;> (obtain rfl | rfl | rfl | rfl : k = 0 ∨ k = 1 ∨ k = 2 ∨ k = 3 := by omega) <;> simp_all [zl, zp, numB, b2n]
  · cases a <;> cases b <;> cases c <;> cases d <;> cases e <;> simp [ones] <;> intro hk <;> (obtain rfl | rfl | rfl | rfl | rfl : k = 0 ∨ k = 1 ∨ k = 2 ∨ k = 3 ∨ k = 4 := by omega) <;> simp_all [zl, zp, numB, b2n]
theorem zrow_len (L : List Bool) (k : Nat) (hk : k < zrow L) : zl k ≤ L.length + 1 := by
  have h1 := ones_len 5 L
  have h2 := ones_le 5 L
  unfold zrow at hk
  have : ∀ k < 5, zl k = k + 1 := by decide
  rw [this k (by omega)]; omega

/-- what is read: the number, how many bits it took, the error -/
def zget (L : List Bool) : Nat × Nat × Nat :=
  if L.length < zl (zrow L) + zw (zrow L) then (0, 0, 10)
  else if zk (numB ((L.drop (zl (zrow L))).take (zw (zrow L)))) ≠ zrow L then (0, 0, 11)
  else (numB ((L.drop (zl (zrow L))).take (zw (zrow L))), zl (zrow L) + zw (zrow L), 0)

theorem zrow_enc (k : Nat) (hk : k ≤ 5) (r : List Bool) : zrow (valB (zp k) (zl k) ++ r) = k := by
  match k, hk with
  | 0, _ => rfl
  | 1, _ => rfl
  | 2, _ => rfl
  | 3, _ => rfl
  | 4, _ => rfl
  | 5, _ => rfl

theorem zget_enc (n : Nat) (h : n < 18446744073709551616) (r : List Bool) : zget (zenc n ++ r) = (n, (zenc n).length, 0) := by
  have e : zrow (zenc n ++ r) = zk n := by unfold zenc; rw [List.append_assoc]; exact zrow_enc _ (zk_le n) _
  have e2 : ((zenc n ++ r).drop (zl (zk n))).take (zw (zk n)) = valB n (zw (zk n)) := by
    unfold zenc
    rw [List.append_assoc, List.drop_left' (valB_length _ _), List.take_left' (valB_length _ _)]
  unfold zget
  rw [e, e2, numB_valB, Nat.mod_eq_of_lt (zk_fits n h), if_neg (by rw [List.length_append, zenc_length]; omega), if_neg (by simp), zenc_length]

theorem zget_only {L : List Bool} {n len : Nat} (h : zget L = (n, len, 0)) : L.take len = zenc n ∧ len ≤ L.length ∧ n < 18446744073709551616 := by
  unfold zget at h
  split at h
  · simp at h
  · split at h
    · simp at h
    · rename_i h1 h2
      injection h with e1 e2
      injection e2 with e2 _
      have h3 : zk n = zrow L := by rw [← e1]; simpa using h2
      have hlen : ((L.drop (zl (zrow L))).take (zw (zrow L))).length = zw (zrow L) := by rw [List.length_take, List.length_drop]; omega
      have hv : valB n (zw (zrow L)) = (L.drop (zl (zrow L))).take (zw (zrow L)) := by
        rw [← e1]
        have := valB_numB ((L.drop (zl (zrow L))).take (zw (zrow L)))
        rwa [hlen] at this
      refine ⟨?_, by omega, ?_⟩
      · unfold zenc
        rw [h3, hv, ← zrow_front L (by omega), ← e2, List.take_add]
      · have h4 := numB_lt ((L.drop (zl (zrow L))).take (zw (zrow L)))
        rw [e1, hlen] at h4
        have h5 : 2 ^ zw (zrow L) ≤ 2 ^ 64 := Nat.pow_le_pow_right (by decide) (zw_le _)
        omega
theorem zget_zero {L : List Bool} {n len e : Nat} (h : zget L = (n, len, e)) (he : e ≠ 0) : n = 0 ∧ len = 0 ∧ (e = 10 ∨ e = 11) := by
  unfold zget at h
  split at h
  · injection h with e1 e2; injection e2 with e2 e3; omega
  · split at h
    · injection h with e1 e2; injection e2 with e2 e3; omega
    · injection h with e1 e2; injection e2 with e2 e3; omega
theorem zget_len (L : List Bool) : (zget L).2.1 ≤ L.length := by
  unfold zget
  split
  · exact Nat.zero_le _
  · split
    · exact Nat.zero_le _
    · show zl _ + zw _ ≤ _; omega
theorem zget_nil : zget [] = (0, 0, 10) := rfl

/-- numbers one behind the other -/
def zrowl (l : List Int) : List Bool := l.flatMap fun v => zenc (foldZ v)
theorem zrowl_snoc (l : List Int) (v : Int) : zrowl (l ++ [v]) = zrowl l ++ zenc (foldZ v) := by simp [zrowl]
theorem zrowl_cons (l : List Int) (v : Int) : zrowl (v :: l) = zenc (foldZ v) ++ zrowl l := by simp [zrowl]
theorem zrowl_append (a b : List Int) : zrowl (a ++ b) = zrowl a ++ zrowl b := by simp [zrowl]
theorem zrowl_len (l : List Int) : (zrowl l).length ≤ 69 * l.length := by
  induction l with
  | nil => simp [zrowl]
  | cons v r ih =>
    rw [zrowl_cons, List.length_append, List.length_cons]
    have := (zenc_pos (foldZ v)).2
    omega
theorem zrowl_inj {a b : List Int} (ha : ∀ v ∈ a, -9223372036854775808 ≤ v ∧ v ≤ 9223372036854775807) (hb : ∀ v ∈ b, -9223372036854775808 ≤ v ∧ v ≤ 9223372036854775807) (h : zrowl a = zrowl b) : a = b := by
  induction a generalizing b with
  | nil =>
    cases b with
    | nil => rfl
    | cons v r =>
      have h1 := congrArg List.length h
      rw [zrowl_cons, List.length_append] at h1
      have := (zenc_pos (foldZ v)).1
      simp [zrowl] at h1
      omega
  | cons u s ih =>
    cases b with
    | nil =>
      have h1 := congrArg List.length h
      rw [zrowl_cons, List.length_append] at h1
      have h2 := (zenc_pos (foldZ u)).1
      rw [show zrowl ([] : List Int) = [] from rfl, List.length_nil] at h1
      omega
    | cons v r =>
      rw [zrowl_cons, zrowl_cons] at h
      have h1 := zget_enc (foldZ u) (foldZ_lt u (ha u (by simp))) (zrowl s)
      have h2 := zget_enc (foldZ v) (foldZ_lt v (hb v (by simp))) (zrowl r)
      rw [h, h2] at h1
      injection h1 with e1 e2
      obtain rfl := foldZ_inj e1
      have h3 := List.append_cancel_left h
      rw [ih (fun x hx => ha x (by simp [hx])) (fun x hx => hb x (by simp [hx])) h3]

end Go.Proofs.Ytbogjnfjnchfhaa
