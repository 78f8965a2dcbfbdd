/- Layer 7: frames as bytes: the mathematics. -/
import Derived.Test.YtpedobpbpomkaaaMathCrc
import Derived.Test.YtpedobpbpomkaaaMath
set_option linter.unusedSimpArgs false
set_option linter.unusedVariables false
namespace Go.Proofs.Ytpedobpbpomkaaa

/-- a number in so many bytes, the highest first -/
def be : Nat → Nat → List UInt8
  | 0, _ => []
  | w + 1, v => UInt8.ofNat (v / 256 ^ w % 256) :: be w v
def num (l : List UInt8) : Nat := l.foldl (fun n x => 256 * n + x.toNat) 0
theorem be_len (w v : Nat) : (be w v).length = w := by
  induction w with
  | zero => rfl
  | succ w ih => rw [be, List.length_cons, ih]
theorem be_get (v : Nat) : ∀ (w i : Nat), i < w → (be w v)[i]? = some (UInt8.ofNat (v / 256 ^ (w - 1 - i) % 256))
  | w + 1, 0, _ => by rw [be]; rfl
  | w + 1, i + 1, h => by
    rw [be, List.getElem?_cons_succ, be_get v w i (by omega)]
    congr 4
    rw [show w + 1 - 1 - (i + 1) = w - 1 - i by omega]
theorem num_from (l : List UInt8) : ∀ n, l.foldl (fun n x => 256 * n + x.toNat) n = n * 256 ^ l.length + num l := by
  induction l with
  | nil => intro n; simp [num]
  | cons x l ih =>
    intro n
    have h0 := ih (256 * 0 + x.toNat)
    unfold num at *
    rw [List.foldl_cons, ih, List.foldl_cons, h0, List.length_cons, Nat.pow_succ, Nat.mul_zero, Nat.zero_add, Nat.add_mul, Nat.add_assoc]
    congr 1
    rw [Nat.mul_comm 256 n, Nat.mul_assoc, Nat.mul_comm 256 (256 ^ l.length)]
theorem num_cons (x : UInt8) (l : List UInt8) : num (x :: l) = x.toNat * 256 ^ l.length + num l := by
  have := num_from l (256 * 0 + x.toNat)
  rw [Nat.mul_zero, Nat.zero_add] at this
  unfold num
  rw [List.foldl_cons, Nat.mul_zero, Nat.zero_add]
  exact this
theorem num_append (a b : List UInt8) : num (a ++ b) = num a * 256 ^ b.length + num b := by
  unfold num
  rw [List.foldl_append]
  exact num_from b _
theorem num_snoc {l : List UInt8} {k : Nat} {x : UInt8} (hx : l[k]? = some x) : num (l.take (k + 1)) = 256 * num (l.take k) + x.toNat := by
  obtain ⟨hk, he⟩ := List.getElem?_eq_some_iff.1 hx
  rw [List.take_succ_eq_append_getElem hk, he, num_append, num_cons]
  simp [num]
  omega
theorem num_lt (l : List UInt8) : num l < 256 ^ l.length := by
  induction l with
  | nil => simp [num]
  | cons x l ih =>
    rw [num_cons, List.length_cons, Nat.pow_succ]
    have hx : x.toNat < 256 := x.toNat_lt
    have : x.toNat * 256 ^ l.length + 256 ^ l.length ≤ 256 * 256 ^ l.length := by
      rw [← Nat.succ_mul]; exact Nat.mul_le_mul_right _ hx
    rw [Nat.mul_comm (256 ^ l.length) 256]
    omega
theorem num_be (v : Nat) : ∀ w, num (be w v) = v % 256 ^ w
  | 0 => by simp [be, num, Nat.mod_one]
  | w + 1 => by
    rw [be, num_cons, num_be v w, be_len, Nat.pow_succ]
    have h1 : (UInt8.ofNat (v / 256 ^ w % 256)).toNat = v / 256 ^ w % 256 := by simp
    rw [h1, Nat.mod_mul, Nat.mul_comm, Nat.add_comm]
theorem be_num : ∀ (l : List UInt8) (w : Nat), l.length = w → be w (num l) = l
  | [], 0, _ => rfl
  | x :: l, w + 1, h => by
    have hl : l.length = w := by simpa using h
    have hlt := num_lt l
    rw [hl] at hlt
    rw [be, num_cons, hl]
    have hp : 0 < 256 ^ w := Nat.pow_pos (by decide)
    congr 1
    · rw [Nat.add_comm, Nat.add_mul_div_right _ _ hp, Nat.div_eq_of_lt hlt, Nat.zero_add]
      have := x.toNat_lt
      rw [Nat.mod_eq_of_lt (by omega)]
      simp
    · have key : ∀ k, k ≤ w → be k (x.toNat * 256 ^ w + num l) = be k (num l) := by
        intro k
        induction k with
        | zero => intro _; rfl
        | succ k ih =>
          intro hk
          rw [be, be, ih (by omega)]
          congr 2
          have hpk : 0 < 256 ^ k := Nat.pow_pos (by decide)
          have e : x.toNat * 256 ^ w = x.toNat * 256 ^ (w - k - 1) * 256 * 256 ^ k := by
            rw [Nat.mul_assoc (x.toNat * 256 ^ (w - k - 1)) 256, Nat.mul_comm 256 (256 ^ k), ← Nat.pow_succ, Nat.mul_assoc, ← Nat.pow_add]
            congr 2
            omega
          rw [e, Nat.add_comm, Nat.add_mul_div_right _ _ hpk, Nat.mul_comm _ 256, Nat.add_mul_mod_self_left]
      rw [key w (Nat.le_refl _), be_num l w hl]
theorem be_mod (v : Nat) : ∀ w, be w (v % 256 ^ w) = be w v := fun w => by rw [← num_be v w, be_num _ w (be_len w v)]

/-- cut into parts of such lengths -/
def cutL : List Nat → List UInt8 → List (List UInt8)
  | [], _ => []
  | w :: ws, b => b.take w :: cutL ws (b.drop w)
theorem cutL_flat : ∀ (ws : List Nat) (b : List UInt8), (cutL ws b).flatten = b.take ws.sum
  | [], b => by simp [cutL]
  | w :: ws, b => by
    rw [cutL, List.flatten_cons, cutL_flat ws, List.sum_cons, ← List.take_append_drop w (b.take (w + ws.sum)), List.take_take, List.drop_take]
    congr 2 <;> congr 1 <;> omega
theorem cutL_of : ∀ (ws : List Nat) (ss : List (List UInt8)) (r : List UInt8), ss.map List.length = ws → cutL ws (ss.flatten ++ r) = ss
  | [], [], r, _ => rfl
  | w :: ws, s :: ss, r, h => by
    rw [List.map_cons] at h
    injection h with h1 h2
    rw [cutL, List.flatten_cons, List.append_assoc, ← h1, List.take_left, List.drop_left, cutL_of ws ss r h2]

/-- a frame's fields -/
structure FrD where
  kd : Nat
  ep : Nat
  se : Nat
  fc : Nat
  fb : Nat
  fn : Nat
  cn : Nat
  cl : Bool
  sm : Nat
  l : List UInt8
  n : Int
def FrD.ok (f : FrD) : Prop := f.kd < 256 ∧ f.ep < 4294967296 ∧ f.se < 4294967296 ∧ f.fc < 4294967296 ∧ f.fb < 4294967296 ∧ f.fn < 4294967296 ∧ f.cn < 4294967296 ∧ f.sm < 18446744073709551616 ∧ -9223372036854775808 ≤ f.n ∧ f.n ≤ 9223372036854775807
def zeroF : FrD := ⟨0, 0, 0, 0, 0, 0, 0, false, 0, [], 0⟩
def noneF (f : FrD) : Bool := decide (f.n = 0) && decide (f.l.length = 0)
def emptyF (f : FrD) : Bool := decide (f.cn = 0) && !f.cl && noneF f
def bringF (f : FrD) : Bool := soundB f.l f.n && decide (0 < f.n) && decide (f.fn < f.cn) && decide (f.l.length ≤ 4052)
/-- may a frame be? -/
def mayF (f : FrD) : Bool :=
  if f.kd = 1 then decide (f.se = 0) && decide (f.fc = 0 ∧ f.fb = 0 ∧ f.fn = 0) && decide (f.sm = 0) && emptyF f
  else if f.kd = 4 ∨ f.kd = 5 then emptyF f
  else if f.kd = 2 then bringF f
  else if f.kd = 3 then decide (f.fb = 0) && decide (f.fn = 0) && decide (f.sm = 0) && bringF f
  else false
def segW : List Nat := [2, 1, 4, 4, 4, 4, 4, 4, 1, 8, 4]
def segF (f : FrD) : List (List UInt8) := [[68, 89], be 1 f.kd, be 4 f.ep, be 4 f.se, be 4 f.fc, be 4 f.fb, be 4 f.fn, be 4 f.cn, be 1 (if f.cl then 1 else 0), be 8 f.sm, be 4 f.n.toNat]
theorem segF_len (f : FrD) : (segF f).map List.length = segW := by simp [segF, segW, be_len]
def bodyF (f : FrD) : List UInt8 := (segF f).flatten ++ f.l
/-- its bytes -/
def encF (f : FrD) : List UInt8 := bodyF f ++ be 4 (crcL (bodyF f))
theorem bodyF_len (f : FrD) : (bodyF f).length = 40 + f.l.length := by
  unfold bodyF
  rw [List.length_append, List.length_flatten, segF_len]; rfl
theorem encF_len (f : FrD) : (encF f).length = 44 + f.l.length := by unfold encF; rw [List.length_append, bodyF_len, be_len]; omega

/-- the fields that bytes have -/
def part (b : List UInt8) (i w : Nat) : List UInt8 := (b.drop i).take w
def parF (b : List UInt8) : FrD := ⟨num (part b 2 1), num (part b 3 4), num (part b 7 4), num (part b 11 4), num (part b 15 4), num (part b 19 4), num (part b 23 4), decide (num (part b 27 1) = 1), num (part b 28 8), part b 40 (b.length - 44), (num (part b 36 4) : Nat)⟩
theorem part_len {b : List UInt8} {i w : Nat} (h : i + w ≤ b.length) : (part b i w).length = w := by unfold part; rw [List.length_take, List.length_drop]; omega
theorem cut_parts (b : List UInt8) : cutL segW b = [part b 0 2, part b 2 1, part b 3 4, part b 7 4, part b 11 4, part b 15 4, part b 19 4, part b 23 4, part b 27 1, part b 28 8, part b 36 4] := by
  simp [cutL, segW, part, List.drop_drop]
theorem parF_ok (b : List UInt8) : (parF b).ok := by
  have h := fun i w => num_lt (part b i w)
  have hl : ∀ i w, (part b i w).length ≤ w := fun i w => by unfold part; rw [List.length_take]; omega
  have hp : ∀ i w, num (part b i w) < 256 ^ w := fun i w => Nat.lt_of_lt_of_le (h i w) (Nat.pow_le_pow_right (by decide) (hl i w))
  have a1 := hp 2 1
  have a2 := hp 3 4
  have a3 := hp 7 4
  have a4 := hp 11 4
  have a5 := hp 15 4
  have a6 := hp 19 4
  have a7 := hp 23 4
  have a8 := hp 28 8
  have a9 := hp 36 4
  unfold FrD.ok parF
  simp only
  omega
/-- what bytes say, if their sum is right -/
def goodF (b : List UInt8) : Bool := decide (num (part b 0 2) = 17497) && decide (num (part b 27 1) ≤ 1) && mayF (parF b)
def frontOf (b : List UInt8) : List UInt8 := b.take (b.length - 4)
def backOf (b : List UInt8) : List UInt8 := b.drop (b.length - 4)
/-- what Decode gives: fields, and an error -/
def decF (b : List UInt8) : FrD × Nat :=
  if b.length < 44 ∨ 4096 < b.length then (zeroF, 70)
  else if crcL (frontOf b) ≠ num (backOf b) then (zeroF, 71)
  else if goodF b then (parF b, 0) else (zeroF, 70)
theorem seg_par {b : List UInt8} (h44 : 44 ≤ b.length) : bodyF (parF b) = frontOf b ↔ num (part b 0 2) = 17497 ∧ num (part b 27 1) ≤ 1 := by
  have hfl := cutL_flat segW b
  rw [cut_parts] at hfl
  have hsum : segW.sum = 40 := by decide
  rw [hsum] at hfl
  have hfr : frontOf b = b.take 40 ++ part b 40 (b.length - 44) := by
    unfold frontOf part
    rw [← List.take_append_drop 40 (b.take (b.length - 4)), List.take_take, List.drop_take]
    congr 2 <;> omega
  have hL : (segF (parF b)).flatten.length = 40 := by rw [List.length_flatten, segF_len]; rfl
  have hinj : bodyF (parF b) = frontOf b ↔ segF (parF b) = [part b 0 2, part b 2 1, part b 3 4, part b 7 4, part b 11 4, part b 15 4, part b 19 4, part b 23 4, part b 27 1, part b 28 8, part b 36 4] := by
    rw [hfr, ← hfl]
    unfold bodyF
    constructor
    · intro h
      have h1 := congrArg (cutL segW) h
      rw [cutL_of segW _ _ (segF_len _)] at h1
      rw [h1]
      refine cutL_of segW _ _ ?_
      simp [segW, part_len, h44, show 2 ≤ b.length by omega, show 3 ≤ b.length by omega, show 7 ≤ b.length by omega, show 11 ≤ b.length by omega, show 15 ≤ b.length by omega, show 19 ≤ b.length by omega, show 23 ≤ b.length by omega, show 27 ≤ b.length by omega, show 28 ≤ b.length by omega, show 36 ≤ b.length by omega, show 40 ≤ b.length by omega]
    · intro h
      rw [h]
      congr 1
  rw [hinj]
  have e := fun i w (h : i + w ≤ b.length) => be_num (part b i w) w (part_len h)
  unfold segF
  simp only [parF, Int.toNat_natCast]
  rw [e 2 1 (by omega), e 3 4 (by omega), e 7 4 (by omega), e 11 4 (by omega), e 15 4 (by omega), e 19 4 (by omega), e 23 4 (by omega), e 28 8 (by omega), e 36 4 (by omega)]
  have m0 : [68, 89] = part b 0 2 ↔ num (part b 0 2) = 17497 := by
    have h2 := e 0 2 (by omega)
    constructor
    · intro h; rw [← h]; decide
    · intro h; rw [h] at h2; rw [← h2]; decide
  have m1 : be 1 (if decide (num (part b 27 1) = 1) then 1 else 0) = part b 27 1 ↔ num (part b 27 1) ≤ 1 := by
    have h2 := e 27 1 (by omega)
    constructor
    · intro h
      have := congrArg num h
      rw [num_be] at this
      split at this <;> omega
    · intro h
      rcases Nat.lt_or_ge (num (part b 27 1)) 1 with h3 | h3
      · have h4 : num (part b 27 1) = 0 := by omega
        rw [h4] at h2 ⊢
        rw [← h2]; rfl
      · have h4 : num (part b 27 1) = 1 := by omega
        rw [h4] at h2 ⊢
        rw [← h2]; rfl
  rw [← m0, ← m1]
  simp
theorem enc_par {b : List UInt8} (h44 : 44 ≤ b.length) (hc : crcL (frontOf b) = num (backOf b)) : encF (parF b) = b ↔ num (part b 0 2) = 17497 ∧ num (part b 27 1) ≤ 1 := by
  rw [← seg_par h44]
  have hb : b = frontOf b ++ backOf b := (List.take_append_drop _ _).symm
  have hbl : (backOf b).length = 4 := by unfold backOf; rw [List.length_drop]; omega
  constructor
  · intro h
    have h1 := congrArg frontOf h
    have h2 : frontOf (encF (parF b)) = bodyF (parF b) := by
      unfold frontOf encF
      rw [List.length_append, be_len, Nat.add_sub_cancel, List.take_left]
    rw [h2] at h1
    exact h1
  · intro h
    unfold encF
    rw [h, hc, be_num _ 4 hbl]
    exact hb.symm
theorem front_enc (f : FrD) : frontOf (encF f) = bodyF f := by
  unfold frontOf encF
  rw [List.length_append, be_len, Nat.add_sub_cancel, List.take_left]
theorem back_enc (f : FrD) : backOf (encF f) = be 4 (crcL (bodyF f)) := by
  unfold backOf encF
  rw [List.length_append, be_len, Nat.add_sub_cancel, List.drop_left]
theorem crc_enc (f : FrD) : crcL (frontOf (encF f)) = num (backOf (encF f)) := by
  rw [front_enc, back_enc, num_be, Nat.mod_eq_of_lt (crcL_lt _)]
theorem mayF_n {f : FrD} (h : mayF f = true) : 0 ≤ f.n ∧ f.n ≤ 32416 ∧ f.l.length ≤ 4052 := by
  unfold mayF emptyF noneF bringF at h
  have hs : soundB f.l f.n = true → 0 < f.n → f.l.length ≤ 4052 → f.n ≤ 32416 := by
    intro h1 h2 h3
    unfold soundB nb at h1
    simp [-List.length_eq_zero_iff] at h1
    omega
  split at h
  · simp [-List.length_eq_zero_iff] at h; omega
  · split at h
    · simp [-List.length_eq_zero_iff] at h; omega
    · split at h
      · simp at h
        have := hs h.1.1.1 h.1.1.2 h.2
        omega
      · split at h
        · simp at h
          have := hs h.2.1.1.1 h.2.1.1.2 h.2.2
          omega
        · cases h
theorem par_enc {f : FrD} (ho : f.ok) (hm : mayF f = true) : parF (encF f) = f := by
  obtain ⟨hn0, hn1, hl⟩ := mayF_n hm
  have hcut : cutL segW (encF f) = segF f := by
    unfold encF bodyF
    rw [List.append_assoc]
    exact cutL_of segW _ _ (segF_len f)
  rw [cut_parts] at hcut
  have hlen := encF_len f
  have hrest : part (encF f) 40 ((encF f).length - 44) = f.l := by
    unfold part
    have hL : (segF f).flatten.length = 40 := by rw [List.length_flatten, segF_len]; rfl
    rw [hlen]
    unfold encF bodyF
    rw [List.append_assoc, List.drop_left' hL, show 44 + f.l.length - 44 = f.l.length by omega, List.take_left]
  unfold segF at hcut
  simp only [List.cons.injEq, and_true] at hcut
  obtain ⟨-, h1, h2, h3, h4, h5, h6, h7, h8, h9, h10⟩ := hcut
  obtain ⟨o1, o2, o3, o4, o5, o6, o7, o8, -, -⟩ := ho
  unfold parF
  rw [h1, h2, h3, h4, h5, h6, h7, h8, h9, h10, hrest]
  simp only [num_be]
  obtain ⟨kd, ep, se, fc, fb, fn, cn, cl, sm, l, n⟩ := f
  simp only at *
  rw [Nat.mod_eq_of_lt (show kd < 256 ^ 1 by omega), Nat.mod_eq_of_lt (show ep < 256 ^ 4 by omega), Nat.mod_eq_of_lt (show se < 256 ^ 4 by omega), Nat.mod_eq_of_lt (show fc < 256 ^ 4 by omega), Nat.mod_eq_of_lt (show fb < 256 ^ 4 by omega), Nat.mod_eq_of_lt (show fn < 256 ^ 4 by omega), Nat.mod_eq_of_lt (show cn < 256 ^ 4 by omega), Nat.mod_eq_of_lt (show sm < 256 ^ 8 by omega), Nat.mod_eq_of_lt (show n.toNat < 256 ^ 4 by omega), Int.toNat_of_nonneg hn0]
  cases cl <;> rfl

/-- one other byte has another sum -/
theorem crcF_cancel (l : List UInt8) {c d : Nat} (hc : c < 4294967296) (hd : d < 4294967296) (h : crcF c l = crcF d l) : c = d := by
  have h1 := crcF_xor l l c d rfl
  rw [h, Nat.xor_self] at h1
  have h2 : ∀ (l : List UInt8), List.zipWith (· ^^^ ·) l l = List.replicate l.length 0 := by
    intro l
    induction l with
    | nil => rfl
    | cons x l ih => rw [List.zipWith_cons_cons, ih, List.length_cons, List.replicate_succ]; simp
  rw [h2] at h1
  have h3 : ∀ (n : Nat) (e : Nat), crcF e (List.replicate n 0) = csteps (8 * n) e := by
    intro n
    induction n with
    | zero => intro e; rfl
    | succ n ih =>
      intro e
      rw [List.replicate_succ]
      show crcF (crcB e 0) (List.replicate n 0) = _
      rw [ih, crcB, Nat.xor_zero, ← csteps_add, show 8 + 8 * n = 8 * (n + 1) by omega]
  rw [h3] at h1
  have h4 := csteps_zero _ (Nat.xor_lt_two_pow (n := 32) hc hd) h1.symm
  exact xor_eq_zero.1 h4
theorem crcL_byte {a b : List UInt8} {x y : UInt8} (h : crcL (a ++ x :: b) = crcL (a ++ y :: b)) : x = y := by
  rw [crcL_inj, crcF_append, crcF_append] at h
  have hA := crcF_lt a (c := 4294967295) (by decide)
  have h1 : crcF (crcB (crcF 4294967295 a) x.toNat) b = crcF (crcB (crcF 4294967295 a) y.toNat) b := h
  have hx := x.toNat_lt
  have hy := y.toNat_lt
  have h2 := crcF_cancel b (crcB_lt hA (by omega)) (crcB_lt hA (by omega)) h1
  unfold crcB at h2
  have h3 : csteps 8 (crcF 4294967295 a ^^^ x.toNat ^^^ (crcF 4294967295 a ^^^ y.toNat)) = 0 := by rw [csteps_xor, h2, Nat.xor_self]
  have h4 := csteps_zero _ (Nat.xor_lt_two_pow (n := 32) (Nat.xor_lt_two_pow (n := 32) hA (by omega)) (Nat.xor_lt_two_pow (n := 32) hA (by omega))) h3
  have h5 := xor_eq_zero.1 h4
  have h6 := congrArg (crcF 4294967295 a ^^^ ·) h5
  simp only [← Nat.xor_assoc, Nat.xor_self, Nat.zero_xor] at h6
  exact UInt8.toNat_inj.1 h6
/-- bytes of a frame, one of them another one: are they told? -/
theorem dec_bent {f : FrD} (ho : f.ok) (hm : mayF f = true) {at_ : Nat} {x c : UInt8} (hx : (encF f)[at_]? = some x) : ((decF ((encF f).set at_ c)).2 = 0) ↔ x = c := by
  obtain ⟨ha, hxe⟩ := List.getElem?_eq_some_iff.1 hx
  have hl := encF_len f
  obtain ⟨-, -, hl2⟩ := mayF_n hm
  constructor
  · intro h
    unfold decF at h
    rw [List.length_set, if_neg (by omega)] at h
    by_cases hc : crcL (frontOf ((encF f).set at_ c)) = num (backOf ((encF f).set at_ c))
    · have hfr : frontOf ((encF f).set at_ c) = (frontOf (encF f)).set at_ c := by
        unfold frontOf; rw [List.length_set, List.take_set]
      have hce := crc_enc f
      rcases Nat.lt_or_ge at_ ((encF f).length - 4) with h1 | h1
      · have hbk : backOf ((encF f).set at_ c) = backOf (encF f) := by
          unfold backOf; rw [List.length_set, List.drop_set_of_lt h1]
        rw [hbk, ← hce, hfr] at hc
        have hal : at_ < (frontOf (encF f)).length := by unfold frontOf; rw [List.length_take]; omega
        have hget0 : (frontOf (encF f))[at_]? = some x := by
          unfold frontOf; rw [List.getElem?_take, if_pos h1]; exact hx
        have hget : (frontOf (encF f))[at_] = x := (List.getElem?_eq_some_iff.1 hget0).2
        have e1 : frontOf (encF f) = (frontOf (encF f)).take at_ ++ x :: (frontOf (encF f)).drop (at_ + 1) := by
          conv => lhs; rw [← List.take_append_drop at_ (frontOf (encF f)), List.drop_eq_getElem_cons hal, hget]
        have e2 : (frontOf (encF f)).set at_ c = (frontOf (encF f)).take at_ ++ c :: (frontOf (encF f)).drop (at_ + 1) := List.set_eq_take_append_cons_drop.trans (if_pos hal)
        rw [e2] at hc
        conv at hc => rhs; rw [e1]
        exact (crcL_byte hc).symm
      · have hfs : (frontOf (encF f)).set at_ c = frontOf (encF f) := List.set_eq_of_length_le (by unfold frontOf; rw [List.length_take]; omega)
        rw [hfr, hfs, hce] at hc
        have hb1 : (backOf ((encF f).set at_ c)).length = 4 := by unfold backOf; rw [List.length_drop, List.length_set]; omega
        have hb2 : (backOf (encF f)).length = 4 := by unfold backOf; rw [List.length_drop]; omega
        have h3 := congrArg (be 4) hc
        rw [be_num _ 4 hb1, be_num _ 4 hb2] at h3
        have h4 := congrArg (fun l : List UInt8 => l[at_ - ((encF f).length - 4)]?) h3
        unfold backOf at h4
        rw [List.length_set, List.getElem?_drop, List.getElem?_drop, show (encF f).length - 4 + (at_ - ((encF f).length - 4)) = at_ by omega, hx, List.getElem?_set_self ha] at h4
        injection h4
    · rw [if_pos hc] at h; cases h
  · intro h
    subst h
    rw [show (encF f).set at_ x = encF f by
      refine List.ext_getElem? fun i => ?_
      by_cases e : i = at_
      · subst e; rw [List.getElem?_set_self ha, hx]
      · rw [List.getElem?_set_ne (fun h => e h.symm)]]
    unfold decF
    have hg : goodF (encF f) = true := by
      have hpe := par_enc ho hm
      have h2 := (enc_par (b := encF f) (by omega) (crc_enc f)).1 (by rw [hpe])
      unfold goodF
      rw [hpe, hm, decide_eq_true h2.1, decide_eq_true h2.2]; rfl
    rw [if_neg (by omega), if_neg (by rw [crc_enc]; simp), if_pos hg]
theorem dec_enc {f : FrD} (ho : f.ok) (hm : mayF f = true) : decF (encF f) = (f, 0) := by
  have hl := encF_len f
  obtain ⟨-, -, hl2⟩ := mayF_n hm
  have hpe := par_enc ho hm
  have hg : goodF (encF f) = true := by
    have h2 := (enc_par (b := encF f) (by omega) (crc_enc f)).1 (by rw [hpe])
    unfold goodF
    rw [hpe, hm, decide_eq_true h2.1, decide_eq_true h2.2]; rfl
  unfold decF
  rw [if_neg (by omega), if_neg (by rw [crc_enc]; simp), if_pos hg, hpe]
/-- what is read is written so -/
theorem enc_dec {b : List UInt8} (h : (decF b).2 = 0) : decF b = (parF b, 0) ∧ mayF (parF b) = true ∧ encF (parF b) = b ∧ 44 ≤ b.length ∧ b.length ≤ 4096 := by
  unfold decF at h ⊢
  by_cases h1 : b.length < 44 ∨ 4096 < b.length
  · rw [if_pos h1] at h; cases h
  · rw [if_neg h1] at h ⊢
    by_cases h2 : crcL (frontOf b) ≠ num (backOf b)
    · rw [if_pos h2] at h; cases h
    · rw [if_neg h2] at h ⊢
      by_cases h3 : goodF b = true
      · rw [if_pos h3]
        have hg := h3
        unfold goodF at hg
        simp only [Bool.and_eq_true, decide_eq_true_eq] at hg
        exact ⟨rfl, hg.2, (enc_par (by omega) (Classical.not_not.1 h2)).2 hg.1, by omega, by omega⟩
      · rw [if_neg h3] at h; cases h

end Go.Proofs.Ytpedobpbpomkaaa
