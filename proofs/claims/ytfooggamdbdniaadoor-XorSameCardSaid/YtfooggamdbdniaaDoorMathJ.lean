/- Plain mathematics of bit strings: many of them, one behind the other. Imports nothing of the program. -/
import Derived.Test.YtfooggamdbdniaaDoorMathL
namespace Go.Proofs.YtfooggamdbdniaaDoor

/-- all bits of many, one behind the other: bytes and counts -/
def catE (E : List (List UInt8 × Int)) : List Bool := E.flatMap fun e => bitl e.1 e.2.toNat
def soundE (E : List (List UInt8 × Int)) : Bool := E.all fun e => soundB e.1 e.2
theorem catE_nil : catE [] = [] := rfl
theorem catE_snoc (E : List (List UInt8 × Int)) (k : Nat) (h : k < E.length) : catE (E.take (k + 1)) = catE (E.take k) ++ bitl E[k].1 E[k].2.toNat := by
  unfold catE
  rw [List.take_succ_eq_append_getElem h, List.flatMap_append]; simp only [List.flatMap_cons, List.flatMap_nil, List.append_nil]
theorem soundE_get {E : List (List UInt8 × Int)} (h : soundE E = true) (k : Nat) (hk : k < E.length) : soundB E[k].1 E[k].2 = true := by
  unfold soundE at h
  rw [List.all_eq_true] at h
  exact h _ (List.getElem_mem hk)
theorem soundE_first {E : List (List UInt8 × Int)} (h : soundE E = false) : ∃ k, ∃ hk : k < E.length, soundB E[k].1 E[k].2 = false ∧ ∀ j (hj : j < k), soundB (E[j]'(by omega)).1 (E[j]'(by omega)).2 = true := by
  induction E with
  | nil => simp [soundE] at h
  | cons e E ih =>
    by_cases he : soundB e.1 e.2 = true
    · have h2 : soundE E = false := by simpa [soundE, he] using h
      obtain ⟨k, hk, h3, h4⟩ := ih h2
      refine ⟨k + 1, by simp; omega, h3, fun j hj => ?_⟩
      cases j with
      | zero => exact he
      | succ j => exact h4 j (by omega)
    · exact ⟨0, by simp, by simpa using he, fun j hj => by omega⟩
/-- bound on how many bits -/
theorem catE_len (E : List (List UInt8 × Int)) (B : Nat) (hs : soundE E = true) (h : ∀ e ∈ E, e.1.length ≤ B) : (catE E).length ≤ 8 * B * E.length := by
  induction E with
  | nil => simp [catE]
  | cons e E ih =>
    have h1 : soundB e.1 e.2 = true ∧ soundE E = true := by simpa [soundE] using hs
    have h2 := ih h1.2 (fun x hx => h x (List.mem_cons_of_mem _ hx))
    obtain ⟨m, hm, hm8, _⟩ := sound_nat h1.1
    have h3 := h e (List.mem_cons_self ..)
    have e1 : catE (e :: E) = bitl e.1 e.2.toNat ++ catE E := by simp [catE]
    rw [e1, List.length_append, bitl_length, List.length_cons, Nat.mul_add]
    omega
theorem catE_take_len (E : List (List UInt8 × Int)) (k : Nat) (h : k < E.length) : (catE (E.take k)).length + E[k].2.toNat ≤ (catE E).length := by
  have h1 : catE E = catE (E.take k) ++ (bitl E[k].1 E[k].2.toNat ++ catE (E.drop (k + 1))) := by
    conv => lhs; rw [← List.take_append_drop k E, List.drop_eq_getElem_cons h]
    unfold catE
    rw [List.flatMap_append, List.flatMap_cons]
  rw [h1, List.length_append, List.length_append, bitl_length]
  omega

/-- b begins with the bits M; the rest is noughts -/
def Begins (b : List UInt8) (M : List Bool) : Prop := ∀ i, bt b i = M.getD i false
theorem Begins.zero (N : Nat) : Begins (List.replicate N 0) [] := fun i => by
  unfold bt
  rw [List.getD_eq_getElem?_getD, List.getElem?_replicate]
  split <;> simp
theorem Begins.lay {L x L' : List UInt8} {M : List Bool} {n : Nat} (h : Begins L M) (hs : soundB x n = true) (hl : LayAt L x M.length x.length L') : Begins L' (M ++ bitl x n) := fun i => by
  rw [hl.2 i, h i]
  obtain ⟨m, hm, hm8, hnb⟩ := sound_nat hs
  obtain rfl : n = m := by omega
  have hz := ((soundB_iff x n).1 hs).2.2
  rw [List.getD_eq_getElem?_getD, List.getD_eq_getElem?_getD]
  by_cases hi : i < M.length
  · rw [List.getElem?_append_left hi, List.getElem?_eq_getElem hi]
    have : ¬ (M.length ≤ i ∧ i < M.length + 8 * x.length) := by omega
    simp [this]
  · rw [List.getElem?_append_right (by omega), List.getElem?_eq_none (by omega)]
    have e : (bitl x n)[i - M.length]?.getD false = (bitl x n).getD (i - M.length) false := by rw [List.getD_eq_getElem?_getD]
    rw [e, bitl_get]
    by_cases h2 : i < M.length + n
    · rw [if_pos (by omega), decide_eq_true (show M.length ≤ i ∧ i < M.length + 8 * x.length by omega)]; simp
    · rw [if_neg (by omega), hz _ (by omega)]; simp
theorem Begins.pack {b : List UInt8} {M : List Bool} (h : Begins b M) (hl : b.length = nb M.length) : b = pack M := by
  apply bytes_ext
  · rw [hl, pack_length]
  · intro i _
    rw [h i, bt_pack]

/-- what Join answers: bytes, bits, the error -/
def joinSpec (E : List (List UInt8 × Int)) : List UInt8 × Nat × Nat := if soundE E = true then (pack (catE E), (catE E).length, 0) else ([], 0, 11)
theorem joinSpec_code (E : List (List UInt8 × Int)) : (joinSpec E).2.2 ≤ 11 := by
  unfold joinSpec
  split
  · exact Nat.zero_le _
  · exact Nat.le_refl _

end Go.Proofs.YtfooggamdbdniaaDoor
