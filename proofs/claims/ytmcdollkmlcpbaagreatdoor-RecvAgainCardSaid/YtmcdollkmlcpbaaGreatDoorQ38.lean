/- Joined: Chk23. -/
import Derived.Test.YtmcdollkmlcpbaaGreatDoorQ37
import Derived.Deep.RegionWith
set_option linter.unusedSimpArgs false
set_option linter.unusedVariables false
namespace Go.Proofs.YtmcdollkmlcpbaaGreatDoor
def rcS (a : Nat) (e : EC) : List (Int × Nat) → List RC
 | [] => []
 | s :: S => ⟨s.1, s.2, ((a + (encC e s.1 s.2).1.length : Nat) : Int), (encC e s.1 s.2).2, 0⟩ :: rcS (a + (encC e s.1 s.2).1.length) (encC e s.1 s.2).2 S
theorem rcS_good (S : List (Int × Nat)) : ∀ a e, ∀ x ∈ rcS a e S, x.c = 0 := by
 induction S with
 | nil => intro a e x h; cases h
 | cons s S ih =>
  intro a e x h
  rcases List.mem_cons.1 h with rfl | h
  ·rfl
  ·exact ih _ _ x h
theorem rcS_smp (S : List (Int × Nat)) : ∀ a e, (rcS a e S).map smpR = S := by
 induction S with
 | nil => intro a e; rfl
 | cons s S ih => intro a e; simp [rcS, smpR, ih]
theorem rcS_length (S : List (Int × Nat)) (a : Nat) (e : EC) : (rcS a e S).length = S.length := by
 have := congrArg List.length (rcS_smp S a e)
 simpa using this
theorem lastE_cons (x y : RC) (l : List RC) : lastE (x :: y :: l) = lastE (y :: l) := by simp [lastE, List.getLast?_cons_cons]
theorem rcS_last (S : List (Int × Nat)) : ∀ a e, S ≠ [] → lastE (rcS a e S) = lastC e S := by
 induction S with
 | nil => intro a e h; exact absurd rfl h
 | cons s S ih =>
  intro a e _
  cases S with
  | nil => rfl
  | cons u S =>
   have h := ih (a + (encC e s.1 s.2).1.length) (encC e s.1 s.2).2 (by simp)
   simp only [rcS] at h ⊢
   rw [lastE_cons, h]
   rfl
theorem rcS_last0 (S : List (Int × Nat)) (a : Nat) : lastE (rcS a ec0 S) = lastC ec0 S := by
 cases S with
 | nil => rfl
 | cons s S => exact rcS_last _ a ec0 (by simp)
theorem rcS_nd (S : List (Int × Nat)) : ∀ a e j, j < S.length → ((rcS a e S).map (·.nd))[j]? = some ((a + (codesC e (S.take (j + 1))).length : Nat) : Int) := by
 induction S with
 | nil => intro a e j h; simp at h
 | cons s S ih =>
  intro a e j h
  cases j with
  | zero => simp [rcS, codesC]
  | succ j =>
   have := ih (a + (encC e s.1 s.2).1.length) (encC e s.1 s.2).2 j (by simpa using h)
   simp only [rcS, List.map_cons, List.getElem?_cons_succ, this, List.take_succ_cons, codesC, List.length_append]
   congr 2
   omega
theorem rdC_laid (l : List UInt8) (m : Nat) (S : List (Int × Nat)) : ∀ (f : Nat) (e : EC) (a : Nat), OkC e → 0 ≤ e.n → e.n + S.length ≤ 1000000 → InC S → RiseC e S → (bitl l m).drop a = codesC e S → a ≤ m → S.length ≤ f → rdC l m f e a = rcS a e S := by
 induction S with
 | nil =>
  intro f e a he hn hb hi hr h ha hf
  have hz : m ≤ a := by
   have := congrArg List.length h
   simp only [List.length_drop, bitl_length, codesC, List.length_nil] at this
   omega
  cases f with
  | zero => rfl
  | succ f => unfold rdC; rw [if_pos hz]; rfl
 | cons s S ih =>
  intro f e a he hn hb hi hr h ha hf
  obtain ⟨i1, i2⟩ := hi s List.mem_cons_self
  simp only [List.length_cons] at hb hf
  obtain ⟨r1, r2⟩ := hr
  obtain ⟨h1, h2, -⟩ := encC_ok he ⟨hn, by omega⟩ i1 i2
  have hl := encC_length he s.1 i2
  have hlen := congrArg List.length h
  simp only [List.length_drop, bitl_length, codesC, List.length_append] at hlen
  cases f with
  | zero => omega
  | succ f =>
   have hg : gotC l m e (a : Int) = ⟨s.1, s.2, ((a + (encC e s.1 s.2).1.length : Nat) : Int), (encC e s.1 s.2).2, 0⟩ := by
    unfold gotC
    rw [if_neg (by omega), Int.toNat_natCast, h]
    simp only [codesC]
    rw [decC_enc he i1 i2 r1]
    rfl
   unfold rdC
   rw [if_neg (by omega), hg]
   simp only [if_true, Int.toNat_natCast, rcS]
   rw [ih f _ (a + (encC e s.1 s.2).1.length) h1 (by omega) (by rw [h2]; omega) (fun x hx => hi x (List.mem_cons_of_mem _ hx)) r2 (by
    rw [← List.drop_drop, h]
    simp only [codesC, List.drop_left]) (by omega) (by omega)]
theorem rdC_only (l : List UInt8) (m : Nat) : ∀ (f : Nat) (e : EC) (a : Nat), OkC e → 0 ≤ e.n → e.n + ((m - a : Nat) : Int) < 1000000 → a ≤ m → m ≤ a + f → (∀ x ∈ rdC l m f e a, x.c = 0) →
  ∃ S, rdC l m f e a = rcS a e S ∧ codesC e S = (bitl l m).drop a ∧ RiseC e S ∧ InC S
 | 0, e, a, he, hn, hb, ha, hf, hg => ⟨[], rfl, by rw [List.drop_eq_nil_of_le (by rw [bitl_length]; omega)]; rfl, trivial, fun s h => by cases h⟩
 | f + 1, e, a, he, hn, hb, ha, hf, hg => by
  unfold rdC at hg ⊢
  by_cases hz : m ≤ a
  ·rw [if_pos hz]
   exact ⟨[], rfl, by rw [List.drop_eq_nil_of_le (by rw [bitl_length]; omega)]; rfl, trivial, fun s h => by cases h⟩
  ·rw [if_neg hz] at hg ⊢
   have hc := hg _ List.mem_cons_self
   rw [if_pos hc] at hg ⊢
   have h0 := hc
   unfold gotC at h0
   rw [if_neg (by omega), Int.toNat_natCast] at h0
   cases hd : decC e ((bitl l m).drop a) with
   | none => rw [hd] at h0; simp [rc0] at h0
   | some p =>
    obtain ⟨t, v, k, e'⟩ := p
    have hgt : gotC l m e (a : Int) = ⟨t, v, ((a + k : Nat) : Int), e', 0⟩ := by
     unfold gotC
     rw [if_neg (by omega), Int.toNat_natCast, hd]
     rfl
    obtain ⟨k1, k2, k3, k4, k5, k6, k7⟩ := decC_only he hd
    rw [List.length_drop, bitl_length] at k1
    obtain ⟨h1, h2, -⟩ := encC_ok he ⟨hn, by omega⟩ k3 k4
    have c1 : (encC e t v).1 = ((bitl l m).drop a).take k := by rw [k2]
    have c2 : (encC e t v).2 = e' := by rw [k2]
    have c3 : (encC e t v).1.length = k := by rw [c1, List.length_take, List.length_drop, bitl_length]; omega
    rw [c2] at h1 h2
    rw [hgt] at hg ⊢
    dsimp only at hg ⊢
    rw [Int.toNat_natCast] at hg ⊢
    obtain ⟨S, s1, s2, s3, s4⟩ := rdC_only l m f e' (a + k) h1 (by omega) (by rw [h2]; omega) (by omega) (by omega) (fun x hx => hg x (List.mem_cons_of_mem _ hx))
    refine ⟨(t, v) :: S, ?_, ?_, ⟨k6, ?_⟩, ?_⟩
    ·simp only [rcS, c2, c3, s1]
    ·simp only [codesC, c1, c2, s2]
     rw [← List.drop_drop, List.take_append_drop]
    ·show RiseC (encC e t v).2 S
     rw [c2]; exact s3
    ·intro s hs
     rcases List.mem_cons.1 hs with rfl | hs
     ·exact ⟨k3, k4⟩
     ·exact s4 s hs
theorem allC_cases {l : List UInt8} {m : Nat} (hs : soundB l (m : Int) = true) (hl : l.length ≤ 100000) :
  (∃ S, allC l (m : Int) = (rcS 0 ec0 S, 0) ∧ codesC ec0 S = bitl l m ∧ RiseC ec0 S ∧ InC S) ∨ allC l (m : Int) = ([], 61) := by
 obtain ⟨m', hm, hm8, -⟩ := sound_nat hs
 obtain rfl : m = m' := by omega
 by_cases hg : ∀ x ∈ rdsC l (m : Int), x.c = 0
 ·have hrd : rdsC l (m : Int) = rdC l m m ec0 0 := by unfold rdsC; rw [if_neg (by rw [hs]; decide), Int.toNat_natCast]
  rw [all_done hg]
  rw [hrd] at hg ⊢
  obtain ⟨S, h1, h2, h3, h4⟩ := rdC_only l m m ec0 0 ok0 (Int.le_refl _) (by show (0 : Int) + _ < _; omega) (Nat.zero_le _) (by omega) hg
  exact .inl ⟨S, by rw [h1], by rw [h2, List.drop_zero], h3, h4⟩
 ·right
  unfold allC
  rw [if_neg (by rw [hs]; decide)]
  first | rfl | rw [if_neg hg]
theorem allC_laid {S : List (Int × Nat)} (hi : InC S) (hr : RiseC ec0 S) (hl : S.length ≤ 1000) : allC (pack (codesC ec0 S)) (codesC ec0 S).length = (rcS 0 ec0 S, 0) := by
 have hs := sound_pack (codesC ec0 S)
 have h2 := rows_ok S ec0 ok0 (Int.le_refl _) (by show (0 : Int) + _ ≤ _; omega) hi
 have hrd : rdsC (pack (codesC ec0 S)) ((codesC ec0 S).length : Int) = rcS 0 ec0 S := by
  unfold rdsC
  rw [if_neg (by rw [hs]; decide), Int.toNat_natCast]
  exact rdC_laid _ _ S _ ec0 0 ok0 (Int.le_refl _) (by show (0 : Int) + _ ≤ _; omega) hi hr (by rw [List.drop_zero, bits_pack]) (Nat.zero_le _) (by omega)
 rw [all_done (by rw [hrd]; exact rcS_good S 0 ec0), hrd]
end Go.Proofs.YtmcdollkmlcpbaaGreatDoor
