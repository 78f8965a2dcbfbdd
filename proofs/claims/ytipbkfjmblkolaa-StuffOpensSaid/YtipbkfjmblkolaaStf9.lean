/- StuffOnly. -/
import Derived.Test.YtipbkfjmblkolaaStf8
import Derived.Test.YtipbkfjmblkolaaFrs
namespace Go.Proofs.Ytipbkfjmblkolaa
open Go.RowKit

theorem partE_ge : ∀ (n : Nat) (p : List UInt8), p.length ≤ n → p.length + 1 ≤ (partE p).length := by
  intro n
  induction n with
  | zero =>
    intro p h
    rw [partE_short (by omega)]
    simp
  | succ n ih =>
    intro p h
    rcases Nat.lt_or_ge 253 p.length with h1 | h1
    · rw [partE_long (by omega)]
      have := ih (p.drop 254) (by rw [List.length_drop]; omega)
      rw [List.length_drop] at this
      rw [List.length_cons, List.length_append, List.length_take]
      omega
    · rw [partE_short h1]
      simp
theorem encL_ge : ∀ (n : Nat) (l : List UInt8), l.length ≤ n → l.length + 1 ≤ (encL l).length := by
  intro n
  induction n with
  | zero =>
    intro l h
    have : l = [] := List.eq_nil_of_length_eq_zero (by omega)
    subst this
    rw [encL_noz (by simp [NoZ])]
    exact partE_ge _ _ (Nat.le_refl _)
  | succ n ih =>
    intro l h
    rcases zero_cases l with hz | ⟨a, r, hz, rfl⟩
    · rw [encL_noz hz]; exact partE_ge _ _ (Nat.le_refl _)
    · rw [encL_app hz, List.length_append, List.length_append, List.length_cons]
      rw [List.length_append, List.length_cons] at h
      have h1 := partE_ge _ a (Nat.le_refl _)
      have h2 := ih r (by omega)
      omega

set_option maxRecDepth 100000 in
set_option maxHeartbeats 4000000 in
theorem stuffOnly_walk (A : Option Addr) (c : Nat) (l : List UInt8) (w : World) (hl : Bs w A l) (hc : l.length ≤ c) :
    Calls Try.prog 11 #[.slice A l.length c] w fun e w' => e = .returned (.bool true) ∧ Below w.heap.size w w' := by
  rcases Nat.lt_or_ge 2000 l.length with h0 | h0
  · have d1 : decide ((2000 : Int) < l.length) = true := by simp; omega
    have d2 : decide (2000 < l.length) = true := by simp; omega
    go_enter Try.func11, Try.ntmps11
    go_wp2_with (go_at_call 18; refine (stuffKnown_any _).mono ?_; rintro e w1 ⟨rfl, hb1⟩)
    go_ret
    exact ⟨rfl, hb1⟩
  have d1 : decide ((2000 : Int) < l.length) = false := by simp; omega
  have d2 : decide (2000 < l.length) = false := by simp; omega
  have hn : l.length ≤ 100000 := by omega
  have Hc := Lib.hid hc
  have Hn := Lib.hid hn
  clear h0 hn hc
  have hmx : Try.prog.follows .mixedOrders = true := by kernel_rfl
  go_enter Try.func11, Try.ntmps11
  go_wp2_with fail
  refine (stuffKnown_any _).mono ?_
  rintro e w1 ⟨rfl, hb1⟩
  have a1 := hl.below hb1
  go_wp2_with fail
  refine (open_any A c l _ a1 Hc.out Hn.out).mono ?_
  rintro e w2 ⟨HP, b2⟩
  have t2 := on hb1 b2
  have a2 := a1.below b2
  rcases HP with ⟨_, rfl⟩ | ⟨o, r, A2, n2, c2, hl2, rfl, rfl, o2⟩
  · go_wp2_with fail
    go_ret
    exact ⟨rfl, t2⟩
  · obtain ⟨N, hN⟩ : ∃ N, N = (encL o).length + 1 := ⟨_, rfl⟩
    have hlen : l.length = N + r.length := by rw [hl2, hN]; simp; omega
    have hol : o.length ≤ 100000 := by
      have := encL_ge _ o (Nat.le_refl _)
      have := Hn.out
      omega
    have htk : l.take N = wrapL o := by
      rw [hl2, hN]
      unfold wrapL
      rw [show encL o ++ 0 :: r = (encL o ++ [0]) ++ r by simp, List.take_left' (by simp)]
    have htl : (l.take N).length = N := by rw [List.length_take]; omega
    have s0 : ∀ x, (convert 22 9 (.slice A N c)).run Try.prog (plus w2 x) = .ok (.string ⟨(wrapL o).toArray⟩) (plus w2 x) := fun x => by
      have := str_of ((a2.take N).below (plus_below w2 x)) c
      rwa [htl, htk] at this
    have h1 : 1 ≤ N := by omega
    have h2 : N ≤ l.length := by omega
    have h3 : N ≤ c := by have := Hc.out; omega
    have j1 : decide ((1 : Int) ≤ (N : Int)) = true := decide_eq_true (by omega)
    have j2 : decide (1 ≤ N) = true := decide_eq_true h1
    have j3 : decide ((N : Int) ≤ l.length) = true := decide_eq_true (by omega)
    have j4 : decide (N ≤ l.length) = true := decide_eq_true h2
    have j5 : (N : Int) ≤ c := by omega
    rw [← hN]
    have Hol := Lib.hid hol
    have Hc2 : Hid (o.length ≤ c2) := by
      obtain ⟨X, k, e, h1, _⟩ := o2.isB
      injection e with e1 e2 e3
      rw [e3]; exact Lib.hid h1
    clear hN hlen hol htk htl hl2
    go_wp2_with fail
    refine wp_region_fresh (List.replicate 11 none ++ [some 10]) [10] (fun _ v z => ∃ A4 n4 c4, v = .slice A4 n4 c4 ∧ n4 = (wrapL o).length ∧ OwnB z w2.heap.size v (wrapL o)) hmx (by kernel_rfl) (by kernel_rfl) ?_
    iterate 10 (refine walkF_one none w2 rfl (by kernel_rfl) ?_; go_big_quiet_step (fail); refine wpQuiet_nil ?_)
    refine walkF_make none w2 rfl rfl rfl (by kernel_rfl) (fun x => ?_) ?_
    · refine grow_call ?_ ((wrap_any A2 c2 o (plus w2 x) (o2.bs.below (plus_below w2 x)) Hc2.out Hol.out).mono ?_)
      · simp [execOp, go_sem]
      · rintro e w4 ⟨A4, n4, c4, rfl, rfl, o4, b4⟩
        exact ⟨_, rfl, b4, _, _, _, rfl, rfl, o4.mono (plus_below w2 x).size⟩
    rintro v z ⟨A4, n4, c4, rfl, rfl, o4⟩ gz
    conv => arg 11; simp [Act.put]
    have s4 := fun x => str_of (o4.bs.below (plus_below z x)) c4
    refine walkF_one (some 10) z rfl (by kernel_rfl) ?_
    go_big_quiet_step (fail)
    refine wpQuiet_nil ?_
    iterate 7 (refine walkF_one none w2 rfl (by kernel_rfl) ?_; go_big_quiet_step (fail); refine wpQuiet_nil ?_)
    refine walkF_end ?_
    intro w' h0 hE
    clear hE s4 s0
    go_wp2_with fail
    go_ret
    exact ⟨rfl, on t2 h0⟩

end Go.Proofs.Ytipbkfjmblkolaa
