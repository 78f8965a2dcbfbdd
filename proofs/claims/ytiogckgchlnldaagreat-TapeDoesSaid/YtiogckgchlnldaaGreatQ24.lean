/- Joined: Tp1. -/
import Derived.Test.YtiogckgchlnldaaGreatQ19
import Derived.Test.YtiogckgchlnldaaGreatQ23
set_option linter.unusedSimpArgs false
set_option linter.unusedVariables false
/- Layer 10: SameNotes. -/
set_option linter.unusedSimpArgs false
set_option linter.unusedVariables false
namespace Go.Proofs.YtiogckgchlnldaaGreat
open Go.RowKit
set_option maxRecDepth 100000

/-- a slice of lists of bytes, to read -/
structure Ns (w : World) (A : Option Addr) (L : List Bx) : Prop where
  row : Rw w encBx 1 A L
  by_ : ∀ x ∈ L, Bs w x.A x.b
theorem Ns.below {w w' : World} {A : Option Addr} {L : List Bx} (h : Ns w A L) (b : Below w.heap.size w w') : Ns w' A L := ⟨h.row.below b (Nat.le_refl _), fun x hx => (h.by_ x hx).below b⟩

set_option maxHeartbeats 4000000 in
theorem rsameN_any (A A' : Option Addr) (c c' : Nat) (L L' : List Bx) (w : World) (h : Ns w A L) (h' : Ns w A' L') (hL : L.length ≤ 1000000) (hL' : L'.length ≤ 1000000) :
    Calls Tryz.prog 28 #[.slice A L.length c, .slice A' L'.length c'] w fun e w' => e = .returned (.bool (decide (L.map Bx.b = L'.map Bx.b))) ∧ Below w.heap.size w w' := by
  obtain ⟨n, hn⟩ : ∃ n, n = L.length := ⟨_, rfl⟩
  obtain ⟨n', hn'⟩ : ∃ n', n' = L'.length := ⟨_, rfl⟩
  rw [← hn, ← hn']
  by_cases hnn : n = n'
  · subst hnn
    have k0 : ((n : Int) == (n : Int)) = true := beq_iff_eq.2 rfl
    have hn6 : n ≤ 1000000 := by omega
    obtain ⟨r, hr⟩ : ∃ r, r = decide (L.map Bx.b = L'.map Bx.b) := ⟨_, rfl⟩
    rw [← hr]
    have HH := Lib.hid (And.intro h (And.intro h' (And.intro hn (And.intro hn' hr))))
    clear h h' hn hn' hr
    go_enter Tryz.func28, Tryz.ntmps28
    go_wp2_with fail
    go_loopw [5] (fun s wr => ∃ k : Nat, k ≤ n ∧ s = .int .i64 k ∧ Hid (Below w.heap.size w wr ∧ (L.take k).map Bx.b = (L'.take k).map Bx.b)) (fun s _ => n - (intOf s).toNat)
    case atStart => exact ⟨0, Nat.zero_le _, rfl, Lib.hid ⟨Below.refl _ _, rfl⟩⟩
    case round =>
      obtain ⟨k, hk, rfl, HR⟩ := hrel
      obtain ⟨hw, hm⟩ := HR.out
      have hGx := HH.out.1.below hw
      have hGy := HH.out.2.1.below hw
      have HW := Lib.hid hw
      clear hw
      by_cases hlt : k < n
      · obtain ⟨x, hx⟩ : ∃ x, L[k]? = some x := ⟨_, List.getElem?_eq_getElem (by rw [← HH.out.2.2.1]; exact hlt)⟩
        obtain ⟨y, hy⟩ : ∃ y, L'[k]? = some y := ⟨_, List.getElem?_eq_getElem (by rw [← HH.out.2.2.2.1]; exact hlt)⟩
        obtain ⟨p, f, rfl, hc⟩ := hGx.row k x hx
        obtain ⟨p', f', rfl, hc'⟩ := hGy.row k y hy
        have c0 := hc 0 _ rfl
        have d0 := hc' 0 _ rfl
        simp only [Nat.add_zero, Nat.mul_one] at c0 d0
        have s1 := fun nq => str_of ((hGx.by_ x (List.mem_of_getElem? hx)).below (below_drewN (Below.refl _ wr) nq)) x.c
        have s2 := fun nq => str_of ((hGy.by_ y (List.mem_of_getElem? hy)).below (below_drewN (Below.refl _ wr) nq)) y.c
        have hkl : (k : Int) < (n : Int) := by omega
        have hk0 : (0 : Int) ≤ (k : Int) := by omega
        have hgx : (L.map Bx.b)[k]? = some x.b := by rw [List.getElem?_map, hx]; rfl
        have hgy : (L'.map Bx.b)[k]? = some y.b := by rw [List.getElem?_map, hy]; rfl
        have HG := Lib.hid (And.intro hgx hgy)
        have HM : Hid (x.b = y.b → (L.take (k + 1)).map Bx.b = (L'.take (k + 1)).map Bx.b) := Lib.hid (fun e => by
          rw [List.take_add_one, List.take_add_one, hx, hy, List.map_append, List.map_append, hm]
          show _ ++ [x.b] = _ ++ [y.b]
          rw [e])
        clear hc hc' hx hy hgx hgy hm HR hGx hGy
        by_cases hb : x.b = y.b
        · have e2 : (x.b == y.b) = true := beq_iff_eq.2 hb
          have e2' : (x.b != y.b) = false := by unfold bne; rw [e2]; rfl
          have HE := Lib.hid (HM.out hb)
          clear hb
          go_wp2_with fail
          go_quiet (fail)
          go_wp2_with fail
          go_roundw
          case measure => simp [intOf]; omega
          case rel => exact ⟨k + 1, by omega, by go_num, Lib.hid ⟨below_drewN HW.out nq, HE.out⟩⟩
        · have e2 : (x.b == y.b) = false := beq_eq_false_iff_ne.2 hb
          have e2' : (x.b != y.b) = true := by unfold bne; rw [e2]; rfl
          have HE : Hid (r = false) := Lib.hid (by
            rw [HH.out.2.2.2.2]
            refine decide_eq_false (fun e => hb ?_)
            have h9 := HG.out.1
            rw [e, HG.out.2] at h9
            injection h9 with h9
            exact h9.symm)
          clear hb
          go_wp2_with fail
          go_quiet (fail)
          go_wp2_with fail
          go_ret
          exact ⟨by simp [HE.out], below_drewN HW.out nq⟩
      · obtain rfl : k = n := by omega
        have hkk : ¬ ((k : Int) < (k : Int)) := by omega
        have HE : Hid (r = true) := Lib.hid (by
          rw [HH.out.2.2.2.2]
          refine decide_eq_true ?_
          rw [List.take_of_length_le (by rw [← HH.out.2.2.1]; omega), List.take_of_length_le (by rw [← HH.out.2.2.2.1]; omega)] at hm
          exact hm)
        clear hm HR hGx hGy
        go_wp2_with fail
        go_ret
        exact ⟨by simp [HE.out], HW.out⟩
  · have k0 : ((n : Int) == (n' : Int)) = false := beq_eq_false_iff_ne.2 (by omega)
    have k0' : ((n : Int) != (n' : Int)) = true := by unfold bne; rw [k0]; rfl
    have HE : decide (L.map Bx.b = L'.map Bx.b) = false := decide_eq_false (fun e => hnn (by
      have := congrArg List.length e
      rw [List.length_map, List.length_map] at this
      omega))
    rw [HE]
    clear h h' hn hn' HE hnn hL hL'
    go_enter Tryz.func28, Tryz.ntmps28
    go_wp2_with fail
    go_ret
    exact ⟨rfl, Below.refl _ _⟩

end Go.Proofs.YtiogckgchlnldaaGreat
