/- Joined: Chk9, Chk10, Chk13. -/
import Derived.Test.YtmcdollkmlcpbaaGreatDoorQ33
import Derived.Deep.RegionHeld3
import Derived.Test.YtmcdollkmlcpbaaGreatDoorQ7
import Derived.Test.YtmcdollkmlcpbaaGreatDoorQ19
import Derived.Test.YtmcdollkmlcpbaaGreatDoorQ2
import Derived.Test.YtmcdollkmlcpbaaGreatDoorQ4
import Derived.Test.YtmcdollkmlcpbaaGreatDoorQ13
import Derived.Outline
import Derived.Test.YtmcdollkmlcpbaaGreatDoorQ25
import Derived.Test.YtmcdollkmlcpbaaGreatDoorQ9
import Derived.Test.YtmcdollkmlcpbaaGreatDoorQ32
import Derived.Test.YtmcdollkmlcpbaaGreatDoorQ24
set_option linter.unusedSimpArgs false
set_option linter.unusedVariables false
namespace Go.Proofs.YtmcdollkmlcpbaaGreatDoor
open Go.RowKit
set_option maxRecDepth 100000
theorem OkC.small {n la de : Int} {h : Bool} {p L X : Nat} (k : OkC ⟨n, la, de, ⟨h, p, L, X⟩⟩) : L < 256 ∧ X < 256 := by
 have := k.val
 unfold soundX at this
 cases h <;> simp at this <;> omega
end Go.Proofs.YtmcdollkmlcpbaaGreatDoor
namespace Go.Proofs.YtmcdollkmlcpbaaGreatDoor
open Go.RowKit
set_option maxRecDepth 100000
theorem codesC_le (l : List (Int × Nat)) (k : Nat) (hl : l.length ≤ 1000) (hi : InC l) : (codesC ec0 (l.take k)).length ≤ 146000 := by
 have h := rows_ok (l.take k) ec0 ok0 (Int.le_refl _) (by rw [List.length_take]; show (0 : Int) + _ ≤ _; omega) (fun s hs => hi s (List.mem_of_mem_take hs))
 have := h.2.2.1
 rw [List.length_take] at this
 omega
end Go.Proofs.YtmcdollkmlcpbaaGreatDoor
namespace Go.Proofs.YtmcdollkmlcpbaaGreatDoor
open Go.RowKit
set_option maxRecDepth 100000
set_option maxHeartbeats 1000000 in
theorem csame_any (V U : Option Addr) (c d : Nat) (a b : List (Int × Nat)) (w : World) (hV : Ss w V a) (hU : Ss w U b) (hal : a.length ≤ 4096) (hbl : b.length ≤ 4096) :
  Calls Tryz.prog 13 #[.slice V a.length c, .slice U b.length d] w fun e w' => e = .returned (.bool (decide (a = b))) ∧ Below w.heap.size w w' := by
 obtain ⟨r, hr⟩ : ∃ r, r = decide (a = b) := ⟨_, rfl⟩
 rw [← hr]
 have HR := Lib.hid hr
 clear hr
 by_cases hlen : a.length = b.length
 ·have HL := Lib.hid hlen
  have HV := Lib.hid hV
  have HU := Lib.hid hU
  rw [← hlen]
  clear hlen hV hU hbl
  go_enter Tryz.func13, Tryz.ntmps13
  go_wp2_with fail
  go_loopw [5] (fun i wr => ∃ k : Nat, k ≤ a.length ∧ i = .int .i64 k ∧ Hid (a.take k = b.take k) ∧ Below w.heap.size w wr)
   (fun i _ => a.length - (intOf i).toNat)
  case atStart => exact ⟨0, Nat.zero_le _, rfl, Lib.hid rfl, Below.refl _ _⟩
  case round =>
   obtain ⟨k, hk, rfl, HE, hbel⟩ := hrel
   rcases Nat.lt_or_ge k a.length with hlt | hge
   ·have hltb : k < b.length := by have := HL.out; omega
    obtain ⟨p, o, rfl, h1, h2⟩ := (HV.out.below hbel) k a[k] (List.getElem?_eq_getElem hlt)
    obtain ⟨p', o', rfl, h3, h4⟩ := (HU.out.below hbel) k b[k] (List.getElem?_eq_getElem hltb)
    obtain ⟨t, v, hs⟩ : ∃ t v, a[k] = (t, v) := ⟨_, _, rfl⟩
    obtain ⟨t', v', hs'⟩ : ∃ t v, b[k] = (t, v) := ⟨_, _, rfl⟩
    rw [hs] at h1 h2
    rw [hs'] at h3 h4
    dsimp only at h1 h2 h3 h4
    have k0 : 0 ≤ (k : Int) := by omega
    have k1 : (k : Int) < a.length := by omega
    by_cases he : t = t' ∧ v = v'
    ·obtain ⟨rfl, rfl⟩ := he
     have hE2 : a.take (k + 1) = b.take (k + 1) := by
      rw [List.take_succ_eq_append_getElem hlt, List.take_succ_eq_append_getElem hltb, HE.out, hs, hs']
     have HE2 := Lib.hid hE2
     clear hE2 hs hs'
     go_wp2_with fail
     go_quiet (fail)
     go_wp2_with fail
     go_roundw
     case measure => simp [intOf]; omega
     case rel => exact ⟨k + 1, hlt, by go_num, HE2, below_drewN hbel nq⟩
    ·have hne : a ≠ b := by
      intro e
      subst e
      rw [hs] at hs'
      simp only [Prod.mk.injEq] at hs'
      exact he hs'
     have Hd := Lib.hid (show r = false by rw [HR.out]; simpa using hne)
     clear hs hs' hne
     by_cases ht : t = t'
     ·subst ht
      have kv : ((v : Int) == (v' : Int)) = false := beq_eq_false_iff_ne.2 (fun e => he ⟨rfl, by omega⟩)
      clear he
      go_wp2_with fail
      go_quiet (fail)
      go_wp2_with fail
      go_ret
      exact ⟨by rw [Hd.out]; rfl, below_drewN hbel nq⟩
     ·have kt : (t == t') = false := beq_eq_false_iff_ne.2 ht
      clear he
      go_wp2_with fail
      go_quiet (fail)
      go_wp2_with fail
      go_ret
      exact ⟨by rw [Hd.out]; rfl, below_drewN hbel nq⟩
   ·obtain rfl : k = a.length := by omega
    have hab : a = b := by
     have h1 := HE.out
     rw [List.take_length, HL.out, List.take_length] at h1
     exact h1
    have Hd := Lib.hid (show r = true by rw [HR.out]; simpa using hab)
    clear hab
    go_wp2_with fail
    go_ret
    exact ⟨by rw [Hd.out]; rfl, hbel⟩
 ·have Hd := Lib.hid (show r = false by rw [HR.out]; simp; exact fun e => hlen (by rw [e]))
  have kl : ((a.length : Int) == (b.length : Int)) = false := beq_eq_false_iff_ne.2 (by omega)
  have kl2 : ((a.length : Int) != (b.length : Int)) = true := by simp; omega
  go_enter Tryz.func13, Tryz.ntmps13
  go_wp2_with fail
  go_ret
  exact ⟨by rw [Hd.out]; rfl, Below.refl _ _⟩
end Go.Proofs.YtmcdollkmlcpbaaGreatDoor
