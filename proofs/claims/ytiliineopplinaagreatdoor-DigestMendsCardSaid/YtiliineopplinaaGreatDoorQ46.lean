/- Joined: Bk33. -/
import Derived.Test.YtiliineopplinaaGreatDoorQ43
import Derived.Test.YtiliineopplinaaGreatDoorQ44
set_option linter.unusedSimpArgs false
set_option linter.unusedVariables false
set_option linter.unusedSimpArgs false
set_option linter.unusedVariables false
namespace Go.Proofs.YtiliineopplinaaGreatDoor
open Go.RowKit
set_option maxRecDepth 100000
structure FrE where
 f : FrD
 A : Option Addr
 c : Nat
def encFrE (x : FrE) : List Value := (frC x.f x.A x.c).toList
theorem Tryz.eltFrE : Elt Tryz.prog 28 43 encFrE 11 72 := ⟨Tryz.underlying28, ⟨.agg zFc, by kernel_rfl, rfl⟩, by decide, fun _ => rfl, fun x v h => by
 unfold encFrE frC at h
 simp only [List.mem_cons, List.not_mem_nil, or_false] at h
 rcases h with rfl | rfl | rfl | rfl | rfl | rfl | rfl | rfl | rfl | rfl | rfl <;> rfl⟩
theorem cutGo_all (L : List Sm) (a : Nat) (most : Int) (hb : (((bitsL L).length : Nat) : Int) ≤ most) : ∀ f c, c ≤ L.length → L.length ≤ c + f → cutGo L a most f c = L.length
 | 0, c, h1, h2 => by unfold cutGo; omega
 | f + 1, c, h1, h2 => by
  unfold cutGo
  by_cases h : c < L.length
  ·have := endN_le L (c + 1)
   rw [if_pos ⟨h, by omega⟩]
   exact cutGo_all L a most hb f (c + 1) (by omega) (by omega)
  ·rw [if_neg (fun e => h e.1)]; omega
theorem cutTo_all {L : List Sm} (hne : L ≠ []) {most : Int} (hb : (((bitsL L).length : Nat) : Int) ≤ most) : cutTo L 0 most = L.length := by
 have := List.length_pos_iff.2 hne
 exact cutGo_all L 0 most hb _ _ (by omega) (by omega)
structure ChF (C : CsT) (k : Nat) (f : FrD) : Prop where
 fc : f.fc = k
 cl : f.cl = decide (k + 1 < C.length)
 cn : ∃ L, C[k]? = some L ∧ f.cn = L.length ∧ L ≠ []
theorem chunk_cut {x : Nat} {C : CsT} (oc : OkC1 C) {k : Nat} {L : List Sm} (hL : C[k]? = some L) (hne : L ≠ []) : (cutF x C k 0 0 9223372036854775807).2.2 = 0 ∧ ChF C k (cutF x C k 0 0 9223372036854775807).1 := by
 have hm := List.mem_of_getElem? hL
 have hb := bits_small (oc.lenL hm) (oc.incL hm)
 have hp := List.length_pos_iff.2 hne
 have hh : hasC C k 0 0 = true := by
  unfold hasC
  rw [hL]
  have : endN L 0 = 0 := rfl
  simp only [this, decide_true, Bool.and_true, decide_eq_true_eq]
  split <;> omega
 have he : (k, 0, 0) ≠ endC C := fun e => by
  unfold endC at e
  injection e with e1 e2
  injection e2 with e3 e4
  rw [e1] at hL
  have h1 : C[C.length - 1]? = some (lastL C) := by
   unfold lastL
   rw [← List.getLast?_eq_getElem?]
   cases hg : C.getLast? with
   | none => exact absurd (List.getLast?_eq_none_iff.1 hg) oc.ne
   | some y => rfl
  rw [hL] at h1
  injection h1 with h1
  rw [← h1] at e4
  omega
 have hc := cutTo_all hne (most := 9223372036854775807) (by omega)
 unfold cutF
 rw [if_neg (by rw [hh]; decide), if_neg he, hL]
 refine ⟨rfl, rfl, ?_, L, hL, hc, hne⟩
 show clB C k (cutTo L 0 9223372036854775807) = _
 rw [hc]
 unfold clB
 rw [hL]
 simp
def chN (C : CsT) : Nat := if lastL C = [] then C.length - 1 else C.length
theorem last_at {C : CsT} {k : Nat} {L : List Sm} (h : C[k]? = some L) (hk : k + 1 = C.length) : lastL C = L := by
 have h1 : C.getLast? = some L := by rw [List.getLast?_eq_getElem?, show C.length - 1 = k by omega]; exact h
 unfold lastL
 rw [h1]
 rfl
end Go.Proofs.YtiliineopplinaaGreatDoor
