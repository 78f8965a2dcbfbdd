/- Joined: Dg1. -/
import Derived.Test.YtnjcdihgaidlbaaGreatDoorQ49
import Derived.Test.YtnjcdihgaidlbaaGreatDoorQ45
import Derived.Test.YtnjcdihgaidlbaaGreatDoorQ46
import Derived.Test.YtnjcdihgaidlbaaGreatDoorQ51
import Derived.Test.YtnjcdihgaidlbaaGreatDoorQ1
set_option linter.unusedSimpArgs false
set_option linter.unusedVariables false
set_option linter.unusedSimpArgs false
set_option linter.unusedVariables false
namespace Go.Proofs.YtnjcdihgaidlbaaGreatDoor
open Go.RowKit
set_option maxRecDepth 100000
theorem rise_uniq : ∀ {xs ys : List Nat}, xs.Perm ys → xs.Pairwise (· ≤ ·) → ys.Pairwise (· ≤ ·) → xs = ys
 | [], ys, hp, _, _ => hp.nil_eq
 | x :: xs, [], hp, _, _ => absurd hp.eq_nil (by simp)
 | x :: xs, y :: ys, hp, hx, hy => by
  have e : x = y := by
   have h1 : x ∈ y :: ys := hp.subset List.mem_cons_self
   have h2 : y ∈ x :: xs := hp.symm.subset List.mem_cons_self
   have a1 : ∀ z ∈ xs, x ≤ z := fun z hz => List.rel_of_pairwise_cons hx hz
   have a2 : ∀ z ∈ ys, y ≤ z := fun z hz => List.rel_of_pairwise_cons hy hz
   rcases List.mem_cons.1 h1 with h1 | h1
   ·exact h1
   ·rcases List.mem_cons.1 h2 with h2 | h2
    ·exact h2.symm
    ·exact Nat.le_antisymm (a1 _ h2) (a2 _ h1)
  subst e
  rw [rise_uniq (List.Perm.cons_inv hp) hx.tail hy.tail]
def ksD (D : BD) : List Nat := (D.M.map Prod.fst).mergeSort (fun a b => decide (a ≤ b))
theorem ksD_perm (D : BD) : (ksD D).Perm (D.M.map Prod.fst) := List.mergeSort_perm _ _
theorem ksD_rise (D : BD) : (ksD D).Pairwise (· ≤ ·) := by
 have h := List.pairwise_mergeSort (le := fun a b : Nat => decide (a ≤ b)) (fun a b c h1 h2 => by simp only [decide_eq_true_eq] at *; omega) (fun a b => by simp only [Bool.or_eq_true, decide_eq_true_eq]; omega) (D.M.map Prod.fst)
 exact h.imp fun h => of_decide_eq_true h
theorem ksD_of {D : BD} {xs : List Nat} (hp : xs.Perm (D.M.map Prod.fst)) (hr : xs.Pairwise (· ≤ ·)) : xs = ksD D := rise_uniq (hp.trans (ksD_perm D).symm) hr (ksD_rise D)
theorem ksD_len (D : BD) : (ksD D).length = D.M.length := by rw [(ksD_perm D).length_eq, List.length_map]
end Go.Proofs.YtnjcdihgaidlbaaGreatDoor
