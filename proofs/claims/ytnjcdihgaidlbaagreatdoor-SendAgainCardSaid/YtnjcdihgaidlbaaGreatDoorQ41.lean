/- Joined: Chk17. -/
import Derived.Test.YtnjcdihgaidlbaaGreatDoorQ40
import Derived.Test.YtnjcdihgaidlbaaGreatDoorQ37
import Derived.Test.YtnjcdihgaidlbaaGreatDoorQ27
import Derived.Test.YtnjcdihgaidlbaaGreatDoorQ8
import Derived.Deep.RegionHeld3
import Derived.Test.YtnjcdihgaidlbaaGreatDoorQ5
import Derived.Test.YtnjcdihgaidlbaaGreatDoorQ26
import Derived.Test.YtnjcdihgaidlbaaGreatDoorQ2
import Derived.Test.YtnjcdihgaidlbaaGreatDoorQ20
import Derived.RangeFuncNested
import Derived.RangeFuncBound
import Derived.RangeFuncCalls
import Derived.RangeFuncLeaves
import Derived.RangeFuncBox
import Derived.Shelf.Abstract
import Derived.Shelf.RegionOpen
import Derived.WalkKit
import Derived.OwnWalkIn
import Derived.TacticsInMore
import Derived.LoopNIn
import Derived.LoopIn
import Derived.Maps.AppendAt
import Derived.Sort.CutIn
import Derived.RegionIn
set_option linter.unusedSimpArgs false
set_option linter.unusedVariables false
namespace Go.Proofs.YtnjcdihgaidlbaaGreatDoor
open Go.RowKit Go.Shelf
set_option maxRecDepth 100000
def encI (x : Int) : List Value := [.int .i64 x]
theorem Tryz.eltI : Elt Tryz.prog 101 3 encI 1 8 := ⟨Tryz.underlying101, ⟨.int .i64 0, by kernel_rfl, rfl⟩, by decide, fun _ => rfl, fun x v h => by
 simp [encI] at h
 subst h
 rfl⟩
theorem Blk.only {W : World} {g : Nat} {t u : TypeId} {cs cs' : Array Value} (h : Blk W g t cs) (ht : t ≠ u) : ¬ Blk W g u cs' := fun k => by
 have e := Option.some.inj (h.symm.trans k)
 injection e with _ e2 _
 exact ht e2
theorem OwnR.home {W : World} {α : Type} {base sz : Nat} {e : TypeId} {enc : α → List Value} {v : Value} {l : List α} (h : OwnR W base e enc sz v l) {k : Nat} (hk : v.ownBlock = some k) : base ≤ k ∧ ∃ cs, Blk W k e cs := by
 rcases h.2 with ⟨rfl, _⟩ | ⟨g, cap, cur, rfl, hbg, hgg, _⟩
 ·cases hk
 ·cases hk
  exact ⟨hbg, cur, hgg⟩
section
variable {n0 : Nat}
end
theorem appR1In {F : Fence} {n : Nat} {P : Program} {α : Type} {t e : TypeId} {enc : α → List Value} {sz bytes : Nat} (E : Elt P t e enc sz bytes) (w : World) {ops : Array Oper} {rest : List Oper} {o : Oper} {a : Act} {Q : Exit → Act → World → Prop} (hgd : o.guard = none) (s x : Operand)
  (ho : o.op = .call { callee := .builtin .append, args := #[s, x], argTypes := #[t, t] })
  (base : Nat) (v : Value) (L : List α) (hs : a.eval s = v) (hown : OwnR w base e enc sz v L) (g c : Nat) (y : α) (u : TypeId) (cs : Array Value)
  (hx : a.eval x = .slice (some ⟨g, 0, none⟩) 1 c) (hb : Blk w g u cs) (hcs : cs = (enc y).toArray) (hlen : L.length + 1 ≤ maxLen) (hbytes : (L.length + 1) * bytes ≤ 140737488355328) (hbase : base ≤ w.heap.size)
  (h : ∀ g' c' w', OwnR w' base e enc sz (.slice (some ⟨g', 0, none⟩) (L.length + 1) c') (L ++ [y]) → w.grownBy w' v.ownBlock → base ≤ g' → wpListIn F n P ops Q rest (a.put o.dst (.slice (some ⟨g', 0, none⟩) (L.length + 1) c')) w') : wpListIn F n P ops Q (o :: rest) a w := by
 subst hcs
 obtain ⟨z, hinfo, hzs⟩ := E.info
 obtain ⟨i, hi, hz, hsz, hby⟩ := info_parts hinfo
 refine wpListIn_append_own (P := P) w hgd s x t ho base e i z sz bytes E.under hi hz hsz hby hzs E.pos v L.length (L.flatMap enc) hs hown ⟨g, 0, none⟩ 1 c (enc y) hx (by rw [E.len, Nat.one_mul]) ?_ (E.one y) hlen hbytes hbase fun v' w' h2 h3 _ => ?_
 ·intro j u hj
  rw [addS, hb.cell, Nat.zero_add]
  simpa using hj
 ·have h4 : OwnR w' base e enc sz v' (L ++ [y]) := by unfold OwnR; rw [List.length_append, List.flatMap_append]; simpa using h2
  rcases h4.2 with ⟨_, h0⟩ | ⟨g', cap, cur, hv, hg, _⟩
  ·simp at h0
  ·rw [List.length_append] at hv
   subst hv
   exact h g' cap w' h4 h3 hg
end Go.Proofs.YtnjcdihgaidlbaaGreatDoor
