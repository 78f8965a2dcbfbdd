/- Joined: Bk34. -/
import Derived.Test.YtiipmjdmmoaodaaDoorQ17
import Derived.Test.YtiipmjdmmoaodaaDoorQ30
import Derived.Test.YtiipmjdmmoaodaaDoorQ35
import Derived.RangeFuncKeeps
import Derived.RangeFuncGives
import Derived.RangeFuncLeaves
import Derived.Sort.MapsRangeIn
import Derived.Maps.Range
import Derived.WalkKit
import Derived.OwnWalkIn
import Derived.TacticsInMore
import Derived.RegionIn
import Derived.LoopNIn
import Derived.LoopIn
set_option linter.unusedSimpArgs false
set_option linter.unusedVariables false
/- maps.Keys of a map keyed by numbers of 32 bits: its iterator. -/
set_option linter.unusedSimpArgs false
set_option linter.unusedVariables false
namespace Go.Proofs.YtiipmjdmmoaodaaDoor
open Go.RowKit Go.Maps Go.MapKept
set_option maxRecDepth 100000

section
variable {α : Type} {vE : α → Value} {w w' : World} {b r : Nat} {M : List (Nat × α)} {lf : Nat → Bool}
/-- the entries still to come, as the world counts them -/
theorem Ru.left (h : Ru vE w b r M lf) : w.rangeLeft b r = (M.filter fun p => lf p.1).length := by
  obtain ⟨es, clock, since, seen, c0, hb, hS, hM, hk, hr, hold, hsc, hsk, hlf⟩ := h
  simp only [World.rangeLeft, hb, hr]
  have hq : ∀ e ∈ es.toList, ∃ p ∈ M, e.key = kuV p.1 := fun e he => by
    obtain ⟨j, hj⟩ := List.getElem?_of_mem he
    obtain ⟨p, hp, h1, -⟩ := kv_at hM hj
    exact ⟨p, List.mem_of_getElem? hp, h1⟩
  obtain ⟨kn, hkn⟩ : ∃ kn : Value × Value → Nat, ∀ x : Nat, ∀ v, kn (kuV x, v) = x := ⟨fun p => match p.1 with
    | .int _ i => i.toNat
    | _ => 0, fun x v => rfl⟩
  have h1 : (leftOf es seen).size = es.toList.countP fun e => !seen.contains e.born := by
    unfold leftOf
    rw [List.countP_eq_length_filter, ← Array.length_toList, Array.toList_filter]
  have h2 : (es.toList.countP fun e => !seen.contains e.born) = (es.toList.map kv).countP fun q => lf (kn q) := by
    rw [List.countP_map]
    refine List.countP_congr fun e he => ?_
    obtain ⟨p, hp, e1⟩ := hq e he
    have e2 := hlf e he p.1 e1
    show _ ↔ lf (kn (e.key, e.val)) = true
    rw [e1, hkn, e2]
  rw [h1, h2, hM, List.countP_map, List.countP_eq_length_filter]
  refine congrArg List.length (List.filter_congr fun p _ => ?_)
  show lf (kn (kuV p.1, _)) = _
  rw [hkn]
/-- a range goes on over steps that leave maps and iterators alone -/
theorem Ru.walks (h : Ru vE w b r M lf) (k : KeepsWalks w w') : Ru vE w' b r M lf := by
  obtain ⟨es, clock, since, seen, c0, hb, hS, hM, hk, hr, rest⟩ := h
  exact ⟨es, clock, since, seen, c0, k.same b _ hb rfl, hS, hM, hk, k.same r _ hr rfl, rest⟩
variable {F : Fence} {n : Nat} {ops : Array Oper} {rest : List Oper} {o : Oper} {a : Act} {Q : Exit → Act → World → Prop} {mt et : TypeId}
end

end Go.Proofs.YtiipmjdmmoaodaaDoor
