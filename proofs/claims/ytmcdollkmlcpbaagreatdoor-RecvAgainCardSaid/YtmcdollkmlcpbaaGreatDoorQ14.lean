/- Joined: Frame0, Frame. -/
import Derived.Test.YtmcdollkmlcpbaaGreatDoorQ7
import Derived.ProofKit
import Derived.OpenShut
import Derived.Lib.SmallJoins
import Derived.Carry
set_option linter.unusedSimpArgs false
set_option linter.unusedVariables false
set_option linter.unusedSimpArgs false
set_option linter.unusedVariables false
namespace Go.Proofs.YtmcdollkmlcpbaaGreatDoor
open Go.ChangeShapes Go.WideShapes Go.ChangeAt Go.RowKit Go.Joins
set_option maxRecDepth 100000
theorem Tryz.own : ownKnob Tryz.prog.godebug = none := by kernel_rfl
theorem Tryz.laidOut : laidOutB Tryz.prog = true := by kernel_rfl
end Go.Proofs.YtmcdollkmlcpbaaGreatDoor
namespace Go.Proofs.YtmcdollkmlcpbaaGreatDoor
open Go.ChangeShapes Go.WideShapes Go.ChangeAt Go.RowKit Go.Joins
set_option maxRecDepth 100000
theorem wf_u8s {zs : List Int} (h : ∀ n ∈ zs, (Lit.int .u8 n).wf = true) : ∃ l : List UInt8, zs = l.map fun b => (b.toNat : Int) := by
 refine ⟨zs.map fun n => UInt8.ofNat n.toNat, ?_⟩
 rw [List.map_map]
 apply List.ext_getElem (by simp)
 intro i h1 h2
 simp only [List.getElem_map, Function.comp]
 have := bounds_u8 (h zs[i] (List.getElem_mem h1))
 rw [UInt8.toNat_ofNat_of_lt' (show zs[i].toNat < 256 by omega)]
 omega
section
variable {H : Type} {enc : TypeId × Value → H} {W : World}
theorem open_bytes {fuel : Nat} {v : Value} {x : DataW H × List MemPlace} {sp : Nat → Bool} {held : Bool} {b0 : Nat} (h : DataW.trod enc Tryz.prog W b0 sp held fuel 31 [v] = some x) :
  ∃ (A : Option Addr) (c : Nat) (l : List UInt8), v = .slice A l.length c ∧ l.length ≤ maxLen ∧ Bs W A l := by
 rcases open_ints Tryz.underlying31 Tryz.underlying5 (by kernel_rfl) h with ⟨hcs, _⟩ | ⟨a, len, cap, zs, hcs, _, hl, hm, hz, _, hcell, hwz⟩
 ·simp at hcs
  exact ⟨none, 0, [], hcs, Nat.zero_le _, Bs.nil _ _⟩
 ·simp at hcs
  obtain ⟨l, rfl⟩ := wf_u8s hwz
  have hlen : len ≤ l.length := by
   rw [List.length_map] at hz
   rw [hz]; split <;> omega
  refine ⟨some a, cap, l.take len, ?_, ?_, fun i b hi => ?_⟩
  ·rw [List.length_take, Nat.min_eq_left hlen]; exact hcs
  ·rw [List.length_take]; omega
  ·rw [List.getElem?_take] at hi
   split at hi
   ·rename_i hil
    have hil' : i < l.length := by omega
    have hc := hcell i (by rw [List.length_map]; exact hil')
    have e : (l.map fun b => (b.toNat : Int)).getD i 0 = (b.toNat : Int) := by
     rw [List.getD_eq_getElem?_getD, List.getElem?_map, hi]; rfl
    rw [e] at hc
    obtain ⟨p, o, spot⟩ := a
    have hc0 := hcell 0 (by rw [List.length_map]; omega)
    have hs : spot = none := by simpa [Addr.add] using World.cell?_spot hc0
    subst hs
    refine ⟨p, o, rfl, ?_⟩
    rw [← hc]
    congr 1
    unfold Addr.add
    split
    ·rename_i h0; subst h0; rfl
    ·rfl
   ·cases hi
end
end Go.Proofs.YtmcdollkmlcpbaaGreatDoor
