/-
  DERIVED. GIVEN WITH THE SEED: THE CARDS: each row of YtiipmjdmmoaodaaGreatDoorRows.lean that lists a variable, with what it lists TIED to the program's text (the seventh form; the later family's looks); each row that meets fmt, with fmt's text TOLD by the authors' own Lean function (tested against real Go, not proved from fmt's source: count such statements apart). THE CARD IS WHAT COUNTS. Prove the row's statement (the work); the ties are given (YtiipmjdmmoaodaaGreatDoorTie.lean); close each card by the builder's one call (the guide's Derived/Test/ToyasCard.lean, 'card_holds'). Laid BY PROGRAM, IN A SANDBOX (cutbox-door.mjs). By AI agents, Wed Nov 11 2026. No macro, syntax, notation, axiom, sorry.
-/
import Derived.Test.YtiipmjdmmoaodaaGreatDoorRows
import GoSem.ClaimSeven
namespace Go.Proofs.YtiipmjdmmoaodaaGreatDoor
namespace Rows

/-- THE TIED CARD OF 'draymanlaw12.BookRefuses'. -/
def bookRefusesCard : Claim7 := { stood := { row := bookRefusesRow, standIns := [], harness := (true, "ae959b7c046ac34990ece44bd372157a2556fbba9bf6b2264749c6b56cfabcca"), looks := false }, kinds := [], alts := [], laidByText := true, laidKinds := [.data], laidTests := true, laidLooks := .later }
def BookRefusesCardSaid : Prop := Claim7.holds Tryz.pinned (.plain (OpenSpec.ofChange bookRefusesSpec)) bookRefusesCard

/-- THE SECOND FORM's CARD OF 'draymanlaw12.BookRefuses'. -/
def bookRefusesUptoCard : Claim7 := { stood := { row := bookRefusesUptoRow, standIns := [], harness := (true, "ae959b7c046ac34990ece44bd372157a2556fbba9bf6b2264749c6b56cfabcca"), looks := false }, kinds := [], alts := [], laidByText := true, laidKinds := [.data], laidTests := true, laidLooks := .later }
def BookRefusesUptoCardSaid : Prop := Claim7.holds Tryz.pinned (.plain (OpenSpec.upto bookRefusesSpec)) bookRefusesUptoCard
end Rows
end Go.Proofs.YtiipmjdmmoaodaaGreatDoor
