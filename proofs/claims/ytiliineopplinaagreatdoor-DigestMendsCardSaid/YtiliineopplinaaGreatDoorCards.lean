/-
  DERIVED. GIVEN WITH THE SEED: THE CARDS: each row of YtiliineopplinaaGreatDoorRows.lean that lists a variable, with what it lists TIED to the program's text (the seventh form; the later family's looks); each row that meets fmt, with fmt's text TOLD by the authors' own Lean function (tested against real Go, not proved from fmt's source: count such statements apart). THE CARD IS WHAT COUNTS. Prove the row's statement (the work); the ties are given (YtiliineopplinaaGreatDoorTie.lean); close each card by the builder's one call (the guide's Derived/Test/ToyasCard.lean, 'card_holds'). Laid BY PROGRAM, IN A SANDBOX (cutbox-door.mjs). By AI agents, Wed Nov 11 2026. No macro, syntax, notation, axiom, sorry.
-/
import Derived.Test.YtiliineopplinaaGreatDoorRows
import GoSem.ClaimSeven
namespace Go.Proofs.YtiliineopplinaaGreatDoor
namespace Rows

/-- THE TIED CARD OF 'draymanlaw26.DigestMends'. -/
def digestMendsCard : Claim7 := { stood := { row := digestMendsRow, standIns := [], harness := (true, "e7a8944150006eef010e377cb309ec8ece990394b0740be36f28892fb63cac8d"), looks := false }, kinds := [], alts := [], laidByText := true, laidKinds := [.data], laidTests := true, laidLooks := .later }
def DigestMendsCardSaid : Prop := Claim7.holds Tryz.pinned (.plain (OpenSpec.ofChange digestMendsSpec)) digestMendsCard

/-- THE SECOND FORM's CARD OF 'draymanlaw26.DigestMends'. -/
def digestMendsUptoCard : Claim7 := { stood := { row := digestMendsUptoRow, standIns := [], harness := (true, "e7a8944150006eef010e377cb309ec8ece990394b0740be36f28892fb63cac8d"), looks := false }, kinds := [], alts := [], laidByText := true, laidKinds := [.data], laidTests := true, laidLooks := .later }
def DigestMendsUptoCardSaid : Prop := Claim7.holds Tryz.pinned (.plain (OpenSpec.upto digestMendsSpec)) digestMendsUptoCard
end Rows
end Go.Proofs.YtiliineopplinaaGreatDoor
