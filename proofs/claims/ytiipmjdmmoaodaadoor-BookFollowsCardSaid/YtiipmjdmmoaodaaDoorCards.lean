/-
  DERIVED. GIVEN WITH THE SEED: THE CARDS: each row of YtiipmjdmmoaodaaDoorRows.lean that lists a variable, with what it lists TIED to the program's text (the seventh form; the later family's looks); each row that meets fmt, with fmt's text TOLD by the authors' own Lean function (tested against real Go, not proved from fmt's source: count such statements apart). THE CARD IS WHAT COUNTS. Prove the row's statement (the work); the ties are given (YtiipmjdmmoaodaaDoorTie.lean); close each card by the builder's one call (the guide's Derived/Test/ToyasCard.lean, 'card_holds'). Laid BY PROGRAM, IN A SANDBOX (cutbox-door.mjs). By AI agents, Wed Nov 11 2026. No macro, syntax, notation, axiom, sorry.
-/
import Derived.Test.YtiipmjdmmoaodaaDoorRows
import GoSem.ClaimSeven
namespace Go.Proofs.YtiipmjdmmoaodaaDoor
namespace Rows

/-- THE TIED CARD OF 'draymanlaw12.BookSums'. -/
def bookSumsCard : Claim7 := { stood := { row := bookSumsRow, standIns := [], harness := (true, "15f6d1efdccfa641962256d0b5171910e8b86606ab5f5709d99fe74ccc802110"), looks := false }, kinds := [], alts := [], laidByText := true, laidKinds := [.data], laidTests := true, laidLooks := .later }
def BookSumsCardSaid : Prop := Claim7.holds Tryd.pinned (.plain (OpenSpec.ofChange bookSumsSpec)) bookSumsCard

/-- THE TIED CARD OF 'draymanlaw12.BookKeeps'. -/
def bookKeepsCard : Claim7 := { stood := { row := bookKeepsRow, standIns := [], harness := (true, "15f6d1efdccfa641962256d0b5171910e8b86606ab5f5709d99fe74ccc802110"), looks := false }, kinds := [], alts := [], laidByText := true, laidKinds := [.data], laidTests := true, laidLooks := .later }
def BookKeepsCardSaid : Prop := Claim7.holds Tryd.pinned (.plain (OpenSpec.ofChange bookKeepsSpec)) bookKeepsCard

/-- THE TIED CARD OF 'draymanlaw12.BookFollows'. -/
def bookFollowsCard : Claim7 := { stood := { row := bookFollowsRow, standIns := [], harness := (true, "15f6d1efdccfa641962256d0b5171910e8b86606ab5f5709d99fe74ccc802110"), looks := false }, kinds := [], alts := [], laidByText := true, laidKinds := [.data], laidTests := true, laidLooks := .later }
def BookFollowsCardSaid : Prop := Claim7.holds Tryd.pinned (.plain (OpenSpec.ofChange bookFollowsSpec)) bookFollowsCard

/-- THE TIED CARD OF 'draymanlaw12.BookCuts'. -/
def bookCutsCard : Claim7 := { stood := { row := bookCutsRow, standIns := [], harness := (true, "15f6d1efdccfa641962256d0b5171910e8b86606ab5f5709d99fe74ccc802110"), looks := false }, kinds := [], alts := [], laidByText := true, laidKinds := [.data], laidTests := true, laidLooks := .later }
def BookCutsCardSaid : Prop := Claim7.holds Tryd.pinned (.plain (OpenSpec.ofChange bookCutsSpec)) bookCutsCard

/-- THE SECOND FORM's CARD OF 'draymanlaw12.BookSums'. -/
def bookSumsUptoCard : Claim7 := { stood := { row := bookSumsUptoRow, standIns := [], harness := (true, "15f6d1efdccfa641962256d0b5171910e8b86606ab5f5709d99fe74ccc802110"), looks := false }, kinds := [], alts := [], laidByText := true, laidKinds := [.data], laidTests := true, laidLooks := .later }
def BookSumsUptoCardSaid : Prop := Claim7.holds Tryd.pinned (.plain (OpenSpec.upto bookSumsSpec)) bookSumsUptoCard

/-- THE SECOND FORM's CARD OF 'draymanlaw12.BookKeeps'. -/
def bookKeepsUptoCard : Claim7 := { stood := { row := bookKeepsUptoRow, standIns := [], harness := (true, "15f6d1efdccfa641962256d0b5171910e8b86606ab5f5709d99fe74ccc802110"), looks := false }, kinds := [], alts := [], laidByText := true, laidKinds := [.data], laidTests := true, laidLooks := .later }
def BookKeepsUptoCardSaid : Prop := Claim7.holds Tryd.pinned (.plain (OpenSpec.upto bookKeepsSpec)) bookKeepsUptoCard

/-- THE SECOND FORM's CARD OF 'draymanlaw12.BookFollows'. -/
def bookFollowsUptoCard : Claim7 := { stood := { row := bookFollowsUptoRow, standIns := [], harness := (true, "15f6d1efdccfa641962256d0b5171910e8b86606ab5f5709d99fe74ccc802110"), looks := false }, kinds := [], alts := [], laidByText := true, laidKinds := [.data], laidTests := true, laidLooks := .later }
def BookFollowsUptoCardSaid : Prop := Claim7.holds Tryd.pinned (.plain (OpenSpec.upto bookFollowsSpec)) bookFollowsUptoCard

/-- THE SECOND FORM's CARD OF 'draymanlaw12.BookCuts'. -/
def bookCutsUptoCard : Claim7 := { stood := { row := bookCutsUptoRow, standIns := [], harness := (true, "15f6d1efdccfa641962256d0b5171910e8b86606ab5f5709d99fe74ccc802110"), looks := false }, kinds := [], alts := [], laidByText := true, laidKinds := [.data], laidTests := true, laidLooks := .later }
def BookCutsUptoCardSaid : Prop := Claim7.holds Tryd.pinned (.plain (OpenSpec.upto bookCutsSpec)) bookCutsUptoCard
end Rows
end Go.Proofs.YtiipmjdmmoaodaaDoor
