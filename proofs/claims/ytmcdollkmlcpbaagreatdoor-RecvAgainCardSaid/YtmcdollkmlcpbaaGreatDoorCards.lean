/-
  DERIVED. GIVEN WITH THE SEED: THE CARDS: each row of YtmcdollkmlcpbaaGreatDoorRows.lean that lists a variable, with what it lists TIED to the program's text (the seventh form; the later family's looks); each row that meets fmt, with fmt's text TOLD by the authors' own Lean function (tested against real Go, not proved from fmt's source: count such statements apart). THE CARD IS WHAT COUNTS. Prove the row's statement (the work); the ties are given (YtmcdollkmlcpbaaGreatDoorTie.lean); close each card by the builder's one call (the guide's Derived/Test/ToyasCard.lean, 'card_holds'). Laid BY PROGRAM, IN A SANDBOX (cutbox-door.mjs). By AI agents, Wed Nov 11 2026. No macro, syntax, notation, axiom, sorry.
-/
import Derived.Test.YtmcdollkmlcpbaaGreatDoorRows
import GoSem.ClaimSeven
namespace Go.Proofs.YtmcdollkmlcpbaaGreatDoor
namespace Rows

/-- THE TIED CARD OF 'draymanlaw17.RecvRefuses'. -/
def recvRefusesCard : Claim7 := { stood := { row := recvRefusesRow, standIns := [], harness := (true, "4aea30fe8df5fe374c1640fa05f02143dd2021bfdf2bbd9f9e9c816fff9bbd64"), looks := false }, kinds := [], alts := [], laidByText := true, laidKinds := [.data], laidTests := true, laidLooks := .later }
def RecvRefusesCardSaid : Prop := Claim7.holds Tryz.pinned (.plain (OpenSpec.ofChange recvRefusesSpec)) recvRefusesCard

/-- THE TIED CARD OF 'draymanlaw17.RecvFollows'. -/
def recvFollowsCard : Claim7 := { stood := { row := recvFollowsRow, standIns := [], harness := (true, "4aea30fe8df5fe374c1640fa05f02143dd2021bfdf2bbd9f9e9c816fff9bbd64"), looks := false }, kinds := [], alts := [], laidByText := true, laidKinds := [.data], laidTests := true, laidLooks := .later }
def RecvFollowsCardSaid : Prop := Claim7.holds Tryz.pinned (.plain (OpenSpec.ofChange recvFollowsSpec)) recvFollowsCard

/-- THE TIED CARD OF 'draymanlaw17.RecvTells'. -/
def recvTellsCard : Claim7 := { stood := { row := recvTellsRow, standIns := [], harness := (true, "4aea30fe8df5fe374c1640fa05f02143dd2021bfdf2bbd9f9e9c816fff9bbd64"), looks := false }, kinds := [], alts := [], laidByText := true, laidKinds := [.data], laidTests := true, laidLooks := .later }
def RecvTellsCardSaid : Prop := Claim7.holds Tryz.pinned (.plain (OpenSpec.ofChange recvTellsSpec)) recvTellsCard

/-- THE TIED CARD OF 'draymanlaw17.RecvAgain'. -/
def recvAgainCard : Claim7 := { stood := { row := recvAgainRow, standIns := [], harness := (true, "4aea30fe8df5fe374c1640fa05f02143dd2021bfdf2bbd9f9e9c816fff9bbd64"), looks := false }, kinds := [], alts := [], laidByText := true, laidKinds := [.data], laidTests := true, laidLooks := .later }
def RecvAgainCardSaid : Prop := Claim7.holds Tryz.pinned (.plain (OpenSpec.ofChange recvAgainSpec)) recvAgainCard

/-- THE SECOND FORM's CARD OF 'draymanlaw17.RecvRefuses'. -/
def recvRefusesUptoCard : Claim7 := { stood := { row := recvRefusesUptoRow, standIns := [], harness := (true, "4aea30fe8df5fe374c1640fa05f02143dd2021bfdf2bbd9f9e9c816fff9bbd64"), looks := false }, kinds := [], alts := [], laidByText := true, laidKinds := [.data], laidTests := true, laidLooks := .later }
def RecvRefusesUptoCardSaid : Prop := Claim7.holds Tryz.pinned (.plain (OpenSpec.upto recvRefusesSpec)) recvRefusesUptoCard

/-- THE SECOND FORM's CARD OF 'draymanlaw17.RecvFollows'. -/
def recvFollowsUptoCard : Claim7 := { stood := { row := recvFollowsUptoRow, standIns := [], harness := (true, "4aea30fe8df5fe374c1640fa05f02143dd2021bfdf2bbd9f9e9c816fff9bbd64"), looks := false }, kinds := [], alts := [], laidByText := true, laidKinds := [.data], laidTests := true, laidLooks := .later }
def RecvFollowsUptoCardSaid : Prop := Claim7.holds Tryz.pinned (.plain (OpenSpec.upto recvFollowsSpec)) recvFollowsUptoCard

/-- THE SECOND FORM's CARD OF 'draymanlaw17.RecvTells'. -/
def recvTellsUptoCard : Claim7 := { stood := { row := recvTellsUptoRow, standIns := [], harness := (true, "4aea30fe8df5fe374c1640fa05f02143dd2021bfdf2bbd9f9e9c816fff9bbd64"), looks := false }, kinds := [], alts := [], laidByText := true, laidKinds := [.data], laidTests := true, laidLooks := .later }
def RecvTellsUptoCardSaid : Prop := Claim7.holds Tryz.pinned (.plain (OpenSpec.upto recvTellsSpec)) recvTellsUptoCard

/-- THE SECOND FORM's CARD OF 'draymanlaw17.RecvAgain'. -/
def recvAgainUptoCard : Claim7 := { stood := { row := recvAgainUptoRow, standIns := [], harness := (true, "4aea30fe8df5fe374c1640fa05f02143dd2021bfdf2bbd9f9e9c816fff9bbd64"), looks := false }, kinds := [], alts := [], laidByText := true, laidKinds := [.data], laidTests := true, laidLooks := .later }
def RecvAgainUptoCardSaid : Prop := Claim7.holds Tryz.pinned (.plain (OpenSpec.upto recvAgainSpec)) recvAgainUptoCard
end Rows
end Go.Proofs.YtmcdollkmlcpbaaGreatDoor
