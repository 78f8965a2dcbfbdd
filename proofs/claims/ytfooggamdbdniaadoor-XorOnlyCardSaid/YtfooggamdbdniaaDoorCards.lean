/-
  DERIVED. GIVEN WITH THE SEED: THE CARDS: each row of YtfooggamdbdniaaDoorRows.lean that lists a variable, with what it lists TIED to the program's text (the seventh form; the later family's looks); each row that meets fmt, with fmt's text TOLD by the authors' own Lean function (tested against real Go, not proved from fmt's source: count such statements apart). THE CARD IS WHAT COUNTS. Prove the row's statement (the work); the ties are given (YtfooggamdbdniaaDoorTie.lean); close each card by the builder's one call (the guide's Derived/Test/ToyasCard.lean, 'card_holds'). Laid BY PROGRAM, IN A SANDBOX (cutbox-door.mjs). By AI agents, Wed Nov 11 2026. No macro, syntax, notation, axiom, sorry.
-/
import Derived.Test.YtfooggamdbdniaaDoorRows
import GoSem.ClaimSeven
namespace Go.Proofs.YtfooggamdbdniaaDoor
namespace Rows

/-- THE TIED CARD OF 'draymanlaw03.XorSounds'. -/
def xorSoundsCard : Claim7 := { stood := { row := xorSoundsRow, standIns := [], harness := (true, "857892647a462bc67465d115e857be4d934e5cd315cff4c796e25f07be9e0ab4"), looks := false }, kinds := [], alts := [], laidByText := true, laidKinds := [.data], laidTests := true, laidLooks := .later }
def XorSoundsCardSaid : Prop := Claim7.holds Tryd.pinned (.plain (OpenSpec.ofChange xorSoundsSpec)) xorSoundsCard

/-- THE TIED CARD OF 'draymanlaw03.XorPuts'. -/
def xorPutsCard : Claim7 := { stood := { row := xorPutsRow, standIns := [], harness := (true, "857892647a462bc67465d115e857be4d934e5cd315cff4c796e25f07be9e0ab4"), looks := false }, kinds := [], alts := [], laidByText := true, laidKinds := [.data], laidTests := true, laidLooks := .later }
def XorPutsCardSaid : Prop := Claim7.holds Tryd.pinned (.plain (OpenSpec.ofChange xorPutsSpec)) xorPutsCard

/-- THE TIED CARD OF 'draymanlaw03.XorGets'. -/
def xorGetsCard : Claim7 := { stood := { row := xorGetsRow, standIns := [], harness := (true, "857892647a462bc67465d115e857be4d934e5cd315cff4c796e25f07be9e0ab4"), looks := false }, kinds := [], alts := [], laidByText := true, laidKinds := [.data], laidTests := true, laidLooks := .later }
def XorGetsCardSaid : Prop := Claim7.holds Tryd.pinned (.plain (OpenSpec.ofChange xorGetsSpec)) xorGetsCard

/-- THE TIED CARD OF 'draymanlaw03.XorBack'. -/
def xorBackCard : Claim7 := { stood := { row := xorBackRow, standIns := [], harness := (true, "857892647a462bc67465d115e857be4d934e5cd315cff4c796e25f07be9e0ab4"), looks := false }, kinds := [], alts := [], laidByText := true, laidKinds := [.data], laidTests := true, laidLooks := .later }
def XorBackCardSaid : Prop := Claim7.holds Tryd.pinned (.plain (OpenSpec.ofChange xorBackSpec)) xorBackCard

/-- THE TIED CARD OF 'draymanlaw03.XorOnly'. -/
def xorOnlyCard : Claim7 := { stood := { row := xorOnlyRow, standIns := [], harness := (true, "857892647a462bc67465d115e857be4d934e5cd315cff4c796e25f07be9e0ab4"), looks := false }, kinds := [], alts := [], laidByText := true, laidKinds := [.data], laidTests := true, laidLooks := .later }
def XorOnlyCardSaid : Prop := Claim7.holds Tryd.pinned (.plain (OpenSpec.ofChange xorOnlySpec)) xorOnlyCard

/-- THE TIED CARD OF 'draymanlaw03.XorSame'. -/
def xorSameCard : Claim7 := { stood := { row := xorSameRow, standIns := [], harness := (true, "857892647a462bc67465d115e857be4d934e5cd315cff4c796e25f07be9e0ab4"), looks := false }, kinds := [], alts := [], laidByText := true, laidKinds := [.data], laidTests := true, laidLooks := .later }
def XorSameCardSaid : Prop := Claim7.holds Tryd.pinned (.plain (OpenSpec.ofChange xorSameSpec)) xorSameCard

/-- THE SECOND FORM's CARD OF 'draymanlaw03.XorSounds'. -/
def xorSoundsUptoCard : Claim7 := { stood := { row := xorSoundsUptoRow, standIns := [], harness := (true, "857892647a462bc67465d115e857be4d934e5cd315cff4c796e25f07be9e0ab4"), looks := false }, kinds := [], alts := [], laidByText := true, laidKinds := [.data], laidTests := true, laidLooks := .later }
def XorSoundsUptoCardSaid : Prop := Claim7.holds Tryd.pinned (.plain (OpenSpec.upto xorSoundsSpec)) xorSoundsUptoCard

/-- THE SECOND FORM's CARD OF 'draymanlaw03.XorPuts'. -/
def xorPutsUptoCard : Claim7 := { stood := { row := xorPutsUptoRow, standIns := [], harness := (true, "857892647a462bc67465d115e857be4d934e5cd315cff4c796e25f07be9e0ab4"), looks := false }, kinds := [], alts := [], laidByText := true, laidKinds := [.data], laidTests := true, laidLooks := .later }
def XorPutsUptoCardSaid : Prop := Claim7.holds Tryd.pinned (.plain (OpenSpec.upto xorPutsSpec)) xorPutsUptoCard

/-- THE SECOND FORM's CARD OF 'draymanlaw03.XorGets'. -/
def xorGetsUptoCard : Claim7 := { stood := { row := xorGetsUptoRow, standIns := [], harness := (true, "857892647a462bc67465d115e857be4d934e5cd315cff4c796e25f07be9e0ab4"), looks := false }, kinds := [], alts := [], laidByText := true, laidKinds := [.data], laidTests := true, laidLooks := .later }
def XorGetsUptoCardSaid : Prop := Claim7.holds Tryd.pinned (.plain (OpenSpec.upto xorGetsSpec)) xorGetsUptoCard

/-- THE SECOND FORM's CARD OF 'draymanlaw03.XorBack'. -/
def xorBackUptoCard : Claim7 := { stood := { row := xorBackUptoRow, standIns := [], harness := (true, "857892647a462bc67465d115e857be4d934e5cd315cff4c796e25f07be9e0ab4"), looks := false }, kinds := [], alts := [], laidByText := true, laidKinds := [.data], laidTests := true, laidLooks := .later }
def XorBackUptoCardSaid : Prop := Claim7.holds Tryd.pinned (.plain (OpenSpec.upto xorBackSpec)) xorBackUptoCard

/-- THE SECOND FORM's CARD OF 'draymanlaw03.XorOnly'. -/
def xorOnlyUptoCard : Claim7 := { stood := { row := xorOnlyUptoRow, standIns := [], harness := (true, "857892647a462bc67465d115e857be4d934e5cd315cff4c796e25f07be9e0ab4"), looks := false }, kinds := [], alts := [], laidByText := true, laidKinds := [.data], laidTests := true, laidLooks := .later }
def XorOnlyUptoCardSaid : Prop := Claim7.holds Tryd.pinned (.plain (OpenSpec.upto xorOnlySpec)) xorOnlyUptoCard

/-- THE SECOND FORM's CARD OF 'draymanlaw03.XorSame'. -/
def xorSameUptoCard : Claim7 := { stood := { row := xorSameUptoRow, standIns := [], harness := (true, "857892647a462bc67465d115e857be4d934e5cd315cff4c796e25f07be9e0ab4"), looks := false }, kinds := [], alts := [], laidByText := true, laidKinds := [.data], laidTests := true, laidLooks := .later }
def XorSameUptoCardSaid : Prop := Claim7.holds Tryd.pinned (.plain (OpenSpec.upto xorSameSpec)) xorSameUptoCard
end Rows
end Go.Proofs.YtfooggamdbdniaaDoor
