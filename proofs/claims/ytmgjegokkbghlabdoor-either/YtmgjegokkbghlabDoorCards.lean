/-
  DERIVED. GIVEN WITH THE SEED: THE CARDS: each row of YtmgjegokkbghlabDoorRows.lean that lists a variable, with what it lists TIED to the program's text (the seventh form; the later family's looks); each row that meets fmt, with fmt's text TOLD by the authors' own Lean function (tested against real Go, not proved from fmt's source: count such statements apart). THE CARD IS WHAT COUNTS. Prove the row's statement (the work); the ties are given (YtmgjegokkbghlabDoorTie.lean); close each card by the builder's one call (the guide's Derived/Test/ToyasCard.lean, 'card_holds'). Laid BY PROGRAM, IN A SANDBOX (cutbox-door.mjs). By AI agents, Wed Nov 11 2026. No macro, syntax, notation, axiom, sorry.
-/
import Derived.Test.YtmgjegokkbghlabDoorRows
import GoSem.ClaimSeven
namespace Go.Proofs.YtmgjegokkbghlabDoor
namespace Rows

/-- THE TIED CARD OF 'diagramkeep.Counts'. -/
def countsCard : Claim7 := { stood := { row := countsRow, standIns := [], harness := (true, "7947b777a801ddcd03c06ccdcd81da4b6abb03f16af509282a4a1dab68c08d39"), looks := false }, kinds := [], alts := [], laidByText := true, laidKinds := [.data, .pinned], laidTests := true, laidLooks := .later }
def CountsCardSaid : Prop := Claim7.holds Tryd.pinned (.plain (OpenSpec.ofChange countsSpec)) countsCard

/-- THE TIED CARD OF 'diagramkeep.Reached'. -/
def reachedCard : Claim7 := { stood := { row := reachedRow, standIns := [], harness := (true, "7947b777a801ddcd03c06ccdcd81da4b6abb03f16af509282a4a1dab68c08d39"), looks := false }, kinds := [], alts := [], laidByText := true, laidKinds := [.data, .pinned], laidTests := true, laidLooks := .later }
def ReachedCardSaid : Prop := Claim7.holds Tryd.pinned (.plain (OpenSpec.ofChange reachedSpec)) reachedCard

/-- THE TIED CARD OF 'diagramkeep.Either'. -/
def eitherCard : Claim7 := { stood := { row := eitherRow, standIns := [], harness := (true, "7947b777a801ddcd03c06ccdcd81da4b6abb03f16af509282a4a1dab68c08d39"), looks := false }, kinds := [], alts := [], laidByText := true, laidKinds := [.data, .pinned], laidTests := true, laidLooks := .later }
def EitherCardSaid : Prop := Claim7.holds Tryd.pinned (.plain (OpenSpec.ofChange eitherSpec)) eitherCard

/-- THE SECOND FORM's CARD OF 'diagramkeep.Counts'. -/
def countsUptoCard : Claim7 := { stood := { row := countsUptoRow, standIns := [], harness := (true, "7947b777a801ddcd03c06ccdcd81da4b6abb03f16af509282a4a1dab68c08d39"), looks := false }, kinds := [], alts := [], laidByText := true, laidKinds := [.data, .pinned], laidTests := true, laidLooks := .later }
def CountsUptoCardSaid : Prop := Claim7.holds Tryd.pinned (.plain (OpenSpec.upto countsSpec)) countsUptoCard

/-- THE SECOND FORM's CARD OF 'diagramkeep.Reached'. -/
def reachedUptoCard : Claim7 := { stood := { row := reachedUptoRow, standIns := [], harness := (true, "7947b777a801ddcd03c06ccdcd81da4b6abb03f16af509282a4a1dab68c08d39"), looks := false }, kinds := [], alts := [], laidByText := true, laidKinds := [.data, .pinned], laidTests := true, laidLooks := .later }
def ReachedUptoCardSaid : Prop := Claim7.holds Tryd.pinned (.plain (OpenSpec.upto reachedSpec)) reachedUptoCard

/-- THE SECOND FORM's CARD OF 'diagramkeep.Either'. -/
def eitherUptoCard : Claim7 := { stood := { row := eitherUptoRow, standIns := [], harness := (true, "7947b777a801ddcd03c06ccdcd81da4b6abb03f16af509282a4a1dab68c08d39"), looks := false }, kinds := [], alts := [], laidByText := true, laidKinds := [.data, .pinned], laidTests := true, laidLooks := .later }
def EitherUptoCardSaid : Prop := Claim7.holds Tryd.pinned (.plain (OpenSpec.upto eitherSpec)) eitherUptoCard
end Rows
end Go.Proofs.YtmgjegokkbghlabDoor
