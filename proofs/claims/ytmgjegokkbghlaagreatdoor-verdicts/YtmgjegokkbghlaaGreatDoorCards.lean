/-
  DERIVED. GIVEN WITH THE SEED: THE CARDS: each row of YtmgjegokkbghlaaGreatDoorRows.lean that lists a variable, with what it lists TIED to the program's text (the seventh form; the later family's looks); each row that meets fmt, with fmt's text TOLD by the authors' own Lean function (tested against real Go, not proved from fmt's source: count such statements apart). THE CARD IS WHAT COUNTS. Prove the row's statement (the work); the ties are given (YtmgjegokkbghlaaGreatDoorTie.lean); close each card by the builder's one call (the guide's Derived/Test/ToyasCard.lean, 'card_holds'). Laid BY PROGRAM, IN A SANDBOX (cutbox-door.mjs). By AI agents, Wed Nov 11 2026. No macro, syntax, notation, axiom, sorry.
-/
import Derived.Test.YtmgjegokkbghlaaGreatDoorRows
import GoSem.ClaimSeven
namespace Go.Proofs.YtmgjegokkbghlaaGreatDoor
namespace Rows

/-- THE TIED CARD OF 'diagramlaw.Verdicts'. -/
def verdictsCard : Claim7 := { stood := { row := verdictsRow, standIns := [], harness := (true, "4361e3eacc725a3d37a518bda8177e838eef20effab840d62fca8a0f042d7d78"), looks := false }, kinds := [], alts := [], laidByText := true, laidKinds := [.data, .pinned], laidTests := true, laidLooks := .later }
def VerdictsCardSaid : Prop := Claim7.holds Tryz.pinned (.plain (OpenSpec.ofChange verdictsSpec)) verdictsCard

/-- THE TIED CARD OF 'diagramlaw.All'. -/
def allCard : Claim7 := { stood := { row := allRow, standIns := [], harness := (true, "4361e3eacc725a3d37a518bda8177e838eef20effab840d62fca8a0f042d7d78"), looks := false }, kinds := [], alts := [], laidByText := true, laidKinds := [.data, .pinned], laidTests := true, laidLooks := .later }
def AllCardSaid : Prop := Claim7.holds Tryz.pinned (.plain (OpenSpec.ofChange allSpec)) allCard

/-- THE SECOND FORM's CARD OF 'diagramlaw.Verdicts'. -/
def verdictsUptoCard : Claim7 := { stood := { row := verdictsUptoRow, standIns := [], harness := (true, "4361e3eacc725a3d37a518bda8177e838eef20effab840d62fca8a0f042d7d78"), looks := false }, kinds := [], alts := [], laidByText := true, laidKinds := [.data, .pinned], laidTests := true, laidLooks := .later }
def VerdictsUptoCardSaid : Prop := Claim7.holds Tryz.pinned (.plain (OpenSpec.upto verdictsSpec)) verdictsUptoCard

/-- THE SECOND FORM's CARD OF 'diagramlaw.All'. -/
def allUptoCard : Claim7 := { stood := { row := allUptoRow, standIns := [], harness := (true, "4361e3eacc725a3d37a518bda8177e838eef20effab840d62fca8a0f042d7d78"), looks := false }, kinds := [], alts := [], laidByText := true, laidKinds := [.data, .pinned], laidTests := true, laidLooks := .later }
def AllUptoCardSaid : Prop := Claim7.holds Tryz.pinned (.plain (OpenSpec.upto allSpec)) allUptoCard
end Rows
end Go.Proofs.YtmgjegokkbghlaaGreatDoor
