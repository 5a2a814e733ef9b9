/-
  No cell of these rows narrows 'for every input' (looked for: loops, veiled, ifaces, maps, wideKeys, modest, calm, conditions, laid).
  DERIVED. THE GIVEN ROWS OF THIS SEAT. 6 by the template 'for every input the law returns true; each argument reads behind the call as it read before'; 0 by the template 'total and deterministic' (their statements: YtmgjegokkbghlaaTotals.lean).
  GIVEN WITH THE SEED: the statements are not yours to turn. If you find one false, say at which input.
  Laid BY PROGRAM, IN A SANDBOX (cutbox-rows.mjs): the forced cells as the released guide's own fill.sh prints them over the translation 5c6852545fc78702… (all of the seat's roots in one cut). By AI agents, Wed Nov 11 2026. No macro, syntax, notation, axiom, sorry.
-/
import Derived.Test.YtmgjegokkbghlaaChecked
import GoSem.Claim
import GoSem.ClaimJoined
import GoSem.ClaimMapViews
import Derived.JoinedTies
import Derived.KernelRfl
namespace Go.Proofs.Ytmgjegokkbghlaa
/- THE CELL 'sum', in the pinned program and in every row, IS THE sha256 OF THE DUMP (.gsa) THAT YtmgjegokkbghlaaProg.lean LOADS. Nothing in Lean hashes anything: it is a label: what it is worth is what the hold of that sum in a sandbox is worth. -/
noncomputable def Try.pinned : Pinned := { name := "ytmgjegokkbghlaa", sum := "5c6852545fc7870224fbc8042bb8f033105b640673faad01fee75a97da0879cd", checked := Try.checked }
namespace Rows
def none {H : Type} : Left H := { results := [], args := [] }

/-- 'diagramkeep.Combined': WHATEVER THE INPUT: true; the input reads as it did. -/
def combinedSpec : ChangeSpec := { name := "combined", fn := fun _ => fun
  | [d1, d2] => { results := [.lit (.bool true)], args := [d1, d2] }
  | _ => none }
def combinedRow : OpenClaim := { program := "ytmgjegokkbghlaa", sum := "5c6852545fc7870224fbc8042bb8f033105b640673faad01fee75a97da0879cd", func := "diagram/diagramkeep.Combined", spec := "combined", unfollowed := true, recurses := true, plainKeys := false, apart := false }
def CombinedSaid : Prop := combinedRow.holds Try.pinned (OpenSpec.ofChange combinedSpec)

/-- ITS FALSE NEIGHBOUR: 'it returns false'. Refute it at one input. -/
def combinedWrong : ChangeSpec := { name := "combined", fn := fun _ => fun
  | [d1, d2] => { results := [.lit (.bool false)], args := [d1, d2] }
  | _ => none }
def CombinedWrongFalsely : Prop := combinedRow.holds Try.pinned (OpenSpec.ofChange combinedWrong)

/-- 'diagramkeep.Canon': WHATEVER THE INPUT: true; the input reads as it did. -/
def canonSpec : ChangeSpec := { name := "canon", fn := fun _ => fun
  | [d1, d2, d3] => { results := [.lit (.bool true)], args := [d1, d2, d3] }
  | _ => none }
def canonRow : OpenClaim := { program := "ytmgjegokkbghlaa", sum := "5c6852545fc7870224fbc8042bb8f033105b640673faad01fee75a97da0879cd", func := "diagram/diagramkeep.Canon", spec := "canon", unfollowed := true, recurses := true, plainKeys := false, apart := false }
def CanonSaid : Prop := canonRow.holds Try.pinned (OpenSpec.ofChange canonSpec)

/-- ITS FALSE NEIGHBOUR: 'it returns false'. Refute it at one input. -/
def canonWrong : ChangeSpec := { name := "canon", fn := fun _ => fun
  | [d1, d2, d3] => { results := [.lit (.bool false)], args := [d1, d2, d3] }
  | _ => none }
def CanonWrongFalsely : Prop := canonRow.holds Try.pinned (OpenSpec.ofChange canonWrong)

/-- 'diagramkeep.Parts': WHATEVER THE INPUT: true; the input reads as it did. -/
def partsSpec : ChangeSpec := { name := "parts", fn := fun _ => fun
  | [d1, d2, d3, d4] => { results := [.lit (.bool true)], args := [d1, d2, d3, d4] }
  | _ => none }
def partsRow : OpenClaim := { program := "ytmgjegokkbghlaa", sum := "5c6852545fc7870224fbc8042bb8f033105b640673faad01fee75a97da0879cd", func := "diagram/diagramkeep.Parts", spec := "parts", unfollowed := true, recurses := true, plainKeys := false, apart := false }
def PartsSaid : Prop := partsRow.holds Try.pinned (OpenSpec.ofChange partsSpec)

/-- ITS FALSE NEIGHBOUR: 'it returns false'. Refute it at one input. -/
def partsWrong : ChangeSpec := { name := "parts", fn := fun _ => fun
  | [d1, d2, d3, d4] => { results := [.lit (.bool false)], args := [d1, d2, d3, d4] }
  | _ => none }
def PartsWrongFalsely : Prop := partsRow.holds Try.pinned (OpenSpec.ofChange partsWrong)

/-- 'diagramkeep.Smallest': WHATEVER THE INPUT: true; the input reads as it did. -/
def smallestSpec : ChangeSpec := { name := "smallest", fn := fun _ => fun
  | [d1, d2] => { results := [.lit (.bool true)], args := [d1, d2] }
  | _ => none }
def smallestRow : OpenClaim := { program := "ytmgjegokkbghlaa", sum := "5c6852545fc7870224fbc8042bb8f033105b640673faad01fee75a97da0879cd", func := "diagram/diagramkeep.Smallest", spec := "smallest", unfollowed := true, recurses := true, plainKeys := false, apart := false }
def SmallestSaid : Prop := smallestRow.holds Try.pinned (OpenSpec.ofChange smallestSpec)

/-- ITS FALSE NEIGHBOUR: 'it returns false'. Refute it at one input. -/
def smallestWrong : ChangeSpec := { name := "smallest", fn := fun _ => fun
  | [d1, d2] => { results := [.lit (.bool false)], args := [d1, d2] }
  | _ => none }
def SmallestWrongFalsely : Prop := smallestRow.holds Try.pinned (OpenSpec.ofChange smallestWrong)

/-- 'diagramkeep.Shapes': WHATEVER THE INPUT: true; the input reads as it did. -/
def shapesSpec : ChangeSpec := { name := "shapes", fn := fun _ => fun
  | [d] => { results := [.lit (.bool true)], args := [d] }
  | _ => none }
def shapesRow : OpenClaim := { program := "ytmgjegokkbghlaa", sum := "5c6852545fc7870224fbc8042bb8f033105b640673faad01fee75a97da0879cd", func := "diagram/diagramkeep.Shapes", spec := "shapes", unfollowed := true, recurses := true, plainKeys := false, apart := false }
def ShapesSaid : Prop := shapesRow.holds Try.pinned (OpenSpec.ofChange shapesSpec)

/-- ITS FALSE NEIGHBOUR: 'it returns false'. Refute it at one input. -/
def shapesWrong : ChangeSpec := { name := "shapes", fn := fun _ => fun
  | [d] => { results := [.lit (.bool false)], args := [d] }
  | _ => none }
def ShapesWrongFalsely : Prop := shapesRow.holds Try.pinned (OpenSpec.ofChange shapesWrong)

/-- 'diagramkeep.Turned': WHATEVER THE INPUT: true; the input reads as it did. -/
def turnedSpec : ChangeSpec := { name := "turned", fn := fun _ => fun
  | [d1, d2, d3, d4] => { results := [.lit (.bool true)], args := [d1, d2, d3, d4] }
  | _ => none }
def turnedRow : OpenClaim := { program := "ytmgjegokkbghlaa", sum := "5c6852545fc7870224fbc8042bb8f033105b640673faad01fee75a97da0879cd", func := "diagram/diagramkeep.Turned", spec := "turned", unfollowed := true, recurses := true, plainKeys := false, apart := false }
def TurnedSaid : Prop := turnedRow.holds Try.pinned (OpenSpec.ofChange turnedSpec)

/-- ITS FALSE NEIGHBOUR: 'it returns false'. Refute it at one input. -/
def turnedWrong : ChangeSpec := { name := "turned", fn := fun _ => fun
  | [d1, d2, d3, d4] => { results := [.lit (.bool false)], args := [d1, d2, d3, d4] }
  | _ => none }
def TurnedWrongFalsely : Prop := turnedRow.holds Try.pinned (OpenSpec.ofChange turnedWrong)

/- THE SECOND FORM. 'bulk': how many values and letters a reading holds, each counted each time it is reached (what is shared counts as often as it is met; a slice's spare places count too). A statement '..UptoSaid' is the law's where the arguments, and the package variables that the reading takes, are together of bulk at most 1048576: NARROWER than '..Said'. Prove '..Said' where nothing that the law and all that it calls make is longer than what came in: it says more and counts as full. Else prove '..UptoSaid'. A law counts once. -/
mutual
def uptoBulk {H : Type} : DataW H → Nat
  | .lit (.string bytes) => bytes.length + 1
  | .lit _ => 1
  | .nil => 1
  | .ptr d => uptoBulk d + 1
  | .slice elems spare => uptoBulkAll elems + uptoBulkAll spare + 1
  | .agg parts => uptoBulkAll parts + 1
  | .iface _ d => uptoBulk d + 1
  | .map entries => uptoBulkEntries entries + 1
  | .held _ => 1
def uptoBulkAll {H : Type} : List (DataW H) → Nat
  | [] => 0
  | d :: r => uptoBulk d + uptoBulkAll r
def uptoBulkEntries {H : Type} : List (Lit × DataW H) → Nat
  | [] => 0
  | x :: r => uptoBulkEntry x + uptoBulkEntries r
def uptoBulkEntry {H : Type} : Lit × DataW H → Nat
  | (.string bytes, d) => bytes.length + uptoBulk d + 1
  | (_, d) => uptoBulk d + 1
 end
def uptoSmall : (H : Type) → List (DataW H) → Bool := fun _ ds => decide (uptoBulkAll ds ≤ 1048576)
def OpenSpec.upto (s : _root_.Go.ChangeSpec) : _root_.Go.OpenSpec := { _root_.Go.OpenSpec.ofChange s with cond := some uptoSmall }

/-- 'diagramkeep.Combined', WHERE WHAT IT READS IS OF BULK AT MOST 1048576: true; the input reads as it did. -/
def combinedUptoRow : OpenClaim := { program := "ytmgjegokkbghlaa", sum := "5c6852545fc7870224fbc8042bb8f033105b640673faad01fee75a97da0879cd", func := "diagram/diagramkeep.Combined", spec := "combined", unfollowed := true, recurses := true, plainKeys := false, apart := false, narrowed := true }
def CombinedUptoSaid : Prop := combinedUptoRow.holds Try.pinned (OpenSpec.upto combinedSpec)

/-- 'diagramkeep.Canon', WHERE WHAT IT READS IS OF BULK AT MOST 1048576: true; the input reads as it did. -/
def canonUptoRow : OpenClaim := { program := "ytmgjegokkbghlaa", sum := "5c6852545fc7870224fbc8042bb8f033105b640673faad01fee75a97da0879cd", func := "diagram/diagramkeep.Canon", spec := "canon", unfollowed := true, recurses := true, plainKeys := false, apart := false, narrowed := true }
def CanonUptoSaid : Prop := canonUptoRow.holds Try.pinned (OpenSpec.upto canonSpec)

/-- 'diagramkeep.Parts', WHERE WHAT IT READS IS OF BULK AT MOST 1048576: true; the input reads as it did. -/
def partsUptoRow : OpenClaim := { program := "ytmgjegokkbghlaa", sum := "5c6852545fc7870224fbc8042bb8f033105b640673faad01fee75a97da0879cd", func := "diagram/diagramkeep.Parts", spec := "parts", unfollowed := true, recurses := true, plainKeys := false, apart := false, narrowed := true }
def PartsUptoSaid : Prop := partsUptoRow.holds Try.pinned (OpenSpec.upto partsSpec)

/-- 'diagramkeep.Smallest', WHERE WHAT IT READS IS OF BULK AT MOST 1048576: true; the input reads as it did. -/
def smallestUptoRow : OpenClaim := { program := "ytmgjegokkbghlaa", sum := "5c6852545fc7870224fbc8042bb8f033105b640673faad01fee75a97da0879cd", func := "diagram/diagramkeep.Smallest", spec := "smallest", unfollowed := true, recurses := true, plainKeys := false, apart := false, narrowed := true }
def SmallestUptoSaid : Prop := smallestUptoRow.holds Try.pinned (OpenSpec.upto smallestSpec)

/-- 'diagramkeep.Shapes', WHERE WHAT IT READS IS OF BULK AT MOST 1048576: true; the input reads as it did. -/
def shapesUptoRow : OpenClaim := { program := "ytmgjegokkbghlaa", sum := "5c6852545fc7870224fbc8042bb8f033105b640673faad01fee75a97da0879cd", func := "diagram/diagramkeep.Shapes", spec := "shapes", unfollowed := true, recurses := true, plainKeys := false, apart := false, narrowed := true }
def ShapesUptoSaid : Prop := shapesUptoRow.holds Try.pinned (OpenSpec.upto shapesSpec)

/-- 'diagramkeep.Turned', WHERE WHAT IT READS IS OF BULK AT MOST 1048576: true; the input reads as it did. -/
def turnedUptoRow : OpenClaim := { program := "ytmgjegokkbghlaa", sum := "5c6852545fc7870224fbc8042bb8f033105b640673faad01fee75a97da0879cd", func := "diagram/diagramkeep.Turned", spec := "turned", unfollowed := true, recurses := true, plainKeys := false, apart := false, narrowed := true }
def TurnedUptoSaid : Prop := turnedUptoRow.holds Try.pinned (OpenSpec.upto turnedSpec)

end Rows
end Go.Proofs.Ytmgjegokkbghlaa
