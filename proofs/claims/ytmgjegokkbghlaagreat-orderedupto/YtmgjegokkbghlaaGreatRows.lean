/-
  No cell of these rows narrows 'for every input' (looked for: loops, veiled, ifaces, maps, wideKeys, modest, calm, conditions, laid).
  DERIVED. THE GIVEN ROWS OF THIS SEAT. 4 by the template 'for every input the law returns true; each argument reads behind the call as it read before'; 0 by the template 'total and deterministic' (their statements: YtmgjegokkbghlaaGreatTotals.lean).
  GIVEN WITH THE SEED: the statements are not yours to turn. If you find one false, say at which input.
  Laid BY PROGRAM, IN A SANDBOX (cutbox-rows.mjs): the forced cells as the released guide's own fill.sh prints them over the translation ce24608ea354b5a1… (all of the seat's roots in one cut). By AI agents, Wed Nov 11 2026. No macro, syntax, notation, axiom, sorry.
-/
import Derived.Test.YtmgjegokkbghlaaGreatChecked
import GoSem.Claim
import GoSem.ClaimJoined
import GoSem.ClaimMapViews
import Derived.JoinedTies
import Derived.KernelRfl
namespace Go.Proofs.YtmgjegokkbghlaaGreat
/- THE CELL 'sum', in the pinned program and in every row, IS THE sha256 OF THE DUMP (.gsa) THAT YtmgjegokkbghlaaGreatProg.lean LOADS. Nothing in Lean hashes anything: it is a label: what it is worth is what the hold of that sum in a sandbox is worth. -/
noncomputable def Tryz.pinned : Pinned := { name := "ytmgjegokkbghlaagreat", sum := "ce24608ea354b5a17cac9af7531867a4c466b53713176d4ce4fa70d314f690ca", checked := Tryz.checked }
namespace Rows
def none {H : Type} : Left H := { results := [], args := [] }

/-- 'diagramlaw.Held': WHATEVER THE INPUT: true; the input reads as it did. -/
def heldSpec : ChangeSpec := { name := "held", fn := fun _ => fun
  | [d] => { results := [.lit (.bool true)], args := [d] }
  | _ => none }
def heldRow : OpenClaim := { program := "ytmgjegokkbghlaagreat", sum := "ce24608ea354b5a17cac9af7531867a4c466b53713176d4ce4fa70d314f690ca", func := "diagram/diagramlaw.Held", spec := "held", unfollowed := true, recurses := true, plainKeys := false, apart := false }
def HeldSaid : Prop := heldRow.holds Tryz.pinned (OpenSpec.ofChange heldSpec)

/-- ITS FALSE NEIGHBOUR: 'it returns false'. Refute it at one input. -/
def heldWrong : ChangeSpec := { name := "held", fn := fun _ => fun
  | [d] => { results := [.lit (.bool false)], args := [d] }
  | _ => none }
def HeldWrongFalsely : Prop := heldRow.holds Tryz.pinned (OpenSpec.ofChange heldWrong)

/-- 'diagramlaw.Asked': WHATEVER THE INPUT: true; the input reads as it did. -/
def askedSpec : ChangeSpec := { name := "asked", fn := fun _ => fun
  | [d] => { results := [.lit (.bool true)], args := [d] }
  | _ => none }
def askedRow : OpenClaim := { program := "ytmgjegokkbghlaagreat", sum := "ce24608ea354b5a17cac9af7531867a4c466b53713176d4ce4fa70d314f690ca", func := "diagram/diagramlaw.Asked", spec := "asked", unfollowed := true, recurses := true, plainKeys := false, apart := false }
def AskedSaid : Prop := askedRow.holds Tryz.pinned (OpenSpec.ofChange askedSpec)

/-- ITS FALSE NEIGHBOUR: 'it returns false'. Refute it at one input. -/
def askedWrong : ChangeSpec := { name := "asked", fn := fun _ => fun
  | [d] => { results := [.lit (.bool false)], args := [d] }
  | _ => none }
def AskedWrongFalsely : Prop := askedRow.holds Tryz.pinned (OpenSpec.ofChange askedWrong)

/-- 'diagramlaw.Formed': WHATEVER THE INPUT: true; the input reads as it did. -/
def formedSpec : ChangeSpec := { name := "formed", fn := fun _ => fun
  | [d] => { results := [.lit (.bool true)], args := [d] }
  | _ => none }
def formedRow : OpenClaim := { program := "ytmgjegokkbghlaagreat", sum := "ce24608ea354b5a17cac9af7531867a4c466b53713176d4ce4fa70d314f690ca", func := "diagram/diagramlaw.Formed", spec := "formed", unfollowed := true, recurses := true, plainKeys := false, apart := false }
def FormedSaid : Prop := formedRow.holds Tryz.pinned (OpenSpec.ofChange formedSpec)

/-- ITS FALSE NEIGHBOUR: 'it returns false'. Refute it at one input. -/
def formedWrong : ChangeSpec := { name := "formed", fn := fun _ => fun
  | [d] => { results := [.lit (.bool false)], args := [d] }
  | _ => none }
def FormedWrongFalsely : Prop := formedRow.holds Tryz.pinned (OpenSpec.ofChange formedWrong)

/-- 'diagramlaw.Ordered': WHATEVER THE INPUT: true; the input reads as it did. -/
def orderedSpec : ChangeSpec := { name := "ordered", fn := fun _ => fun
  | [d] => { results := [.lit (.bool true)], args := [d] }
  | _ => none }
def orderedRow : OpenClaim := { program := "ytmgjegokkbghlaagreat", sum := "ce24608ea354b5a17cac9af7531867a4c466b53713176d4ce4fa70d314f690ca", func := "diagram/diagramlaw.Ordered", spec := "ordered", unfollowed := true, recurses := true, plainKeys := false, apart := false }
def OrderedSaid : Prop := orderedRow.holds Tryz.pinned (OpenSpec.ofChange orderedSpec)

/-- ITS FALSE NEIGHBOUR: 'it returns false'. Refute it at one input. -/
def orderedWrong : ChangeSpec := { name := "ordered", fn := fun _ => fun
  | [d] => { results := [.lit (.bool false)], args := [d] }
  | _ => none }
def OrderedWrongFalsely : Prop := orderedRow.holds Tryz.pinned (OpenSpec.ofChange orderedWrong)

/- THE SECOND FORM. 'bulk': how many values and letters a reading holds, each counted each time it is reached (what is shared counts as often as it is met; a slice's spare places count too). A statement '..UptoSaid' is the law's where the arguments, and the package variables that the reading takes, are together of bulk at most 1048576: NARROWER than '..Said'. Prove '..Said' where nothing that the law and all that it calls make is longer than what came in: it says more and counts as full. Else prove '..UptoSaid'. A law counts once. -/
mutual
def uptoBulk {H : Type} : DataW H → Nat
  | .lit (.string bytes) => bytes.length + 1
  | .lit _ => 1
  | .nil => 1
  | .ptr d => uptoBulk d + 1
  | .slice elems spare => uptoBulkAll elems + uptoBulkAll spare + 1
  | .agg parts => uptoBulkAll parts + 1
  | .iface _ d => uptoBulk d + 1
  | .map entries => uptoBulkEntries entries + 1
  | .held _ => 1
def uptoBulkAll {H : Type} : List (DataW H) → Nat
  | [] => 0
  | d :: r => uptoBulk d + uptoBulkAll r
def uptoBulkEntries {H : Type} : List (Lit × DataW H) → Nat
  | [] => 0
  | x :: r => uptoBulkEntry x + uptoBulkEntries r
def uptoBulkEntry {H : Type} : Lit × DataW H → Nat
  | (.string bytes, d) => bytes.length + uptoBulk d + 1
  | (_, d) => uptoBulk d + 1
 end
def uptoSmall : (H : Type) → List (DataW H) → Bool := fun _ ds => decide (uptoBulkAll ds ≤ 1048576)
def OpenSpec.upto (s : _root_.Go.ChangeSpec) : _root_.Go.OpenSpec := { _root_.Go.OpenSpec.ofChange s with cond := some uptoSmall }

/-- 'diagramlaw.Held', WHERE WHAT IT READS IS OF BULK AT MOST 1048576: true; the input reads as it did. -/
def heldUptoRow : OpenClaim := { program := "ytmgjegokkbghlaagreat", sum := "ce24608ea354b5a17cac9af7531867a4c466b53713176d4ce4fa70d314f690ca", func := "diagram/diagramlaw.Held", spec := "held", unfollowed := true, recurses := true, plainKeys := false, apart := false, narrowed := true }
def HeldUptoSaid : Prop := heldUptoRow.holds Tryz.pinned (OpenSpec.upto heldSpec)

/-- 'diagramlaw.Asked', WHERE WHAT IT READS IS OF BULK AT MOST 1048576: true; the input reads as it did. -/
def askedUptoRow : OpenClaim := { program := "ytmgjegokkbghlaagreat", sum := "ce24608ea354b5a17cac9af7531867a4c466b53713176d4ce4fa70d314f690ca", func := "diagram/diagramlaw.Asked", spec := "asked", unfollowed := true, recurses := true, plainKeys := false, apart := false, narrowed := true }
def AskedUptoSaid : Prop := askedUptoRow.holds Tryz.pinned (OpenSpec.upto askedSpec)

/-- 'diagramlaw.Formed', WHERE WHAT IT READS IS OF BULK AT MOST 1048576: true; the input reads as it did. -/
def formedUptoRow : OpenClaim := { program := "ytmgjegokkbghlaagreat", sum := "ce24608ea354b5a17cac9af7531867a4c466b53713176d4ce4fa70d314f690ca", func := "diagram/diagramlaw.Formed", spec := "formed", unfollowed := true, recurses := true, plainKeys := false, apart := false, narrowed := true }
def FormedUptoSaid : Prop := formedUptoRow.holds Tryz.pinned (OpenSpec.upto formedSpec)

/-- 'diagramlaw.Ordered', WHERE WHAT IT READS IS OF BULK AT MOST 1048576: true; the input reads as it did. -/
def orderedUptoRow : OpenClaim := { program := "ytmgjegokkbghlaagreat", sum := "ce24608ea354b5a17cac9af7531867a4c466b53713176d4ce4fa70d314f690ca", func := "diagram/diagramlaw.Ordered", spec := "ordered", unfollowed := true, recurses := true, plainKeys := false, apart := false, narrowed := true }
def OrderedUptoSaid : Prop := orderedUptoRow.holds Tryz.pinned (OpenSpec.upto orderedSpec)

end Rows
end Go.Proofs.YtmgjegokkbghlaaGreat
