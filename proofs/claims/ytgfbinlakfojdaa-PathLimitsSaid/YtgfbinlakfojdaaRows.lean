/-
  No cell of these rows narrows 'for every input' (looked for: loops, veiled, ifaces, maps, wideKeys, modest, calm, conditions, laid).
  DERIVED. THE GIVEN ROWS OF THIS SEAT. 9 by the template 'for every input the law returns true; each argument reads behind the call as it read before'; 0 by the template 'total and deterministic' (their statements: YtgfbinlakfojdaaTotals.lean).
  GIVEN WITH THE SEED: the statements are not yours to turn. If you find one false, say at which input.
  Laid BY PROGRAM, IN A SANDBOX (cutbox-rows.mjs): the forced cells as the released guide's own fill.sh prints them over the translation e1ddbac18646b309… (all of the seat's roots in one cut). By AI agents, Wed Nov 11 2026. No macro, syntax, notation, axiom, sorry.
-/
import Derived.Test.YtgfbinlakfojdaaChecked
import GoSem.Claim
import GoSem.ClaimJoined
import GoSem.ClaimMapViews
import Derived.JoinedTies
import Derived.KernelRfl
namespace Go.Proofs.Ytgfbinlakfojdaa
/- THE CELL 'sum', in the pinned program and in every row, IS THE sha256 OF THE DUMP (.gsa) THAT YtgfbinlakfojdaaProg.lean LOADS. Nothing in Lean hashes anything: it is a label: what it is worth is what the hold of that sum in a sandbox is worth. -/
noncomputable def Try.pinned : Pinned := { name := "ytgfbinlakfojdaa", sum := "e1ddbac18646b309cd192f11e0152f90ed9b96921e10abaaa04f3de16ee59cea", checked := Try.checked }
namespace Rows
def none {H : Type} : Left H := { results := [], args := [] }

/-- 'downspoutlaw01.PathMatchesReference': WHATEVER THE INPUT: true; the input reads as it did. -/
def pathMatchesReferenceSpec : ChangeSpec := { name := "pathMatchesReference", fn := fun _ => fun
  | [d1, d2, d3] => { results := [.lit (.bool true)], args := [d1, d2, d3] }
  | _ => none }
def pathMatchesReferenceRow : OpenClaim := { program := "ytgfbinlakfojdaa", sum := "e1ddbac18646b309cd192f11e0152f90ed9b96921e10abaaa04f3de16ee59cea", func := "downspout/downspoutlaw01.PathMatchesReference", spec := "pathMatchesReference", inPlace := ["internal/bytealg.IndexByteString"], apart := false }
def PathMatchesReferenceSaid : Prop := pathMatchesReferenceRow.holds Try.pinned (OpenSpec.ofChange pathMatchesReferenceSpec)

/-- ITS FALSE NEIGHBOUR: 'it returns false'. Refute it at one input. -/
def pathMatchesReferenceWrong : ChangeSpec := { name := "pathMatchesReference", fn := fun _ => fun
  | [d1, d2, d3] => { results := [.lit (.bool false)], args := [d1, d2, d3] }
  | _ => none }
def PathMatchesReferenceWrongFalsely : Prop := pathMatchesReferenceRow.holds Try.pinned (OpenSpec.ofChange pathMatchesReferenceWrong)

/-- 'downspoutlaw01.PathPlaces': WHATEVER THE INPUT: true; the input reads as it did. -/
def pathPlacesSpec : ChangeSpec := { name := "pathPlaces", fn := fun _ => fun
  | [d1, d2, d3] => { results := [.lit (.bool true)], args := [d1, d2, d3] }
  | _ => none }
def pathPlacesRow : OpenClaim := { program := "ytgfbinlakfojdaa", sum := "e1ddbac18646b309cd192f11e0152f90ed9b96921e10abaaa04f3de16ee59cea", func := "downspout/downspoutlaw01.PathPlaces", spec := "pathPlaces", inPlace := ["internal/bytealg.IndexByteString"], apart := false }
def PathPlacesSaid : Prop := pathPlacesRow.holds Try.pinned (OpenSpec.ofChange pathPlacesSpec)

/-- ITS FALSE NEIGHBOUR: 'it returns false'. Refute it at one input. -/
def pathPlacesWrong : ChangeSpec := { name := "pathPlaces", fn := fun _ => fun
  | [d1, d2, d3] => { results := [.lit (.bool false)], args := [d1, d2, d3] }
  | _ => none }
def PathPlacesWrongFalsely : Prop := pathPlacesRow.holds Try.pinned (OpenSpec.ofChange pathPlacesWrong)

/-- 'downspoutlaw01.PathTyped': WHATEVER THE INPUT: true; the input reads as it did. -/
def pathTypedSpec : ChangeSpec := { name := "pathTyped", fn := fun _ => fun
  | [d1, d2] => { results := [.lit (.bool true)], args := [d1, d2] }
  | _ => none }
def pathTypedRow : OpenClaim := { program := "ytgfbinlakfojdaa", sum := "e1ddbac18646b309cd192f11e0152f90ed9b96921e10abaaa04f3de16ee59cea", func := "downspout/downspoutlaw01.PathTyped", spec := "pathTyped", inPlace := ["internal/bytealg.IndexByteString"], apart := false }
def PathTypedSaid : Prop := pathTypedRow.holds Try.pinned (OpenSpec.ofChange pathTypedSpec)

/-- ITS FALSE NEIGHBOUR: 'it returns false'. Refute it at one input. -/
def pathTypedWrong : ChangeSpec := { name := "pathTyped", fn := fun _ => fun
  | [d1, d2] => { results := [.lit (.bool false)], args := [d1, d2] }
  | _ => none }
def PathTypedWrongFalsely : Prop := pathTypedRow.holds Try.pinned (OpenSpec.ofChange pathTypedWrong)

/-- 'downspoutlaw01.PathJoins': WHATEVER THE INPUT: true; the input reads as it did. -/
def pathJoinsSpec : ChangeSpec := { name := "pathJoins", fn := fun _ => fun
  | [d1, d2] => { results := [.lit (.bool true)], args := [d1, d2] }
  | _ => none }
def pathJoinsRow : OpenClaim := { program := "ytgfbinlakfojdaa", sum := "e1ddbac18646b309cd192f11e0152f90ed9b96921e10abaaa04f3de16ee59cea", func := "downspout/downspoutlaw01.PathJoins", spec := "pathJoins", inPlace := ["internal/bytealg.IndexByteString"], apart := false }
def PathJoinsSaid : Prop := pathJoinsRow.holds Try.pinned (OpenSpec.ofChange pathJoinsSpec)

/-- ITS FALSE NEIGHBOUR: 'it returns false'. Refute it at one input. -/
def pathJoinsWrong : ChangeSpec := { name := "pathJoins", fn := fun _ => fun
  | [d1, d2] => { results := [.lit (.bool false)], args := [d1, d2] }
  | _ => none }
def PathJoinsWrongFalsely : Prop := pathJoinsRow.holds Try.pinned (OpenSpec.ofChange pathJoinsWrong)

/-- 'downspoutlaw01.PathBelow': WHATEVER THE INPUT: true; the input reads as it did. -/
def pathBelowSpec : ChangeSpec := { name := "pathBelow", fn := fun _ => fun
  | [d1, d2] => { results := [.lit (.bool true)], args := [d1, d2] }
  | _ => none }
def pathBelowRow : OpenClaim := { program := "ytgfbinlakfojdaa", sum := "e1ddbac18646b309cd192f11e0152f90ed9b96921e10abaaa04f3de16ee59cea", func := "downspout/downspoutlaw01.PathBelow", spec := "pathBelow", inPlace := ["internal/bytealg.IndexByteString"], apart := false }
def PathBelowSaid : Prop := pathBelowRow.holds Try.pinned (OpenSpec.ofChange pathBelowSpec)

/-- ITS FALSE NEIGHBOUR: 'it returns false'. Refute it at one input. -/
def pathBelowWrong : ChangeSpec := { name := "pathBelow", fn := fun _ => fun
  | [d1, d2] => { results := [.lit (.bool false)], args := [d1, d2] }
  | _ => none }
def PathBelowWrongFalsely : Prop := pathBelowRow.holds Try.pinned (OpenSpec.ofChange pathBelowWrong)

/-- 'downspoutlaw01.PathKeys': WHATEVER THE INPUT: true; the input reads as it did. -/
def pathKeysSpec : ChangeSpec := { name := "pathKeys", fn := fun _ => fun
  | [d1, d2] => { results := [.lit (.bool true)], args := [d1, d2] }
  | _ => none }
def pathKeysRow : OpenClaim := { program := "ytgfbinlakfojdaa", sum := "e1ddbac18646b309cd192f11e0152f90ed9b96921e10abaaa04f3de16ee59cea", func := "downspout/downspoutlaw01.PathKeys", spec := "pathKeys", inPlace := ["internal/bytealg.IndexByteString"], apart := false }
def PathKeysSaid : Prop := pathKeysRow.holds Try.pinned (OpenSpec.ofChange pathKeysSpec)

/-- ITS FALSE NEIGHBOUR: 'it returns false'. Refute it at one input. -/
def pathKeysWrong : ChangeSpec := { name := "pathKeys", fn := fun _ => fun
  | [d1, d2] => { results := [.lit (.bool false)], args := [d1, d2] }
  | _ => none }
def PathKeysWrongFalsely : Prop := pathKeysRow.holds Try.pinned (OpenSpec.ofChange pathKeysWrong)

/-- 'downspoutlaw01.PathOrders': WHATEVER THE INPUT: true; the input reads as it did. -/
def pathOrdersSpec : ChangeSpec := { name := "pathOrders", fn := fun _ => fun
  | [d1, d2, d3] => { results := [.lit (.bool true)], args := [d1, d2, d3] }
  | _ => none }
def pathOrdersRow : OpenClaim := { program := "ytgfbinlakfojdaa", sum := "e1ddbac18646b309cd192f11e0152f90ed9b96921e10abaaa04f3de16ee59cea", func := "downspout/downspoutlaw01.PathOrders", spec := "pathOrders", inPlace := ["internal/bytealg.IndexByteString"], apart := false }
def PathOrdersSaid : Prop := pathOrdersRow.holds Try.pinned (OpenSpec.ofChange pathOrdersSpec)

/-- ITS FALSE NEIGHBOUR: 'it returns false'. Refute it at one input. -/
def pathOrdersWrong : ChangeSpec := { name := "pathOrders", fn := fun _ => fun
  | [d1, d2, d3] => { results := [.lit (.bool false)], args := [d1, d2, d3] }
  | _ => none }
def PathOrdersWrongFalsely : Prop := pathOrdersRow.holds Try.pinned (OpenSpec.ofChange pathOrdersWrong)

/-- 'downspoutlaw01.PathLimits': WHATEVER THE INPUT: true; the input reads as it did. -/
def pathLimitsSpec : ChangeSpec := { name := "pathLimits", fn := fun _ => fun
  | [d1, d2] => { results := [.lit (.bool true)], args := [d1, d2] }
  | _ => none }
def pathLimitsRow : OpenClaim := { program := "ytgfbinlakfojdaa", sum := "e1ddbac18646b309cd192f11e0152f90ed9b96921e10abaaa04f3de16ee59cea", func := "downspout/downspoutlaw01.PathLimits", spec := "pathLimits", inPlace := ["internal/bytealg.IndexByteString"], apart := false }
def PathLimitsSaid : Prop := pathLimitsRow.holds Try.pinned (OpenSpec.ofChange pathLimitsSpec)

/-- ITS FALSE NEIGHBOUR: 'it returns false'. Refute it at one input. -/
def pathLimitsWrong : ChangeSpec := { name := "pathLimits", fn := fun _ => fun
  | [d1, d2] => { results := [.lit (.bool false)], args := [d1, d2] }
  | _ => none }
def PathLimitsWrongFalsely : Prop := pathLimitsRow.holds Try.pinned (OpenSpec.ofChange pathLimitsWrong)

/-- 'downspoutlaw01.PathMoves': WHATEVER THE INPUT: true; the input reads as it did. -/
def pathMovesSpec : ChangeSpec := { name := "pathMoves", fn := fun _ => fun
  | [d1, d2, d3] => { results := [.lit (.bool true)], args := [d1, d2, d3] }
  | _ => none }
def pathMovesRow : OpenClaim := { program := "ytgfbinlakfojdaa", sum := "e1ddbac18646b309cd192f11e0152f90ed9b96921e10abaaa04f3de16ee59cea", func := "downspout/downspoutlaw01.PathMoves", spec := "pathMoves", inPlace := ["internal/bytealg.IndexByteString"], apart := false }
def PathMovesSaid : Prop := pathMovesRow.holds Try.pinned (OpenSpec.ofChange pathMovesSpec)

/-- ITS FALSE NEIGHBOUR: 'it returns false'. Refute it at one input. -/
def pathMovesWrong : ChangeSpec := { name := "pathMoves", fn := fun _ => fun
  | [d1, d2, d3] => { results := [.lit (.bool false)], args := [d1, d2, d3] }
  | _ => none }
def PathMovesWrongFalsely : Prop := pathMovesRow.holds Try.pinned (OpenSpec.ofChange pathMovesWrong)

/- THE SECOND FORM. 'bulk': how many values and letters a reading holds, each counted each time it is reached (what is shared counts as often as it is met; a slice's spare places count too). A statement '..UptoSaid' is the law's where the arguments, and the package variables that the reading takes, are together of bulk at most 1048576: NARROWER than '..Said'. Prove '..Said' where nothing that the law and all that it calls make is longer than what came in: it says more and counts as full. Else prove '..UptoSaid'. A law counts once. -/
mutual
def uptoBulk {H : Type} : DataW H → Nat
  | .lit (.string bytes) => bytes.length + 1
  | .lit _ => 1
  | .nil => 1
  | .ptr d => uptoBulk d + 1
  | .slice elems spare => uptoBulkAll elems + uptoBulkAll spare + 1
  | .agg parts => uptoBulkAll parts + 1
  | .iface _ d => uptoBulk d + 1
  | .map entries => uptoBulkEntries entries + 1
  | .held _ => 1
def uptoBulkAll {H : Type} : List (DataW H) → Nat
  | [] => 0
  | d :: r => uptoBulk d + uptoBulkAll r
def uptoBulkEntries {H : Type} : List (Lit × DataW H) → Nat
  | [] => 0
  | x :: r => uptoBulkEntry x + uptoBulkEntries r
def uptoBulkEntry {H : Type} : Lit × DataW H → Nat
  | (.string bytes, d) => bytes.length + uptoBulk d + 1
  | (_, d) => uptoBulk d + 1
 end
def uptoSmall : (H : Type) → List (DataW H) → Bool := fun _ ds => decide (uptoBulkAll ds ≤ 1048576)
def OpenSpec.upto (s : _root_.Go.ChangeSpec) : _root_.Go.OpenSpec := { _root_.Go.OpenSpec.ofChange s with cond := some uptoSmall }

/-- 'downspoutlaw01.PathMatchesReference', WHERE WHAT IT READS IS OF BULK AT MOST 1048576: true; the input reads as it did. -/
def pathMatchesReferenceUptoRow : OpenClaim := { program := "ytgfbinlakfojdaa", sum := "e1ddbac18646b309cd192f11e0152f90ed9b96921e10abaaa04f3de16ee59cea", func := "downspout/downspoutlaw01.PathMatchesReference", spec := "pathMatchesReference", inPlace := ["internal/bytealg.IndexByteString"], apart := false, narrowed := true }
def PathMatchesReferenceUptoSaid : Prop := pathMatchesReferenceUptoRow.holds Try.pinned (OpenSpec.upto pathMatchesReferenceSpec)

/-- 'downspoutlaw01.PathPlaces', WHERE WHAT IT READS IS OF BULK AT MOST 1048576: true; the input reads as it did. -/
def pathPlacesUptoRow : OpenClaim := { program := "ytgfbinlakfojdaa", sum := "e1ddbac18646b309cd192f11e0152f90ed9b96921e10abaaa04f3de16ee59cea", func := "downspout/downspoutlaw01.PathPlaces", spec := "pathPlaces", inPlace := ["internal/bytealg.IndexByteString"], apart := false, narrowed := true }
def PathPlacesUptoSaid : Prop := pathPlacesUptoRow.holds Try.pinned (OpenSpec.upto pathPlacesSpec)

/-- 'downspoutlaw01.PathTyped', WHERE WHAT IT READS IS OF BULK AT MOST 1048576: true; the input reads as it did. -/
def pathTypedUptoRow : OpenClaim := { program := "ytgfbinlakfojdaa", sum := "e1ddbac18646b309cd192f11e0152f90ed9b96921e10abaaa04f3de16ee59cea", func := "downspout/downspoutlaw01.PathTyped", spec := "pathTyped", inPlace := ["internal/bytealg.IndexByteString"], apart := false, narrowed := true }
def PathTypedUptoSaid : Prop := pathTypedUptoRow.holds Try.pinned (OpenSpec.upto pathTypedSpec)

/-- 'downspoutlaw01.PathJoins', WHERE WHAT IT READS IS OF BULK AT MOST 1048576: true; the input reads as it did. -/
def pathJoinsUptoRow : OpenClaim := { program := "ytgfbinlakfojdaa", sum := "e1ddbac18646b309cd192f11e0152f90ed9b96921e10abaaa04f3de16ee59cea", func := "downspout/downspoutlaw01.PathJoins", spec := "pathJoins", inPlace := ["internal/bytealg.IndexByteString"], apart := false, narrowed := true }
def PathJoinsUptoSaid : Prop := pathJoinsUptoRow.holds Try.pinned (OpenSpec.upto pathJoinsSpec)

/-- 'downspoutlaw01.PathBelow', WHERE WHAT IT READS IS OF BULK AT MOST 1048576: true; the input reads as it did. -/
def pathBelowUptoRow : OpenClaim := { program := "ytgfbinlakfojdaa", sum := "e1ddbac18646b309cd192f11e0152f90ed9b96921e10abaaa04f3de16ee59cea", func := "downspout/downspoutlaw01.PathBelow", spec := "pathBelow", inPlace := ["internal/bytealg.IndexByteString"], apart := false, narrowed := true }
def PathBelowUptoSaid : Prop := pathBelowUptoRow.holds Try.pinned (OpenSpec.upto pathBelowSpec)

/-- 'downspoutlaw01.PathKeys', WHERE WHAT IT READS IS OF BULK AT MOST 1048576: true; the input reads as it did. -/
def pathKeysUptoRow : OpenClaim := { program := "ytgfbinlakfojdaa", sum := "e1ddbac18646b309cd192f11e0152f90ed9b96921e10abaaa04f3de16ee59cea", func := "downspout/downspoutlaw01.PathKeys", spec := "pathKeys", inPlace := ["internal/bytealg.IndexByteString"], apart := false, narrowed := true }
def PathKeysUptoSaid : Prop := pathKeysUptoRow.holds Try.pinned (OpenSpec.upto pathKeysSpec)

/-- 'downspoutlaw01.PathOrders', WHERE WHAT IT READS IS OF BULK AT MOST 1048576: true; the input reads as it did. -/
def pathOrdersUptoRow : OpenClaim := { program := "ytgfbinlakfojdaa", sum := "e1ddbac18646b309cd192f11e0152f90ed9b96921e10abaaa04f3de16ee59cea", func := "downspout/downspoutlaw01.PathOrders", spec := "pathOrders", inPlace := ["internal/bytealg.IndexByteString"], apart := false, narrowed := true }
def PathOrdersUptoSaid : Prop := pathOrdersUptoRow.holds Try.pinned (OpenSpec.upto pathOrdersSpec)

/-- 'downspoutlaw01.PathLimits', WHERE WHAT IT READS IS OF BULK AT MOST 1048576: true; the input reads as it did. -/
def pathLimitsUptoRow : OpenClaim := { program := "ytgfbinlakfojdaa", sum := "e1ddbac18646b309cd192f11e0152f90ed9b96921e10abaaa04f3de16ee59cea", func := "downspout/downspoutlaw01.PathLimits", spec := "pathLimits", inPlace := ["internal/bytealg.IndexByteString"], apart := false, narrowed := true }
def PathLimitsUptoSaid : Prop := pathLimitsUptoRow.holds Try.pinned (OpenSpec.upto pathLimitsSpec)

/-- 'downspoutlaw01.PathMoves', WHERE WHAT IT READS IS OF BULK AT MOST 1048576: true; the input reads as it did. -/
def pathMovesUptoRow : OpenClaim := { program := "ytgfbinlakfojdaa", sum := "e1ddbac18646b309cd192f11e0152f90ed9b96921e10abaaa04f3de16ee59cea", func := "downspout/downspoutlaw01.PathMoves", spec := "pathMoves", inPlace := ["internal/bytealg.IndexByteString"], apart := false, narrowed := true }
def PathMovesUptoSaid : Prop := pathMovesUptoRow.holds Try.pinned (OpenSpec.upto pathMovesSpec)

end Rows
end Go.Proofs.Ytgfbinlakfojdaa
