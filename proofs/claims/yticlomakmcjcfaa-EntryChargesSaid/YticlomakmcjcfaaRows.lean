/-
  No cell of these rows narrows 'for every input' (looked for: loops, veiled, ifaces, maps, wideKeys, modest, calm, conditions, laid).
  DERIVED. THE GIVEN ROWS OF THIS SEAT. 11 by the template 'for every input the law returns true; each argument reads behind the call as it read before'; 0 by the template 'total and deterministic' (their statements: YticlomakmcjcfaaTotals.lean).
  GIVEN WITH THE SEED: the statements are not yours to turn. If you find one false, say at which input.
  Laid BY PROGRAM, IN A SANDBOX (cutbox-rows.mjs): the forced cells as the released guide's own fill.sh prints them over the translation 070d0d367a829313… (all of the seat's roots in one cut). By AI agents, Wed Nov 11 2026. No macro, syntax, notation, axiom, sorry.
-/
import Derived.Test.YticlomakmcjcfaaChecked
import GoSem.Claim
import GoSem.ClaimJoined
import GoSem.ClaimMapViews
import Derived.JoinedTies
import Derived.KernelRfl
namespace Go.Proofs.Yticlomakmcjcfaa
/- THE CELL 'sum', in the pinned program and in every row, IS THE sha256 OF THE DUMP (.gsa) THAT YticlomakmcjcfaaProg.lean LOADS. Nothing in Lean hashes anything: it is a label: what it is worth is what the hold of that sum in a sandbox is worth. -/
noncomputable def Try.pinned : Pinned := { name := "yticlomakmcjcfaa", sum := "070d0d367a829313787a23c996c006129206c4db8f82bb0d6a0fd813dc8a5029", checked := Try.checked }
namespace Rows
def none {H : Type} : Left H := { results := [], args := [] }

/-- 'downspoutlaw01.PathMatchesReference': WHATEVER THE INPUT: true; the input reads as it did. -/
def pathMatchesReferenceSpec : ChangeSpec := { name := "pathMatchesReference", fn := fun _ => fun
  | [d1, d2, d3] => { results := [.lit (.bool true)], args := [d1, d2, d3] }
  | _ => none }
def pathMatchesReferenceRow : OpenClaim := { program := "yticlomakmcjcfaa", sum := "070d0d367a829313787a23c996c006129206c4db8f82bb0d6a0fd813dc8a5029", func := "downspout/downspoutlaw01.PathMatchesReference", spec := "pathMatchesReference", inPlace := ["internal/bytealg.IndexByteString"], apart := false }
def PathMatchesReferenceSaid : Prop := pathMatchesReferenceRow.holds Try.pinned (OpenSpec.ofChange pathMatchesReferenceSpec)

/-- ITS FALSE NEIGHBOUR: 'it returns false'. Refute it at one input. -/
def pathMatchesReferenceWrong : ChangeSpec := { name := "pathMatchesReference", fn := fun _ => fun
  | [d1, d2, d3] => { results := [.lit (.bool false)], args := [d1, d2, d3] }
  | _ => none }
def PathMatchesReferenceWrongFalsely : Prop := pathMatchesReferenceRow.holds Try.pinned (OpenSpec.ofChange pathMatchesReferenceWrong)

/-- 'downspoutlaw01.PathPlaces': WHATEVER THE INPUT: true; the input reads as it did. -/
def pathPlacesSpec : ChangeSpec := { name := "pathPlaces", fn := fun _ => fun
  | [d1, d2, d3] => { results := [.lit (.bool true)], args := [d1, d2, d3] }
  | _ => none }
def pathPlacesRow : OpenClaim := { program := "yticlomakmcjcfaa", sum := "070d0d367a829313787a23c996c006129206c4db8f82bb0d6a0fd813dc8a5029", func := "downspout/downspoutlaw01.PathPlaces", spec := "pathPlaces", inPlace := ["internal/bytealg.IndexByteString"], apart := false }
def PathPlacesSaid : Prop := pathPlacesRow.holds Try.pinned (OpenSpec.ofChange pathPlacesSpec)

/-- ITS FALSE NEIGHBOUR: 'it returns false'. Refute it at one input. -/
def pathPlacesWrong : ChangeSpec := { name := "pathPlaces", fn := fun _ => fun
  | [d1, d2, d3] => { results := [.lit (.bool false)], args := [d1, d2, d3] }
  | _ => none }
def PathPlacesWrongFalsely : Prop := pathPlacesRow.holds Try.pinned (OpenSpec.ofChange pathPlacesWrong)

/-- 'downspoutlaw01.PathKeys': WHATEVER THE INPUT: true; the input reads as it did. -/
def pathKeysSpec : ChangeSpec := { name := "pathKeys", fn := fun _ => fun
  | [d1, d2] => { results := [.lit (.bool true)], args := [d1, d2] }
  | _ => none }
def pathKeysRow : OpenClaim := { program := "yticlomakmcjcfaa", sum := "070d0d367a829313787a23c996c006129206c4db8f82bb0d6a0fd813dc8a5029", func := "downspout/downspoutlaw01.PathKeys", spec := "pathKeys", inPlace := ["internal/bytealg.IndexByteString"], apart := false }
def PathKeysSaid : Prop := pathKeysRow.holds Try.pinned (OpenSpec.ofChange pathKeysSpec)

/-- ITS FALSE NEIGHBOUR: 'it returns false'. Refute it at one input. -/
def pathKeysWrong : ChangeSpec := { name := "pathKeys", fn := fun _ => fun
  | [d1, d2] => { results := [.lit (.bool false)], args := [d1, d2] }
  | _ => none }
def PathKeysWrongFalsely : Prop := pathKeysRow.holds Try.pinned (OpenSpec.ofChange pathKeysWrong)

/-- 'downspoutlaw01.PathOrders': WHATEVER THE INPUT: true; the input reads as it did. -/
def pathOrdersSpec : ChangeSpec := { name := "pathOrders", fn := fun _ => fun
  | [d1, d2, d3] => { results := [.lit (.bool true)], args := [d1, d2, d3] }
  | _ => none }
def pathOrdersRow : OpenClaim := { program := "yticlomakmcjcfaa", sum := "070d0d367a829313787a23c996c006129206c4db8f82bb0d6a0fd813dc8a5029", func := "downspout/downspoutlaw01.PathOrders", spec := "pathOrders", inPlace := ["internal/bytealg.IndexByteString"], apart := false }
def PathOrdersSaid : Prop := pathOrdersRow.holds Try.pinned (OpenSpec.ofChange pathOrdersSpec)

/-- ITS FALSE NEIGHBOUR: 'it returns false'. Refute it at one input. -/
def pathOrdersWrong : ChangeSpec := { name := "pathOrders", fn := fun _ => fun
  | [d1, d2, d3] => { results := [.lit (.bool false)], args := [d1, d2, d3] }
  | _ => none }
def PathOrdersWrongFalsely : Prop := pathOrdersRow.holds Try.pinned (OpenSpec.ofChange pathOrdersWrong)

/-- 'downspoutlaw01.PathMoves': WHATEVER THE INPUT: true; the input reads as it did. -/
def pathMovesSpec : ChangeSpec := { name := "pathMoves", fn := fun _ => fun
  | [d1, d2, d3] => { results := [.lit (.bool true)], args := [d1, d2, d3] }
  | _ => none }
def pathMovesRow : OpenClaim := { program := "yticlomakmcjcfaa", sum := "070d0d367a829313787a23c996c006129206c4db8f82bb0d6a0fd813dc8a5029", func := "downspout/downspoutlaw01.PathMoves", spec := "pathMoves", inPlace := ["internal/bytealg.IndexByteString"], apart := false }
def PathMovesSaid : Prop := pathMovesRow.holds Try.pinned (OpenSpec.ofChange pathMovesSpec)

/-- ITS FALSE NEIGHBOUR: 'it returns false'. Refute it at one input. -/
def pathMovesWrong : ChangeSpec := { name := "pathMoves", fn := fun _ => fun
  | [d1, d2, d3] => { results := [.lit (.bool false)], args := [d1, d2, d3] }
  | _ => none }
def PathMovesWrongFalsely : Prop := pathMovesRow.holds Try.pinned (OpenSpec.ofChange pathMovesWrong)

/-- 'downspoutlaw02.SpanMatchesReference': WHATEVER THE INPUT: true; the input reads as it did. -/
def spanMatchesReferenceSpec : ChangeSpec := { name := "spanMatchesReference", fn := fun _ => fun
  | [d1, d2, d3] => { results := [.lit (.bool true)], args := [d1, d2, d3] }
  | _ => none }
def spanMatchesReferenceRow : OpenClaim := { program := "yticlomakmcjcfaa", sum := "070d0d367a829313787a23c996c006129206c4db8f82bb0d6a0fd813dc8a5029", func := "downspout/downspoutlaw02.SpanMatchesReference", spec := "spanMatchesReference", inPlace := ["internal/bytealg.abigen_runtime_cmpstring"], unfollowed := true, recurses := true, apart := false }
def SpanMatchesReferenceSaid : Prop := spanMatchesReferenceRow.holds Try.pinned (OpenSpec.ofChange spanMatchesReferenceSpec)

/-- ITS FALSE NEIGHBOUR: 'it returns false'. Refute it at one input. -/
def spanMatchesReferenceWrong : ChangeSpec := { name := "spanMatchesReference", fn := fun _ => fun
  | [d1, d2, d3] => { results := [.lit (.bool false)], args := [d1, d2, d3] }
  | _ => none }
def SpanMatchesReferenceWrongFalsely : Prop := spanMatchesReferenceRow.holds Try.pinned (OpenSpec.ofChange spanMatchesReferenceWrong)

/-- 'downspoutlaw03.EntryMatchesReference': WHATEVER THE INPUT: true; the input reads as it did. -/
def entryMatchesReferenceSpec : ChangeSpec := { name := "entryMatchesReference", fn := fun _ => fun
  | [d1, d2, d3] => { results := [.lit (.bool true)], args := [d1, d2, d3] }
  | _ => none }
def entryMatchesReferenceRow : OpenClaim := { program := "yticlomakmcjcfaa", sum := "070d0d367a829313787a23c996c006129206c4db8f82bb0d6a0fd813dc8a5029", func := "downspout/downspoutlaw03.EntryMatchesReference", spec := "entryMatchesReference", inPlace := ["internal/bytealg.IndexByteString"], unfollowed := true, recurses := true, apart := false }
def EntryMatchesReferenceSaid : Prop := entryMatchesReferenceRow.holds Try.pinned (OpenSpec.ofChange entryMatchesReferenceSpec)

/-- ITS FALSE NEIGHBOUR: 'it returns false'. Refute it at one input. -/
def entryMatchesReferenceWrong : ChangeSpec := { name := "entryMatchesReference", fn := fun _ => fun
  | [d1, d2, d3] => { results := [.lit (.bool false)], args := [d1, d2, d3] }
  | _ => none }
def EntryMatchesReferenceWrongFalsely : Prop := entryMatchesReferenceRow.holds Try.pinned (OpenSpec.ofChange entryMatchesReferenceWrong)

/-- 'downspoutlaw03.EntryCharges': WHATEVER THE INPUT: true; the input reads as it did. -/
def entryChargesSpec : ChangeSpec := { name := "entryCharges", fn := fun _ => fun
  | [d1, d2, d3] => { results := [.lit (.bool true)], args := [d1, d2, d3] }
  | _ => none }
def entryChargesRow : OpenClaim := { program := "yticlomakmcjcfaa", sum := "070d0d367a829313787a23c996c006129206c4db8f82bb0d6a0fd813dc8a5029", func := "downspout/downspoutlaw03.EntryCharges", spec := "entryCharges", inPlace := ["internal/bytealg.IndexByteString"], unfollowed := true, recurses := true, apart := false }
def EntryChargesSaid : Prop := entryChargesRow.holds Try.pinned (OpenSpec.ofChange entryChargesSpec)

/-- ITS FALSE NEIGHBOUR: 'it returns false'. Refute it at one input. -/
def entryChargesWrong : ChangeSpec := { name := "entryCharges", fn := fun _ => fun
  | [d1, d2, d3] => { results := [.lit (.bool false)], args := [d1, d2, d3] }
  | _ => none }
def EntryChargesWrongFalsely : Prop := entryChargesRow.holds Try.pinned (OpenSpec.ofChange entryChargesWrong)

/-- 'downspoutlaw04.TableMatchesReference': WHATEVER THE INPUT: true; the input reads as it did. -/
def tableMatchesReferenceSpec : ChangeSpec := { name := "tableMatchesReference", fn := fun _ => fun
  | [d1, d2, d3] => { results := [.lit (.bool true)], args := [d1, d2, d3] }
  | _ => none }
def tableMatchesReferenceRow : OpenClaim := { program := "yticlomakmcjcfaa", sum := "070d0d367a829313787a23c996c006129206c4db8f82bb0d6a0fd813dc8a5029", func := "downspout/downspoutlaw04.TableMatchesReference", spec := "tableMatchesReference", inPlace := ["internal/bytealg.abigen_runtime_cmpstring"], unfollowed := true, recurses := true, apart := false }
def TableMatchesReferenceSaid : Prop := tableMatchesReferenceRow.holds Try.pinned (OpenSpec.ofChange tableMatchesReferenceSpec)

/-- ITS FALSE NEIGHBOUR: 'it returns false'. Refute it at one input. -/
def tableMatchesReferenceWrong : ChangeSpec := { name := "tableMatchesReference", fn := fun _ => fun
  | [d1, d2, d3] => { results := [.lit (.bool false)], args := [d1, d2, d3] }
  | _ => none }
def TableMatchesReferenceWrongFalsely : Prop := tableMatchesReferenceRow.holds Try.pinned (OpenSpec.ofChange tableMatchesReferenceWrong)

/-- 'downspoutlaw04.TableOrders': WHATEVER THE INPUT: true; the input reads as it did. -/
def tableOrdersSpec : ChangeSpec := { name := "tableOrders", fn := fun _ => fun
  | [d1, d2, d3] => { results := [.lit (.bool true)], args := [d1, d2, d3] }
  | _ => none }
def tableOrdersRow : OpenClaim := { program := "yticlomakmcjcfaa", sum := "070d0d367a829313787a23c996c006129206c4db8f82bb0d6a0fd813dc8a5029", func := "downspout/downspoutlaw04.TableOrders", spec := "tableOrders", inPlace := ["internal/bytealg.abigen_runtime_cmpstring"], unfollowed := true, recurses := true, apart := false }
def TableOrdersSaid : Prop := tableOrdersRow.holds Try.pinned (OpenSpec.ofChange tableOrdersSpec)

/-- ITS FALSE NEIGHBOUR: 'it returns false'. Refute it at one input. -/
def tableOrdersWrong : ChangeSpec := { name := "tableOrders", fn := fun _ => fun
  | [d1, d2, d3] => { results := [.lit (.bool false)], args := [d1, d2, d3] }
  | _ => none }
def TableOrdersWrongFalsely : Prop := tableOrdersRow.holds Try.pinned (OpenSpec.ofChange tableOrdersWrong)

/-- 'downspoutlaw04.TableSpans': WHATEVER THE INPUT: true; the input reads as it did. -/
def tableSpansSpec : ChangeSpec := { name := "tableSpans", fn := fun _ => fun
  | [d1, d2, d3] => { results := [.lit (.bool true)], args := [d1, d2, d3] }
  | _ => none }
def tableSpansRow : OpenClaim := { program := "yticlomakmcjcfaa", sum := "070d0d367a829313787a23c996c006129206c4db8f82bb0d6a0fd813dc8a5029", func := "downspout/downspoutlaw04.TableSpans", spec := "tableSpans", inPlace := ["internal/bytealg.abigen_runtime_cmpstring"], unfollowed := true, recurses := true, apart := false }
def TableSpansSaid : Prop := tableSpansRow.holds Try.pinned (OpenSpec.ofChange tableSpansSpec)

/-- ITS FALSE NEIGHBOUR: 'it returns false'. Refute it at one input. -/
def tableSpansWrong : ChangeSpec := { name := "tableSpans", fn := fun _ => fun
  | [d1, d2, d3] => { results := [.lit (.bool false)], args := [d1, d2, d3] }
  | _ => none }
def TableSpansWrongFalsely : Prop := tableSpansRow.holds Try.pinned (OpenSpec.ofChange tableSpansWrong)

/- THE SECOND FORM. 'bulk': how many values and letters a reading holds, each counted each time it is reached (what is shared counts as often as it is met; a slice's spare places count too). A statement '..UptoSaid' is the law's where the arguments, and the package variables that the reading takes, are together of bulk at most 1048576: NARROWER than '..Said'. Prove '..Said' where nothing that the law and all that it calls make is longer than what came in: it says more and counts as full. Else prove '..UptoSaid'. A law counts once. -/
mutual
def uptoBulk {H : Type} : DataW H → Nat
  | .lit (.string bytes) => bytes.length + 1
  | .lit _ => 1
  | .nil => 1
  | .ptr d => uptoBulk d + 1
  | .slice elems spare => uptoBulkAll elems + uptoBulkAll spare + 1
  | .agg parts => uptoBulkAll parts + 1
  | .iface _ d => uptoBulk d + 1
  | .map entries => uptoBulkEntries entries + 1
  | .held _ => 1
def uptoBulkAll {H : Type} : List (DataW H) → Nat
  | [] => 0
  | d :: r => uptoBulk d + uptoBulkAll r
def uptoBulkEntries {H : Type} : List (Lit × DataW H) → Nat
  | [] => 0
  | x :: r => uptoBulkEntry x + uptoBulkEntries r
def uptoBulkEntry {H : Type} : Lit × DataW H → Nat
  | (.string bytes, d) => bytes.length + uptoBulk d + 1
  | (_, d) => uptoBulk d + 1
 end
def uptoSmall : (H : Type) → List (DataW H) → Bool := fun _ ds => decide (uptoBulkAll ds ≤ 1048576)
def OpenSpec.upto (s : _root_.Go.ChangeSpec) : _root_.Go.OpenSpec := { _root_.Go.OpenSpec.ofChange s with cond := some uptoSmall }

/-- 'downspoutlaw01.PathMatchesReference', WHERE WHAT IT READS IS OF BULK AT MOST 1048576: true; the input reads as it did. -/
def pathMatchesReferenceUptoRow : OpenClaim := { program := "yticlomakmcjcfaa", sum := "070d0d367a829313787a23c996c006129206c4db8f82bb0d6a0fd813dc8a5029", func := "downspout/downspoutlaw01.PathMatchesReference", spec := "pathMatchesReference", inPlace := ["internal/bytealg.IndexByteString"], apart := false, narrowed := true }
def PathMatchesReferenceUptoSaid : Prop := pathMatchesReferenceUptoRow.holds Try.pinned (OpenSpec.upto pathMatchesReferenceSpec)

/-- 'downspoutlaw01.PathPlaces', WHERE WHAT IT READS IS OF BULK AT MOST 1048576: true; the input reads as it did. -/
def pathPlacesUptoRow : OpenClaim := { program := "yticlomakmcjcfaa", sum := "070d0d367a829313787a23c996c006129206c4db8f82bb0d6a0fd813dc8a5029", func := "downspout/downspoutlaw01.PathPlaces", spec := "pathPlaces", inPlace := ["internal/bytealg.IndexByteString"], apart := false, narrowed := true }
def PathPlacesUptoSaid : Prop := pathPlacesUptoRow.holds Try.pinned (OpenSpec.upto pathPlacesSpec)

/-- 'downspoutlaw01.PathKeys', WHERE WHAT IT READS IS OF BULK AT MOST 1048576: true; the input reads as it did. -/
def pathKeysUptoRow : OpenClaim := { program := "yticlomakmcjcfaa", sum := "070d0d367a829313787a23c996c006129206c4db8f82bb0d6a0fd813dc8a5029", func := "downspout/downspoutlaw01.PathKeys", spec := "pathKeys", inPlace := ["internal/bytealg.IndexByteString"], apart := false, narrowed := true }
def PathKeysUptoSaid : Prop := pathKeysUptoRow.holds Try.pinned (OpenSpec.upto pathKeysSpec)

/-- 'downspoutlaw01.PathOrders', WHERE WHAT IT READS IS OF BULK AT MOST 1048576: true; the input reads as it did. -/
def pathOrdersUptoRow : OpenClaim := { program := "yticlomakmcjcfaa", sum := "070d0d367a829313787a23c996c006129206c4db8f82bb0d6a0fd813dc8a5029", func := "downspout/downspoutlaw01.PathOrders", spec := "pathOrders", inPlace := ["internal/bytealg.IndexByteString"], apart := false, narrowed := true }
def PathOrdersUptoSaid : Prop := pathOrdersUptoRow.holds Try.pinned (OpenSpec.upto pathOrdersSpec)

/-- 'downspoutlaw01.PathMoves', WHERE WHAT IT READS IS OF BULK AT MOST 1048576: true; the input reads as it did. -/
def pathMovesUptoRow : OpenClaim := { program := "yticlomakmcjcfaa", sum := "070d0d367a829313787a23c996c006129206c4db8f82bb0d6a0fd813dc8a5029", func := "downspout/downspoutlaw01.PathMoves", spec := "pathMoves", inPlace := ["internal/bytealg.IndexByteString"], apart := false, narrowed := true }
def PathMovesUptoSaid : Prop := pathMovesUptoRow.holds Try.pinned (OpenSpec.upto pathMovesSpec)

/-- 'downspoutlaw02.SpanMatchesReference', WHERE WHAT IT READS IS OF BULK AT MOST 1048576: true; the input reads as it did. -/
def spanMatchesReferenceUptoRow : OpenClaim := { program := "yticlomakmcjcfaa", sum := "070d0d367a829313787a23c996c006129206c4db8f82bb0d6a0fd813dc8a5029", func := "downspout/downspoutlaw02.SpanMatchesReference", spec := "spanMatchesReference", inPlace := ["internal/bytealg.abigen_runtime_cmpstring"], unfollowed := true, recurses := true, apart := false, narrowed := true }
def SpanMatchesReferenceUptoSaid : Prop := spanMatchesReferenceUptoRow.holds Try.pinned (OpenSpec.upto spanMatchesReferenceSpec)

/-- 'downspoutlaw03.EntryMatchesReference', WHERE WHAT IT READS IS OF BULK AT MOST 1048576: true; the input reads as it did. -/
def entryMatchesReferenceUptoRow : OpenClaim := { program := "yticlomakmcjcfaa", sum := "070d0d367a829313787a23c996c006129206c4db8f82bb0d6a0fd813dc8a5029", func := "downspout/downspoutlaw03.EntryMatchesReference", spec := "entryMatchesReference", inPlace := ["internal/bytealg.IndexByteString"], unfollowed := true, recurses := true, apart := false, narrowed := true }
def EntryMatchesReferenceUptoSaid : Prop := entryMatchesReferenceUptoRow.holds Try.pinned (OpenSpec.upto entryMatchesReferenceSpec)

/-- 'downspoutlaw03.EntryCharges', WHERE WHAT IT READS IS OF BULK AT MOST 1048576: true; the input reads as it did. -/
def entryChargesUptoRow : OpenClaim := { program := "yticlomakmcjcfaa", sum := "070d0d367a829313787a23c996c006129206c4db8f82bb0d6a0fd813dc8a5029", func := "downspout/downspoutlaw03.EntryCharges", spec := "entryCharges", inPlace := ["internal/bytealg.IndexByteString"], unfollowed := true, recurses := true, apart := false, narrowed := true }
def EntryChargesUptoSaid : Prop := entryChargesUptoRow.holds Try.pinned (OpenSpec.upto entryChargesSpec)

/-- 'downspoutlaw04.TableMatchesReference', WHERE WHAT IT READS IS OF BULK AT MOST 1048576: true; the input reads as it did. -/
def tableMatchesReferenceUptoRow : OpenClaim := { program := "yticlomakmcjcfaa", sum := "070d0d367a829313787a23c996c006129206c4db8f82bb0d6a0fd813dc8a5029", func := "downspout/downspoutlaw04.TableMatchesReference", spec := "tableMatchesReference", inPlace := ["internal/bytealg.abigen_runtime_cmpstring"], unfollowed := true, recurses := true, apart := false, narrowed := true }
def TableMatchesReferenceUptoSaid : Prop := tableMatchesReferenceUptoRow.holds Try.pinned (OpenSpec.upto tableMatchesReferenceSpec)

/-- 'downspoutlaw04.TableOrders', WHERE WHAT IT READS IS OF BULK AT MOST 1048576: true; the input reads as it did. -/
def tableOrdersUptoRow : OpenClaim := { program := "yticlomakmcjcfaa", sum := "070d0d367a829313787a23c996c006129206c4db8f82bb0d6a0fd813dc8a5029", func := "downspout/downspoutlaw04.TableOrders", spec := "tableOrders", inPlace := ["internal/bytealg.abigen_runtime_cmpstring"], unfollowed := true, recurses := true, apart := false, narrowed := true }
def TableOrdersUptoSaid : Prop := tableOrdersUptoRow.holds Try.pinned (OpenSpec.upto tableOrdersSpec)

/-- 'downspoutlaw04.TableSpans', WHERE WHAT IT READS IS OF BULK AT MOST 1048576: true; the input reads as it did. -/
def tableSpansUptoRow : OpenClaim := { program := "yticlomakmcjcfaa", sum := "070d0d367a829313787a23c996c006129206c4db8f82bb0d6a0fd813dc8a5029", func := "downspout/downspoutlaw04.TableSpans", spec := "tableSpans", inPlace := ["internal/bytealg.abigen_runtime_cmpstring"], unfollowed := true, recurses := true, apart := false, narrowed := true }
def TableSpansUptoSaid : Prop := tableSpansUptoRow.holds Try.pinned (OpenSpec.upto tableSpansSpec)

end Rows
end Go.Proofs.Yticlomakmcjcfaa
