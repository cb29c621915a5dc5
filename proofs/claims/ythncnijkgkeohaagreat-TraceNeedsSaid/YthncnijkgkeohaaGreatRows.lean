/-
  No cell of these rows narrows 'for every input' (looked for: loops, veiled, ifaces, maps, wideKeys, modest, calm, conditions, laid).
  DERIVED. THE GIVEN ROWS OF THIS SEAT. 6 by the template 'for every input the law returns true; each argument reads behind the call as it read before'; 0 by the template 'total and deterministic' (their statements: YthncnijkgkeohaaGreatTotals.lean).
  GIVEN WITH THE SEED: the statements are not yours to turn. If you find one false, say at which input.
  Laid BY PROGRAM, IN A SANDBOX (cutbox-rows.mjs): the forced cells as the released guide's own fill.sh prints them over the translation cfc600bee9a11b50… (all of the seat's roots in one cut). By AI agents, Wed Nov 11 2026. No macro, syntax, notation, axiom, sorry.
-/
import Derived.Test.YthncnijkgkeohaaGreatChecked
import GoSem.Claim
import GoSem.ClaimJoined
import GoSem.ClaimMapViews
import Derived.JoinedTies
import Derived.KernelRfl
namespace Go.Proofs.YthncnijkgkeohaaGreat
/- THE CELL 'sum', in the pinned program and in every row, IS THE sha256 OF THE DUMP (.gsa) THAT YthncnijkgkeohaaGreatProg.lean LOADS. Nothing in Lean hashes anything: it is a label: what it is worth is what the hold of that sum in a sandbox is worth. -/
noncomputable def Tryz.pinned : Pinned := { name := "ythncnijkgkeohaagreat", sum := "cfc600bee9a11b506117ff3efb0518bb93d4813b5fcb34d1f638ea0d04df67fe", checked := Tryz.checked }
namespace Rows
def none {H : Type} : Left H := { results := [], args := [] }

/-- 'downspoutlaw07.TraceMatchesReference': WHATEVER THE INPUT: true; the input reads as it did. -/
def traceMatchesReferenceSpec : ChangeSpec := { name := "traceMatchesReference", fn := fun _ => fun
  | [d1, d2, d3] => { results := [.lit (.bool true)], args := [d1, d2, d3] }
  | _ => none }
def traceMatchesReferenceRow : OpenClaim := { program := "ythncnijkgkeohaagreat", sum := "cfc600bee9a11b506117ff3efb0518bb93d4813b5fcb34d1f638ea0d04df67fe", func := "downspout/downspoutlaw07.TraceMatchesReference", spec := "traceMatchesReference", inPlace := ["internal/bytealg.abigen_runtime_cmpstring", "slices.overlaps[downspout/api.Span]"], unfollowed := true, recurses := true, apart := false }
def TraceMatchesReferenceSaid : Prop := traceMatchesReferenceRow.holds Tryz.pinned (OpenSpec.ofChange traceMatchesReferenceSpec)

/-- ITS FALSE NEIGHBOUR: 'it returns false'. Refute it at one input. -/
def traceMatchesReferenceWrong : ChangeSpec := { name := "traceMatchesReference", fn := fun _ => fun
  | [d1, d2, d3] => { results := [.lit (.bool false)], args := [d1, d2, d3] }
  | _ => none }
def TraceMatchesReferenceWrongFalsely : Prop := traceMatchesReferenceRow.holds Tryz.pinned (OpenSpec.ofChange traceMatchesReferenceWrong)

/-- 'downspoutlaw07.TraceReads': WHATEVER THE INPUT: true; the input reads as it did. -/
def traceReadsSpec : ChangeSpec := { name := "traceReads", fn := fun _ => fun
  | [d1, d2, d3] => { results := [.lit (.bool true)], args := [d1, d2, d3] }
  | _ => none }
def traceReadsRow : OpenClaim := { program := "ythncnijkgkeohaagreat", sum := "cfc600bee9a11b506117ff3efb0518bb93d4813b5fcb34d1f638ea0d04df67fe", func := "downspout/downspoutlaw07.TraceReads", spec := "traceReads", inPlace := ["internal/bytealg.abigen_runtime_cmpstring", "slices.overlaps[downspout/api.Span]"], unfollowed := true, recurses := true, apart := false }
def TraceReadsSaid : Prop := traceReadsRow.holds Tryz.pinned (OpenSpec.ofChange traceReadsSpec)

/-- ITS FALSE NEIGHBOUR: 'it returns false'. Refute it at one input. -/
def traceReadsWrong : ChangeSpec := { name := "traceReads", fn := fun _ => fun
  | [d1, d2, d3] => { results := [.lit (.bool false)], args := [d1, d2, d3] }
  | _ => none }
def TraceReadsWrongFalsely : Prop := traceReadsRow.holds Tryz.pinned (OpenSpec.ofChange traceReadsWrong)

/-- 'downspoutlaw07.TraceNeeds': WHATEVER THE INPUT: true; the input reads as it did. -/
def traceNeedsSpec : ChangeSpec := { name := "traceNeeds", fn := fun _ => fun
  | [d1, d2, d3] => { results := [.lit (.bool true)], args := [d1, d2, d3] }
  | _ => none }
def traceNeedsRow : OpenClaim := { program := "ythncnijkgkeohaagreat", sum := "cfc600bee9a11b506117ff3efb0518bb93d4813b5fcb34d1f638ea0d04df67fe", func := "downspout/downspoutlaw07.TraceNeeds", spec := "traceNeeds", inPlace := ["internal/bytealg.abigen_runtime_cmpstring", "slices.overlaps[downspout/api.Span]"], unfollowed := true, recurses := true, apart := false }
def TraceNeedsSaid : Prop := traceNeedsRow.holds Tryz.pinned (OpenSpec.ofChange traceNeedsSpec)

/-- ITS FALSE NEIGHBOUR: 'it returns false'. Refute it at one input. -/
def traceNeedsWrong : ChangeSpec := { name := "traceNeeds", fn := fun _ => fun
  | [d1, d2, d3] => { results := [.lit (.bool false)], args := [d1, d2, d3] }
  | _ => none }
def TraceNeedsWrongFalsely : Prop := traceNeedsRow.holds Tryz.pinned (OpenSpec.ofChange traceNeedsWrong)

/-- 'downspoutlaw07.TraceBack': WHATEVER THE INPUT: true; the input reads as it did. -/
def traceBackSpec : ChangeSpec := { name := "traceBack", fn := fun _ => fun
  | [d1, d2] => { results := [.lit (.bool true)], args := [d1, d2] }
  | _ => none }
def traceBackRow : OpenClaim := { program := "ythncnijkgkeohaagreat", sum := "cfc600bee9a11b506117ff3efb0518bb93d4813b5fcb34d1f638ea0d04df67fe", func := "downspout/downspoutlaw07.TraceBack", spec := "traceBack", inPlace := ["internal/bytealg.abigen_runtime_cmpstring", "slices.overlaps[downspout/api.Span]"], unfollowed := true, recurses := true, apart := false }
def TraceBackSaid : Prop := traceBackRow.holds Tryz.pinned (OpenSpec.ofChange traceBackSpec)

/-- ITS FALSE NEIGHBOUR: 'it returns false'. Refute it at one input. -/
def traceBackWrong : ChangeSpec := { name := "traceBack", fn := fun _ => fun
  | [d1, d2] => { results := [.lit (.bool false)], args := [d1, d2] }
  | _ => none }
def TraceBackWrongFalsely : Prop := traceBackRow.holds Tryz.pinned (OpenSpec.ofChange traceBackWrong)

/-- 'downspoutlaw05.MsgValid': WHATEVER THE INPUT: true; the input reads as it did. -/
def msgValidSpec : ChangeSpec := { name := "msgValid", fn := fun _ => fun
  | [d1, d2, d3] => { results := [.lit (.bool true)], args := [d1, d2, d3] }
  | _ => none }
def msgValidRow : OpenClaim := { program := "ythncnijkgkeohaagreat", sum := "cfc600bee9a11b506117ff3efb0518bb93d4813b5fcb34d1f638ea0d04df67fe", func := "downspout/downspoutlaw05.MsgValid", spec := "msgValid", inPlace := ["internal/bytealg.abigen_runtime_cmpstring"], unfollowed := true, recurses := true, apart := false }
def MsgValidSaid : Prop := msgValidRow.holds Tryz.pinned (OpenSpec.ofChange msgValidSpec)

/-- ITS FALSE NEIGHBOUR: 'it returns false'. Refute it at one input. -/
def msgValidWrong : ChangeSpec := { name := "msgValid", fn := fun _ => fun
  | [d1, d2, d3] => { results := [.lit (.bool false)], args := [d1, d2, d3] }
  | _ => none }
def MsgValidWrongFalsely : Prop := msgValidRow.holds Tryz.pinned (OpenSpec.ofChange msgValidWrong)

/-- 'downspoutlaw05.MsgParses': WHATEVER THE INPUT: true; the input reads as it did. -/
def msgParsesSpec : ChangeSpec := { name := "msgParses", fn := fun _ => fun
  | [d1, d2, d3] => { results := [.lit (.bool true)], args := [d1, d2, d3] }
  | _ => none }
def msgParsesRow : OpenClaim := { program := "ythncnijkgkeohaagreat", sum := "cfc600bee9a11b506117ff3efb0518bb93d4813b5fcb34d1f638ea0d04df67fe", func := "downspout/downspoutlaw05.MsgParses", spec := "msgParses", inPlace := ["internal/bytealg.abigen_runtime_cmpstring"], unfollowed := true, recurses := true, apart := false }
def MsgParsesSaid : Prop := msgParsesRow.holds Tryz.pinned (OpenSpec.ofChange msgParsesSpec)

/-- ITS FALSE NEIGHBOUR: 'it returns false'. Refute it at one input. -/
def msgParsesWrong : ChangeSpec := { name := "msgParses", fn := fun _ => fun
  | [d1, d2, d3] => { results := [.lit (.bool false)], args := [d1, d2, d3] }
  | _ => none }
def MsgParsesWrongFalsely : Prop := msgParsesRow.holds Tryz.pinned (OpenSpec.ofChange msgParsesWrong)

/- THE SECOND FORM. 'bulk': how many values and letters a reading holds, each counted each time it is reached (what is shared counts as often as it is met; a slice's spare places count too). A statement '..UptoSaid' is the law's where the arguments, and the package variables that the reading takes, are together of bulk at most 1048576: NARROWER than '..Said'. Prove '..Said' where nothing that the law and all that it calls make is longer than what came in: it says more and counts as full. Else prove '..UptoSaid'. A law counts once. -/
mutual
def uptoBulk {H : Type} : DataW H → Nat
  | .lit (.string bytes) => bytes.length + 1
  | .lit _ => 1
  | .nil => 1
  | .ptr d => uptoBulk d + 1
  | .slice elems spare => uptoBulkAll elems + uptoBulkAll spare + 1
  | .agg parts => uptoBulkAll parts + 1
  | .iface _ d => uptoBulk d + 1
  | .map entries => uptoBulkEntries entries + 1
  | .held _ => 1
def uptoBulkAll {H : Type} : List (DataW H) → Nat
  | [] => 0
  | d :: r => uptoBulk d + uptoBulkAll r
def uptoBulkEntries {H : Type} : List (Lit × DataW H) → Nat
  | [] => 0
  | x :: r => uptoBulkEntry x + uptoBulkEntries r
def uptoBulkEntry {H : Type} : Lit × DataW H → Nat
  | (.string bytes, d) => bytes.length + uptoBulk d + 1
  | (_, d) => uptoBulk d + 1
 end
def uptoSmall : (H : Type) → List (DataW H) → Bool := fun _ ds => decide (uptoBulkAll ds ≤ 1048576)
def OpenSpec.upto (s : _root_.Go.ChangeSpec) : _root_.Go.OpenSpec := { _root_.Go.OpenSpec.ofChange s with cond := some uptoSmall }

/-- 'downspoutlaw07.TraceMatchesReference', WHERE WHAT IT READS IS OF BULK AT MOST 1048576: true; the input reads as it did. -/
def traceMatchesReferenceUptoRow : OpenClaim := { program := "ythncnijkgkeohaagreat", sum := "cfc600bee9a11b506117ff3efb0518bb93d4813b5fcb34d1f638ea0d04df67fe", func := "downspout/downspoutlaw07.TraceMatchesReference", spec := "traceMatchesReference", inPlace := ["internal/bytealg.abigen_runtime_cmpstring", "slices.overlaps[downspout/api.Span]"], unfollowed := true, recurses := true, apart := false, narrowed := true }
def TraceMatchesReferenceUptoSaid : Prop := traceMatchesReferenceUptoRow.holds Tryz.pinned (OpenSpec.upto traceMatchesReferenceSpec)

/-- 'downspoutlaw07.TraceReads', WHERE WHAT IT READS IS OF BULK AT MOST 1048576: true; the input reads as it did. -/
def traceReadsUptoRow : OpenClaim := { program := "ythncnijkgkeohaagreat", sum := "cfc600bee9a11b506117ff3efb0518bb93d4813b5fcb34d1f638ea0d04df67fe", func := "downspout/downspoutlaw07.TraceReads", spec := "traceReads", inPlace := ["internal/bytealg.abigen_runtime_cmpstring", "slices.overlaps[downspout/api.Span]"], unfollowed := true, recurses := true, apart := false, narrowed := true }
def TraceReadsUptoSaid : Prop := traceReadsUptoRow.holds Tryz.pinned (OpenSpec.upto traceReadsSpec)

/-- 'downspoutlaw07.TraceNeeds', WHERE WHAT IT READS IS OF BULK AT MOST 1048576: true; the input reads as it did. -/
def traceNeedsUptoRow : OpenClaim := { program := "ythncnijkgkeohaagreat", sum := "cfc600bee9a11b506117ff3efb0518bb93d4813b5fcb34d1f638ea0d04df67fe", func := "downspout/downspoutlaw07.TraceNeeds", spec := "traceNeeds", inPlace := ["internal/bytealg.abigen_runtime_cmpstring", "slices.overlaps[downspout/api.Span]"], unfollowed := true, recurses := true, apart := false, narrowed := true }
def TraceNeedsUptoSaid : Prop := traceNeedsUptoRow.holds Tryz.pinned (OpenSpec.upto traceNeedsSpec)

/-- 'downspoutlaw07.TraceBack', WHERE WHAT IT READS IS OF BULK AT MOST 1048576: true; the input reads as it did. -/
def traceBackUptoRow : OpenClaim := { program := "ythncnijkgkeohaagreat", sum := "cfc600bee9a11b506117ff3efb0518bb93d4813b5fcb34d1f638ea0d04df67fe", func := "downspout/downspoutlaw07.TraceBack", spec := "traceBack", inPlace := ["internal/bytealg.abigen_runtime_cmpstring", "slices.overlaps[downspout/api.Span]"], unfollowed := true, recurses := true, apart := false, narrowed := true }
def TraceBackUptoSaid : Prop := traceBackUptoRow.holds Tryz.pinned (OpenSpec.upto traceBackSpec)

/-- 'downspoutlaw05.MsgValid', WHERE WHAT IT READS IS OF BULK AT MOST 1048576: true; the input reads as it did. -/
def msgValidUptoRow : OpenClaim := { program := "ythncnijkgkeohaagreat", sum := "cfc600bee9a11b506117ff3efb0518bb93d4813b5fcb34d1f638ea0d04df67fe", func := "downspout/downspoutlaw05.MsgValid", spec := "msgValid", inPlace := ["internal/bytealg.abigen_runtime_cmpstring"], unfollowed := true, recurses := true, apart := false, narrowed := true }
def MsgValidUptoSaid : Prop := msgValidUptoRow.holds Tryz.pinned (OpenSpec.upto msgValidSpec)

/-- 'downspoutlaw05.MsgParses', WHERE WHAT IT READS IS OF BULK AT MOST 1048576: true; the input reads as it did. -/
def msgParsesUptoRow : OpenClaim := { program := "ythncnijkgkeohaagreat", sum := "cfc600bee9a11b506117ff3efb0518bb93d4813b5fcb34d1f638ea0d04df67fe", func := "downspout/downspoutlaw05.MsgParses", spec := "msgParses", inPlace := ["internal/bytealg.abigen_runtime_cmpstring"], unfollowed := true, recurses := true, apart := false, narrowed := true }
def MsgParsesUptoSaid : Prop := msgParsesUptoRow.holds Tryz.pinned (OpenSpec.upto msgParsesSpec)

end Rows
end Go.Proofs.YthncnijkgkeohaaGreat
