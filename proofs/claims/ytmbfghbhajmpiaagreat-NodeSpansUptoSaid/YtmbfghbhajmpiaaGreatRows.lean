/-
  No cell of these rows narrows 'for every input' (looked for: loops, veiled, ifaces, maps, wideKeys, modest, calm, conditions, laid).
  DERIVED. THE GIVEN ROWS OF THIS SEAT. 9 by the template 'for every input the law returns true; each argument reads behind the call as it read before'; 0 by the template 'total and deterministic' (their statements: YtmbfghbhajmpiaaGreatTotals.lean).
  GIVEN WITH THE SEED: the statements are not yours to turn. If you find one false, say at which input.
  Laid BY PROGRAM, IN A SANDBOX (cutbox-rows.mjs): the forced cells as the released guide's own fill.sh prints them over the translation 979b751239facae7… (all of the seat's roots in one cut). By AI agents, Wed Nov 11 2026. No macro, syntax, notation, axiom, sorry.
-/
import Derived.Test.YtmbfghbhajmpiaaGreatChecked
import GoSem.Claim
import GoSem.ClaimJoined
import GoSem.ClaimMapViews
import Derived.JoinedTies
import Derived.KernelRfl
namespace Go.Proofs.YtmbfghbhajmpiaaGreat
/- THE CELL 'sum', in the pinned program and in every row, IS THE sha256 OF THE DUMP (.gsa) THAT YtmbfghbhajmpiaaGreatProg.lean LOADS. Nothing in Lean hashes anything: it is a label: what it is worth is what the hold of that sum in a sandbox is worth. -/
noncomputable def Tryz.pinned : Pinned := { name := "ytmbfghbhajmpiaagreat", sum := "979b751239facae7722a1c90a04483df373ac27902aa7c1d8764df0084d40dc6", checked := Tryz.checked }
namespace Rows
def none {H : Type} : Left H := { results := [], args := [] }

/-- 'downspoutlaw10.NodeValid': WHATEVER THE INPUT: true; the input reads as it did. -/
def nodeValidSpec : ChangeSpec := { name := "nodeValid", fn := fun _ => fun
  | [d1, d2, d3] => { results := [.lit (.bool true)], args := [d1, d2, d3] }
  | _ => none }
def nodeValidRow : OpenClaim := { program := "ytmbfghbhajmpiaagreat", sum := "979b751239facae7722a1c90a04483df373ac27902aa7c1d8764df0084d40dc6", func := "downspout/downspoutlaw10.NodeValid", spec := "nodeValid", inPlace := ["internal/bytealg.abigen_runtime_cmpstring", "internal/bytealg.IndexByteString"], unfollowed := true, recurses := true, apart := false }
def NodeValidSaid : Prop := nodeValidRow.holds Tryz.pinned (OpenSpec.ofChange nodeValidSpec)

/-- ITS FALSE NEIGHBOUR: 'it returns false'. Refute it at one input. -/
def nodeValidWrong : ChangeSpec := { name := "nodeValid", fn := fun _ => fun
  | [d1, d2, d3] => { results := [.lit (.bool false)], args := [d1, d2, d3] }
  | _ => none }
def NodeValidWrongFalsely : Prop := nodeValidRow.holds Tryz.pinned (OpenSpec.ofChange nodeValidWrong)

/-- 'downspoutlaw10.NodeBytes': WHATEVER THE INPUT: true; the input reads as it did. -/
def nodeBytesSpec : ChangeSpec := { name := "nodeBytes", fn := fun _ => fun
  | [d1, d2, d3] => { results := [.lit (.bool true)], args := [d1, d2, d3] }
  | _ => none }
def nodeBytesRow : OpenClaim := { program := "ytmbfghbhajmpiaagreat", sum := "979b751239facae7722a1c90a04483df373ac27902aa7c1d8764df0084d40dc6", func := "downspout/downspoutlaw10.NodeBytes", spec := "nodeBytes", inPlace := ["internal/bytealg.abigen_runtime_cmpstring", "internal/bytealg.IndexByteString"], unfollowed := true, recurses := true, apart := false }
def NodeBytesSaid : Prop := nodeBytesRow.holds Tryz.pinned (OpenSpec.ofChange nodeBytesSpec)

/-- ITS FALSE NEIGHBOUR: 'it returns false'. Refute it at one input. -/
def nodeBytesWrong : ChangeSpec := { name := "nodeBytes", fn := fun _ => fun
  | [d1, d2, d3] => { results := [.lit (.bool false)], args := [d1, d2, d3] }
  | _ => none }
def NodeBytesWrongFalsely : Prop := nodeBytesRow.holds Tryz.pinned (OpenSpec.ofChange nodeBytesWrong)

/-- 'downspoutlaw10.NodeLengths': WHATEVER THE INPUT: true; the input reads as it did. -/
def nodeLengthsSpec : ChangeSpec := { name := "nodeLengths", fn := fun _ => fun
  | [d1, d2, d3] => { results := [.lit (.bool true)], args := [d1, d2, d3] }
  | _ => none }
def nodeLengthsRow : OpenClaim := { program := "ytmbfghbhajmpiaagreat", sum := "979b751239facae7722a1c90a04483df373ac27902aa7c1d8764df0084d40dc6", func := "downspout/downspoutlaw10.NodeLengths", spec := "nodeLengths", inPlace := ["internal/bytealg.abigen_runtime_cmpstring", "internal/bytealg.IndexByteString"], unfollowed := true, recurses := true, apart := false }
def NodeLengthsSaid : Prop := nodeLengthsRow.holds Tryz.pinned (OpenSpec.ofChange nodeLengthsSpec)

/-- ITS FALSE NEIGHBOUR: 'it returns false'. Refute it at one input. -/
def nodeLengthsWrong : ChangeSpec := { name := "nodeLengths", fn := fun _ => fun
  | [d1, d2, d3] => { results := [.lit (.bool false)], args := [d1, d2, d3] }
  | _ => none }
def NodeLengthsWrongFalsely : Prop := nodeLengthsRow.holds Tryz.pinned (OpenSpec.ofChange nodeLengthsWrong)

/-- 'downspoutlaw10.NodeSums': WHATEVER THE INPUT: true; the input reads as it did. -/
def nodeSumsSpec : ChangeSpec := { name := "nodeSums", fn := fun _ => fun
  | [d1, d2, d3] => { results := [.lit (.bool true)], args := [d1, d2, d3] }
  | _ => none }
def nodeSumsRow : OpenClaim := { program := "ytmbfghbhajmpiaagreat", sum := "979b751239facae7722a1c90a04483df373ac27902aa7c1d8764df0084d40dc6", func := "downspout/downspoutlaw10.NodeSums", spec := "nodeSums", inPlace := ["internal/bytealg.abigen_runtime_cmpstring", "internal/bytealg.IndexByteString"], unfollowed := true, recurses := true, apart := false }
def NodeSumsSaid : Prop := nodeSumsRow.holds Tryz.pinned (OpenSpec.ofChange nodeSumsSpec)

/-- ITS FALSE NEIGHBOUR: 'it returns false'. Refute it at one input. -/
def nodeSumsWrong : ChangeSpec := { name := "nodeSums", fn := fun _ => fun
  | [d1, d2, d3] => { results := [.lit (.bool false)], args := [d1, d2, d3] }
  | _ => none }
def NodeSumsWrongFalsely : Prop := nodeSumsRow.holds Tryz.pinned (OpenSpec.ofChange nodeSumsWrong)

/-- 'downspoutlaw10.NodeSpans': WHATEVER THE INPUT: true; the input reads as it did. -/
def nodeSpansSpec : ChangeSpec := { name := "nodeSpans", fn := fun _ => fun
  | [d1, d2, d3] => { results := [.lit (.bool true)], args := [d1, d2, d3] }
  | _ => none }
def nodeSpansRow : OpenClaim := { program := "ytmbfghbhajmpiaagreat", sum := "979b751239facae7722a1c90a04483df373ac27902aa7c1d8764df0084d40dc6", func := "downspout/downspoutlaw10.NodeSpans", spec := "nodeSpans", inPlace := ["internal/bytealg.abigen_runtime_cmpstring", "internal/bytealg.IndexByteString"], unfollowed := true, recurses := true, apart := false }
def NodeSpansSaid : Prop := nodeSpansRow.holds Tryz.pinned (OpenSpec.ofChange nodeSpansSpec)

/-- ITS FALSE NEIGHBOUR: 'it returns false'. Refute it at one input. -/
def nodeSpansWrong : ChangeSpec := { name := "nodeSpans", fn := fun _ => fun
  | [d1, d2, d3] => { results := [.lit (.bool false)], args := [d1, d2, d3] }
  | _ => none }
def NodeSpansWrongFalsely : Prop := nodeSpansRow.holds Tryz.pinned (OpenSpec.ofChange nodeSpansWrong)

/-- 'downspoutlaw10.NodeChecks': WHATEVER THE INPUT: true; the input reads as it did. -/
def nodeChecksSpec : ChangeSpec := { name := "nodeChecks", fn := fun _ => fun
  | [d1, d2] => { results := [.lit (.bool true)], args := [d1, d2] }
  | _ => none }
def nodeChecksRow : OpenClaim := { program := "ytmbfghbhajmpiaagreat", sum := "979b751239facae7722a1c90a04483df373ac27902aa7c1d8764df0084d40dc6", func := "downspout/downspoutlaw10.NodeChecks", spec := "nodeChecks", inPlace := ["internal/bytealg.abigen_runtime_cmpstring", "internal/bytealg.IndexByteString"], unfollowed := true, recurses := true, apart := false }
def NodeChecksSaid : Prop := nodeChecksRow.holds Tryz.pinned (OpenSpec.ofChange nodeChecksSpec)

/-- ITS FALSE NEIGHBOUR: 'it returns false'. Refute it at one input. -/
def nodeChecksWrong : ChangeSpec := { name := "nodeChecks", fn := fun _ => fun
  | [d1, d2] => { results := [.lit (.bool false)], args := [d1, d2] }
  | _ => none }
def NodeChecksWrongFalsely : Prop := nodeChecksRow.holds Tryz.pinned (OpenSpec.ofChange nodeChecksWrong)

/-- 'downspoutlaw05.MsgValid': WHATEVER THE INPUT: true; the input reads as it did. -/
def msgValidSpec : ChangeSpec := { name := "msgValid", fn := fun _ => fun
  | [d1, d2, d3] => { results := [.lit (.bool true)], args := [d1, d2, d3] }
  | _ => none }
def msgValidRow : OpenClaim := { program := "ytmbfghbhajmpiaagreat", sum := "979b751239facae7722a1c90a04483df373ac27902aa7c1d8764df0084d40dc6", func := "downspout/downspoutlaw05.MsgValid", spec := "msgValid", inPlace := ["internal/bytealg.abigen_runtime_cmpstring"], unfollowed := true, recurses := true, apart := false }
def MsgValidSaid : Prop := msgValidRow.holds Tryz.pinned (OpenSpec.ofChange msgValidSpec)

/-- ITS FALSE NEIGHBOUR: 'it returns false'. Refute it at one input. -/
def msgValidWrong : ChangeSpec := { name := "msgValid", fn := fun _ => fun
  | [d1, d2, d3] => { results := [.lit (.bool false)], args := [d1, d2, d3] }
  | _ => none }
def MsgValidWrongFalsely : Prop := msgValidRow.holds Tryz.pinned (OpenSpec.ofChange msgValidWrong)

/-- 'downspoutlaw05.MsgParses': WHATEVER THE INPUT: true; the input reads as it did. -/
def msgParsesSpec : ChangeSpec := { name := "msgParses", fn := fun _ => fun
  | [d1, d2, d3] => { results := [.lit (.bool true)], args := [d1, d2, d3] }
  | _ => none }
def msgParsesRow : OpenClaim := { program := "ytmbfghbhajmpiaagreat", sum := "979b751239facae7722a1c90a04483df373ac27902aa7c1d8764df0084d40dc6", func := "downspout/downspoutlaw05.MsgParses", spec := "msgParses", inPlace := ["internal/bytealg.abigen_runtime_cmpstring"], unfollowed := true, recurses := true, apart := false }
def MsgParsesSaid : Prop := msgParsesRow.holds Tryz.pinned (OpenSpec.ofChange msgParsesSpec)

/-- ITS FALSE NEIGHBOUR: 'it returns false'. Refute it at one input. -/
def msgParsesWrong : ChangeSpec := { name := "msgParses", fn := fun _ => fun
  | [d1, d2, d3] => { results := [.lit (.bool false)], args := [d1, d2, d3] }
  | _ => none }
def MsgParsesWrongFalsely : Prop := msgParsesRow.holds Tryz.pinned (OpenSpec.ofChange msgParsesWrong)

/-- 'downspoutlaw08.RouteMatchesReference': WHATEVER THE INPUT: true; the input reads as it did. -/
def routeMatchesReferenceSpec : ChangeSpec := { name := "routeMatchesReference", fn := fun _ => fun
  | [d1, d2, d3] => { results := [.lit (.bool true)], args := [d1, d2, d3] }
  | _ => none }
def routeMatchesReferenceRow : OpenClaim := { program := "ytmbfghbhajmpiaagreat", sum := "979b751239facae7722a1c90a04483df373ac27902aa7c1d8764df0084d40dc6", func := "downspout/downspoutlaw08.RouteMatchesReference", spec := "routeMatchesReference", inPlace := ["internal/bytealg.abigen_runtime_cmpstring", "slices.overlaps[downspout/api.Span]"], unfollowed := true, recurses := true, apart := false }
def RouteMatchesReferenceSaid : Prop := routeMatchesReferenceRow.holds Tryz.pinned (OpenSpec.ofChange routeMatchesReferenceSpec)

/-- ITS FALSE NEIGHBOUR: 'it returns false'. Refute it at one input. -/
def routeMatchesReferenceWrong : ChangeSpec := { name := "routeMatchesReference", fn := fun _ => fun
  | [d1, d2, d3] => { results := [.lit (.bool false)], args := [d1, d2, d3] }
  | _ => none }
def RouteMatchesReferenceWrongFalsely : Prop := routeMatchesReferenceRow.holds Tryz.pinned (OpenSpec.ofChange routeMatchesReferenceWrong)

/- THE SECOND FORM. 'bulk': how many values and letters a reading holds, each counted each time it is reached (what is shared counts as often as it is met; a slice's spare places count too). A statement '..UptoSaid' is the law's where the arguments, and the package variables that the reading takes, are together of bulk at most 1048576: NARROWER than '..Said'. Prove '..Said' where nothing that the law and all that it calls make is longer than what came in: it says more and counts as full. Else prove '..UptoSaid'. A law counts once. -/
mutual
def uptoBulk {H : Type} : DataW H → Nat
  | .lit (.string bytes) => bytes.length + 1
  | .lit _ => 1
  | .nil => 1
  | .ptr d => uptoBulk d + 1
  | .slice elems spare => uptoBulkAll elems + uptoBulkAll spare + 1
  | .agg parts => uptoBulkAll parts + 1
  | .iface _ d => uptoBulk d + 1
  | .map entries => uptoBulkEntries entries + 1
  | .held _ => 1
def uptoBulkAll {H : Type} : List (DataW H) → Nat
  | [] => 0
  | d :: r => uptoBulk d + uptoBulkAll r
def uptoBulkEntries {H : Type} : List (Lit × DataW H) → Nat
  | [] => 0
  | x :: r => uptoBulkEntry x + uptoBulkEntries r
def uptoBulkEntry {H : Type} : Lit × DataW H → Nat
  | (.string bytes, d) => bytes.length + uptoBulk d + 1
  | (_, d) => uptoBulk d + 1
 end
def uptoSmall : (H : Type) → List (DataW H) → Bool := fun _ ds => decide (uptoBulkAll ds ≤ 1048576)
def OpenSpec.upto (s : _root_.Go.ChangeSpec) : _root_.Go.OpenSpec := { _root_.Go.OpenSpec.ofChange s with cond := some uptoSmall }

/-- 'downspoutlaw10.NodeValid', WHERE WHAT IT READS IS OF BULK AT MOST 1048576: true; the input reads as it did. -/
def nodeValidUptoRow : OpenClaim := { program := "ytmbfghbhajmpiaagreat", sum := "979b751239facae7722a1c90a04483df373ac27902aa7c1d8764df0084d40dc6", func := "downspout/downspoutlaw10.NodeValid", spec := "nodeValid", inPlace := ["internal/bytealg.abigen_runtime_cmpstring", "internal/bytealg.IndexByteString"], unfollowed := true, recurses := true, apart := false, narrowed := true }
def NodeValidUptoSaid : Prop := nodeValidUptoRow.holds Tryz.pinned (OpenSpec.upto nodeValidSpec)

/-- 'downspoutlaw10.NodeBytes', WHERE WHAT IT READS IS OF BULK AT MOST 1048576: true; the input reads as it did. -/
def nodeBytesUptoRow : OpenClaim := { program := "ytmbfghbhajmpiaagreat", sum := "979b751239facae7722a1c90a04483df373ac27902aa7c1d8764df0084d40dc6", func := "downspout/downspoutlaw10.NodeBytes", spec := "nodeBytes", inPlace := ["internal/bytealg.abigen_runtime_cmpstring", "internal/bytealg.IndexByteString"], unfollowed := true, recurses := true, apart := false, narrowed := true }
def NodeBytesUptoSaid : Prop := nodeBytesUptoRow.holds Tryz.pinned (OpenSpec.upto nodeBytesSpec)

/-- 'downspoutlaw10.NodeLengths', WHERE WHAT IT READS IS OF BULK AT MOST 1048576: true; the input reads as it did. -/
def nodeLengthsUptoRow : OpenClaim := { program := "ytmbfghbhajmpiaagreat", sum := "979b751239facae7722a1c90a04483df373ac27902aa7c1d8764df0084d40dc6", func := "downspout/downspoutlaw10.NodeLengths", spec := "nodeLengths", inPlace := ["internal/bytealg.abigen_runtime_cmpstring", "internal/bytealg.IndexByteString"], unfollowed := true, recurses := true, apart := false, narrowed := true }
def NodeLengthsUptoSaid : Prop := nodeLengthsUptoRow.holds Tryz.pinned (OpenSpec.upto nodeLengthsSpec)

/-- 'downspoutlaw10.NodeSums', WHERE WHAT IT READS IS OF BULK AT MOST 1048576: true; the input reads as it did. -/
def nodeSumsUptoRow : OpenClaim := { program := "ytmbfghbhajmpiaagreat", sum := "979b751239facae7722a1c90a04483df373ac27902aa7c1d8764df0084d40dc6", func := "downspout/downspoutlaw10.NodeSums", spec := "nodeSums", inPlace := ["internal/bytealg.abigen_runtime_cmpstring", "internal/bytealg.IndexByteString"], unfollowed := true, recurses := true, apart := false, narrowed := true }
def NodeSumsUptoSaid : Prop := nodeSumsUptoRow.holds Tryz.pinned (OpenSpec.upto nodeSumsSpec)

/-- 'downspoutlaw10.NodeSpans', WHERE WHAT IT READS IS OF BULK AT MOST 1048576: true; the input reads as it did. -/
def nodeSpansUptoRow : OpenClaim := { program := "ytmbfghbhajmpiaagreat", sum := "979b751239facae7722a1c90a04483df373ac27902aa7c1d8764df0084d40dc6", func := "downspout/downspoutlaw10.NodeSpans", spec := "nodeSpans", inPlace := ["internal/bytealg.abigen_runtime_cmpstring", "internal/bytealg.IndexByteString"], unfollowed := true, recurses := true, apart := false, narrowed := true }
def NodeSpansUptoSaid : Prop := nodeSpansUptoRow.holds Tryz.pinned (OpenSpec.upto nodeSpansSpec)

/-- 'downspoutlaw10.NodeChecks', WHERE WHAT IT READS IS OF BULK AT MOST 1048576: true; the input reads as it did. -/
def nodeChecksUptoRow : OpenClaim := { program := "ytmbfghbhajmpiaagreat", sum := "979b751239facae7722a1c90a04483df373ac27902aa7c1d8764df0084d40dc6", func := "downspout/downspoutlaw10.NodeChecks", spec := "nodeChecks", inPlace := ["internal/bytealg.abigen_runtime_cmpstring", "internal/bytealg.IndexByteString"], unfollowed := true, recurses := true, apart := false, narrowed := true }
def NodeChecksUptoSaid : Prop := nodeChecksUptoRow.holds Tryz.pinned (OpenSpec.upto nodeChecksSpec)

/-- 'downspoutlaw05.MsgValid', WHERE WHAT IT READS IS OF BULK AT MOST 1048576: true; the input reads as it did. -/
def msgValidUptoRow : OpenClaim := { program := "ytmbfghbhajmpiaagreat", sum := "979b751239facae7722a1c90a04483df373ac27902aa7c1d8764df0084d40dc6", func := "downspout/downspoutlaw05.MsgValid", spec := "msgValid", inPlace := ["internal/bytealg.abigen_runtime_cmpstring"], unfollowed := true, recurses := true, apart := false, narrowed := true }
def MsgValidUptoSaid : Prop := msgValidUptoRow.holds Tryz.pinned (OpenSpec.upto msgValidSpec)

/-- 'downspoutlaw05.MsgParses', WHERE WHAT IT READS IS OF BULK AT MOST 1048576: true; the input reads as it did. -/
def msgParsesUptoRow : OpenClaim := { program := "ytmbfghbhajmpiaagreat", sum := "979b751239facae7722a1c90a04483df373ac27902aa7c1d8764df0084d40dc6", func := "downspout/downspoutlaw05.MsgParses", spec := "msgParses", inPlace := ["internal/bytealg.abigen_runtime_cmpstring"], unfollowed := true, recurses := true, apart := false, narrowed := true }
def MsgParsesUptoSaid : Prop := msgParsesUptoRow.holds Tryz.pinned (OpenSpec.upto msgParsesSpec)

/-- 'downspoutlaw08.RouteMatchesReference', WHERE WHAT IT READS IS OF BULK AT MOST 1048576: true; the input reads as it did. -/
def routeMatchesReferenceUptoRow : OpenClaim := { program := "ytmbfghbhajmpiaagreat", sum := "979b751239facae7722a1c90a04483df373ac27902aa7c1d8764df0084d40dc6", func := "downspout/downspoutlaw08.RouteMatchesReference", spec := "routeMatchesReference", inPlace := ["internal/bytealg.abigen_runtime_cmpstring", "slices.overlaps[downspout/api.Span]"], unfollowed := true, recurses := true, apart := false, narrowed := true }
def RouteMatchesReferenceUptoSaid : Prop := routeMatchesReferenceUptoRow.holds Tryz.pinned (OpenSpec.upto routeMatchesReferenceSpec)

end Rows
end Go.Proofs.YtmbfghbhajmpiaaGreat
