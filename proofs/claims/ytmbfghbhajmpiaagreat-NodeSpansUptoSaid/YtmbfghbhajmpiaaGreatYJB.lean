/-
  Plain: what is read of bytes, of their beginnings, and of more bytes. No program. Plain: how long the bytes of nodes are; nodes with few bytes are small. No program.
-/
import Derived.Test.YtmbfghbhajmpiaaGreatY6
import Derived.Test.YtmbfghbhajmpiaaGreatYDA
namespace Go.Proofs.YtmbfghbhajmpiaaGreat
set_option linter.unusedVariables false

end Go.Proofs.YtmbfghbhajmpiaaGreat
namespace Go.Proofs.YtmbfghbhajmpiaaGreat
set_option linter.unusedVariables false

end Go.Proofs.YtmbfghbhajmpiaaGreat
