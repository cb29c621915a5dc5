/-
  Walk of the law NodeChecks.
-/
import Derived.Test.YtmbfghbhajmpiaaGreatYBA
namespace Go.Proofs.YtmbfghbhajmpiaaGreat
open Go.RowKit Go.Deep Go.Sort
set_option linter.unusedVariables false

end Go.Proofs.YtmbfghbhajmpiaaGreat
