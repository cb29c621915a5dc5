/-
  Walks of reference 05: what Valid says of right messages of the kinds 1, 2, 3 and 6.
-/
import Derived.Test.YtfpcaoacbjhkgaaUG
namespace Go.Proofs.Ytfpcaoacbjhkgaa
open Go.RowKit Go.Sort
set_option linter.unusedVariables false

theorem keepGU {W wx wy : World} (h : Below W.heap.size W wx) (g : Grown wx wy) : Below W.heap.size W wy := h.trans (g.below h.size)
end Go.Proofs.Ytfpcaoacbjhkgaa
