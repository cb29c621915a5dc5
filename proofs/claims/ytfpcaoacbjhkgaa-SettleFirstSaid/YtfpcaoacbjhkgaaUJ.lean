/-
  Walks: reference 04's Range, and the law's sources.
-/
import Derived.Test.YtfpcaoacbjhkgaaUI
import Derived.Test.YtfpcaoacbjhkgaaGAB
namespace Go.Proofs.Ytfpcaoacbjhkgaa
namespace T4
open Go.RowKit Go.Sort
set_option linter.unusedVariables false
theorem filter_take (f : Pr → Bool) (l : List Pr) (k : Nat) (h : k < l.length) : (l.take (k + 1)).filter f = (l.take k).filter f ++ if f l[k] then [l[k]] else [] := by
  rw [List.take_add_one, List.getElem?_eq_getElem h, List.filter_append]
  simp only [Option.toList, List.filter_cons, List.filter_nil]
end T4

open Go.RowKit Go.Sort
end Go.Proofs.Ytfpcaoacbjhkgaa
