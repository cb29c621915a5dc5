/-
  The walk of the law TableValid, with the fixed examples.
-/
import Derived.Test.YtbbiobhffelaaaaTLV
import Derived.Test.YtbbiobhffelaaaaTWHm
namespace Go.Proofs.Ytbbiobhffelaaaa
open Go.RowKit Go.Sort

theorem tableValid_walk (w : World) (v0 : Value) (raw : List Pr) (h0 : IsPairs w v0 raw) (v1 : Value) (l : List Rw) (h1 : IsRaws w v1 l) (v2 : Value) (x : Rw) (h2 : IsU8x3 w v2 x) :
    Calls Try.prog 4 #[v0, v1, v2] w fun e w' => e = .returned (.bool true) ∧ Below w.heap.size w w' := tableValid_walk0 sanity_w w v0 raw h0 v1 l h1 v2 x h2

end Go.Proofs.Ytbbiobhffelaaaa
