/-
  The walk of the law TableUnions, with the fixed examples.
-/
import Derived.Test.YtbbiobhffelaaaaTLU
import Derived.Test.YtbbiobhffelaaaaTWHm
namespace Go.Proofs.Ytbbiobhffelaaaa
open Go.RowKit Go.Sort

theorem tableUnions_walk (w : World) (v0 : Value) (x : (Value × List Rw) × (Value × List Rw) × (Value × List Rw)) (h0 : IsRaw3 w v0 x) :
    Calls Try.prog 8 #[v0] w fun e w' => e = .returned (.bool true) ∧ Below w.heap.size w w' := tableUnions_walk0 sanity_w w v0 x h0

end Go.Proofs.Ytbbiobhffelaaaa
