/-
  The walk of the law TableFinds, with the fixed examples.
-/
import Derived.Test.YtbbiobhffelaaaaTLF
import Derived.Test.YtbbiobhffelaaaaTWHm
namespace Go.Proofs.Ytbbiobhffelaaaa
open Go.RowKit Go.Sort

theorem tableFinds_walk (w : World) (v0 : Value) (l : List Rw) (h0 : IsRaws w v0 l) (v1 : Value) (x : Rw) (h1 : IsU8x3 w v1 x) (v2 : Value) (m : Nat) (h2 : IsU8 w v2 m) :
    Calls Try.prog 5 #[v0, v1, v2] w fun e w' => e = .returned (.bool true) ∧ Below w.heap.size w w' := tableFinds_walk0 sanity_w w v0 l h0 v1 x h1 v2 m h2

end Go.Proofs.Ytbbiobhffelaaaa
