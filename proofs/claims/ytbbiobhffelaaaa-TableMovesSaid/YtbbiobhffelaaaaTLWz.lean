/-
  The walk of the law TableMoves, with the fixed examples.
-/
import Derived.Test.YtbbiobhffelaaaaTLW
import Derived.Test.YtbbiobhffelaaaaTWHm
namespace Go.Proofs.Ytbbiobhffelaaaa
open Go.RowKit Go.Sort

theorem tableMoves_walk (w : World) (v0 : Value) (l : List Rw) (h0 : IsRaws w v0 l) (v1 : Value) (n : Nat) (h1 : IsU8 w v1 n) (v2 : Value) (tx : Bs) (h2 : IsStr w v2 tx) :
    Calls Try.prog 9 #[v0, v1, v2] w fun e w' => e = .returned (.bool true) ∧ Below w.heap.size w w' := tableMoves_walk0 sanity_w w v0 l h0 v1 n h1 v2 tx h2

end Go.Proofs.Ytbbiobhffelaaaa
