/-
  Contracts of the generic library functions that the walks use, laid at this program by the shelf.
-/
import Derived.Shelf.SlSorted.Search
import Derived.Shelf.SlicesE.Clone
import Derived.Shelf.Spec.SlicesGrow
import Derived.Test.YtfpcaoacbjhkgaaProg
namespace Go.Proofs
open Go.Shelf
def Try.searchL_ren : Go.Shelf.Ren := ⟨fun | 16 => 32 | n => n, fun | 3 => 3 | 35 => 66 | 4 => 4 | 38 => 82 | n => n, fun | n => n⟩
theorem Try.searchL : Go.Proofs.SlLaysO.n16 Try.prog Try.searchL_ren := {
  mixed := by kernel_rfl
  f16 := Try.func32.trans (congrArg some (by kernel_rfl))
  t3 := Try.underlying3
  a3 := Try.isAgg3
  z3 := Try.sizeOf3
  v3 := Try.zeroValue3
  t4 := Try.underlying4
  a4 := Try.isAgg4
  z4 := Try.sizeOf4
  v4 := Try.zeroValue4
  t35 := Try.underlying66
  a35 := Try.isAgg66
  z35 := Try.sizeOf66
  v35 := Try.zeroValue66
  t38 := Try.underlying82
  a38 := Try.isAgg82
  z38 := Try.sizeOf82
  v38 := Try.zeroValue82 }
end Go.Proofs
