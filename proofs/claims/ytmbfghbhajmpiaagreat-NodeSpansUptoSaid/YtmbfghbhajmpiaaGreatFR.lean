/-
  Plain functions: what the reference's Norm and Minus of spans compute, dead keys, folding. Walks: append of spans, the reference's insertion of a span, its Norm and its Minus.
-/
import Derived.Test.YtmbfghbhajmpiaaGreatPL
import Derived.Test.YtmbfghbhajmpiaaGreatMRR
import Derived.Test.YtmbfghbhajmpiaaGreatKB
import Derived.Test.YtmbfghbhajmpiaaGreatMFG
import Derived.Laws.OwnMore
import Derived.Deep.RegionLawGrows
import Derived.Deep.CutRange
namespace Go.Proofs.YtmbfghbhajmpiaaGreat
set_option linter.unusedVariables false
open Go.RowKit Go.Sort
theorem infoS : (Tryz.prog.info? 41).map (fun i => (i.zero, i.size, i.bytes)) = some (some (.agg #[.string ⟨#[]⟩, .string ⟨#[]⟩]), 2, 32) := by kernel_rfl
theorem flatS_one (l : List Sp) : ∀ u ∈ l.flatMap encS, u.oneCell' = true := by
  intro u hu
  obtain ⟨x, _, hx⟩ := List.mem_flatMap.1 hu
  simp [encS] at hx
  rcases hx with rfl | rfl <;> rfl
theorem IsSpans.lit (w : World) (a : Option Addr) : IsSpans w (.slice a 0 0) [] := ⟨a, 0, rfl, Nat.le_refl _, by unfold maxLen; omega, fun h => absurd rfl h⟩
end Go.Proofs.YtmbfghbhajmpiaaGreat
