/-
  Walk of the law NodeLengths.
-/
import Derived.Test.YtmbfghbhajmpiaaGreatYDE
import Derived.Test.YtmbfghbhajmpiaaGreatYJB
import Derived.Test.YtmbfghbhajmpiaaGreatYBB
namespace Go.Proofs.YtmbfghbhajmpiaaGreat
open Go.RowKit Go.Deep Go.Sort
set_option linter.unusedVariables false

theorem made_is {w : World} {B : Nat} {v : Value} {n : Nd} (h : OwnMade w B v n) : IsNode w v n := by
  obtain ⟨a, b, c, d, e, rfl, h, -⟩ := h
  exact h
theorem node_slices {w : World} {v : Value} {n : Nd} (h : IsNode w v n) : ∃ p0 n0 c0 p1 n1 c1 p2 n2 c2 p3 n3 c3 p4 n4 c4, v = .agg #[.slice p0 n0 c0, .slice p1 n1 c1, .slice p2 n2 c2, .slice p3 n3 c3, .slice p4 n4 c4] := by
  obtain ⟨a, b, c, d, e, rfl, ⟨p0, c0, rfl, -⟩, ⟨p1, c1, rfl, -⟩, ⟨p2, c2, rfl, -⟩, ⟨p3, c3, rfl, -⟩, ⟨p4, c4, rfl, -⟩⟩ := h
  exact ⟨_, _, _, _, _, _, _, _, _, _, _, _, _, _, _, rfl⟩
end Go.Proofs.YtmbfghbhajmpiaaGreat
