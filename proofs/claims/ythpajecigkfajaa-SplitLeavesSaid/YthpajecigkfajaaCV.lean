/-
  Walks: Covers of package span; what the type of texts is; a row that is kept.
-/
import Derived.Test.YthpajecigkfajaaFR
import Derived.OwnWalk
namespace Go.Proofs.Ythpajecigkfajaa
open Go.RowKit Go.Sort
set_option linter.unusedVariables false
set_option linter.unusedVariables false
theorem infoStr : (Try.prog.info? 9).map (fun i => (i.zero, i.size, i.bytes)) = some (some (.string ⟨#[]⟩), 1, 16) := by kernel_rfl
theorem owns_keep {w w' : World} {base : Nat} {e : TypeId} {size : Nat} {v : Value} {n : Nat} {xs : List Value} (h : w.ownsRow base e size v n xs) (hk : ∀ k, base ≤ k → k < w.heap.size → w'.heap[k]? = w.heap[k]?) : w'.ownsRow base e size v n xs := by
  refine ⟨h.1, ?_⟩
  rcases h.2 with h2 | ⟨g, cap, cur, h2, h3, h4, h5⟩
  · exact .inl h2
  · exact .inr ⟨g, cap, cur, h2, h3, by rw [hk g h3 (by rw [Array.getElem?_eq_some_iff] at h4; exact h4.1)]; exact h4, h5⟩

end Go.Proofs.Ythpajecigkfajaa
