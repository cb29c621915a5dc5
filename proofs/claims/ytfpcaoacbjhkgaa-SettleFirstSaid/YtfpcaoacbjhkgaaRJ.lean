/-
  Walks: slices.Replace at rows of spans.
-/
import Derived.Test.YtfpcaoacbjhkgaaRI
namespace Go.Proofs.Ytfpcaoacbjhkgaa
open Go.RowKit Go.Sort
set_option linter.unusedVariables false

theorem own_src {w : World} {base c : Nat} {p : Option Addr} {m : List Sp} (h : w.ownsRow base 32 2 (.slice p m.length c) m.length (m.flatMap encS)) (hp : 0 < (m.flatMap encS).length) : ∃ ad, p = some ad ∧ ∀ j x, (m.flatMap encS)[j]? = some x → w.cell? (ad.add j) = some x := by
  rw [flatS_len] at hp
  obtain ⟨p', c', e, _, _, hp'⟩ := own_form h
  injection e with e1 e2 e3
  subst e1
  obtain ⟨gu, rfl⟩ := hp' (by omega)
  exact ⟨_, rfl, h.cells (g := gu) rfl⟩
theorem own_other {w w' : World} {base g : Nat} {v : Value} {n : Nat} {xs : List Value} (h : w.ownsRow base 32 2 v n xs) (ho : ∀ b, b ≠ g → w'.heap[b]? = w.heap[b]?) (hsep : g < base) : w'.ownsRow base 32 2 v n xs := by
  refine ⟨h.1, ?_⟩
  rcases h.2 with h0 | ⟨g', cap, cur, h1, h2, h3, h4⟩
  · exact .inl h0
  · exact .inr ⟨g', cap, cur, h1, h2, (ho g' (by omega)).trans h3, h4⟩
theorem zeroSp : ∀ w : World, (zeroValue 32).run Try.prog w = .ok (.agg #[.string ⟨#[]⟩, .string ⟨#[]⟩]) w := by
  obtain ⟨i0, hi, hz0, hz1, hz2⟩ := info_parts infoS
  intro w
  simp [zeroValue, typeInfo, hi, hz0]
theorem splice_take {α : Type} {L cs : List α} {off : Nat} (h : off ≤ L.length) : (splice L off cs).take off = L.take off := by
  unfold splice
  rw [List.take_left' (by rw [List.length_take]; omega)]
end Go.Proofs.Ytfpcaoacbjhkgaa
