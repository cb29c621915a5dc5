/-
  The walk of the law SpanMeets.
-/
import Derived.Test.YtenhjpopdmiekaaZWA
import Derived.Test.YtenhjpopdmiekaaZWN
import Derived.Test.YtenhjpopdmiekaaZF
namespace Go.Proofs.Ytenhjpopdmiekaa
open Go.RowKit Go.Sort
set_option linter.unusedVariables false

theorem shortB_two {a b : Sp} (h : shortB [a, b] 2 = true) : a.1.length ≤ 30 ∧ a.2.length ≤ 30 ∧ b.1.length ≤ 30 ∧ b.2.length ≤ 30 := by
  simp [shortB] at h
  omega
theorem meet_len {a b : Sp} (ha : a.1.length ≤ 30 ∧ a.2.length ≤ 30) (hb : b.1.length ≤ 30 ∧ b.2.length ≤ 30) : (meetS a b).1.length ≤ 30 ∧ (meetS a b).2.length ≤ 30 := by
  have e1 : (if ltP (keyP a.1) (keyP b.1) then b.1 else a.1).length ≤ 30 := by split <;> omega
  have e2 : (if ltP (hiP b.2) (hiP a.2) then b.2 else a.2).length ≤ 30 := by split <;> omega
  by_cases he : emptyB (if ltP (keyP a.1) (keyP b.1) then b.1 else a.1, if ltP (hiP b.2) (hiP a.2) then b.2 else a.2) = true
  · have : meetS a b = noneS := by unfold meetS; simp only; rw [if_pos he]
    rw [this]; decide
  · have : meetS a b = (if ltP (keyP a.1) (keyP b.1) then b.1 else a.1, if ltP (hiP b.2) (hiP a.2) then b.2 else a.2) := by unfold meetS; simp only; rw [if_neg he]
    rw [this]; exact ⟨e1, e2⟩
theorem Blk.two {w : World} {b : Nat} {T : TypeId} {x0 x1 : Value} (h : Blk w b T #[x0, x1]) : w.cell? ⟨b, 0, none⟩ = some x0 ∧ w.cell? ⟨b, 1, none⟩ = some x1 := ⟨h.c0 0 _ rfl, h.c0 1 _ rfl⟩
theorem Blk.twoG {w : World} {b : Nat} {T : TypeId} {x0 x1 : Value} (h : Blk w b T #[x0, x1]) : (∀ n os, (grow (w.drewN n) os).cell? ⟨b, 0, none⟩ = some x0) ∧ (∀ n os, (grow (w.drewN n) os).cell? ⟨b, 1, none⟩ = some x1) := ⟨h.c 0 _ rfl, h.c 1 _ rfl⟩
/-- Keys that are read in any world of the class. -/
theorem keysG {w wr : World} {v : Value} {ks : List Bs} (h : IsStrs w v ks) (hg : Below w.heap.size w wr) : ∃ g o cap p, v = .slice p ks.length cap ∧ ks.length ≤ cap ∧ cap ≤ maxLen ∧ ∀ i (hi : i < ks.length), p = some ⟨g, o, none⟩ ∧ ∀ n os, (grow (wr.drewN n) os).cell? ⟨g, o + i, none⟩ = some (.string (Str ks[i])) := by
  obtain ⟨g, o, cap, p, h1, h2, h3, h4, h5⟩ := h.form
  refine ⟨g, o, cap, p, h1, h2, h3, fun i hi => ⟨(h5 i hi).1, fun n os => ?_⟩⟩
  have hgl := (h4 (by rintro rfl; simp at hi)).2
  exact cell_grown (by exact Nat.lt_of_lt_of_le hgl hg.size) ((hg.cell (p := ⟨g, o + i, none⟩) (by exact hgl)).trans (h5 i hi).2) n os

end Go.Proofs.Ytenhjpopdmiekaa
