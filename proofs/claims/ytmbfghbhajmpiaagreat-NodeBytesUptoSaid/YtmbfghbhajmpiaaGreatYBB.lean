/-
  Walk of the law NodeChecks.
-/
import Derived.Test.YtmbfghbhajmpiaaGreatYBA
namespace Go.Proofs.YtmbfghbhajmpiaaGreat
open Go.RowKit Go.Deep Go.Sort
set_option linter.unusedVariables false

theorem own_emptyB (W : World) (B : Nat) (hB : B ≤ W.heap.size) : OwnB (W.alloc (.cells #[] 5)) B (.slice (some ⟨W.heap.size, 0, none⟩) 0 0) [] :=
  ⟨rfl, .inr ⟨W.heap.size, 0, #[], rfl, hB, Blk.new _ _ _, Nat.le_refl _, by unfold maxLen; omega, rfl, rfl⟩⟩
theorem ownB_form {w : World} {B : Nat} {v : Value} {l : Bs} (h : OwnB w B v l) : ∃ p cap, v = .slice p l.length cap ∧ l.length ≤ cap ∧ cap ≤ maxLen ∧ (0 < l.length → ∃ g, p = some ⟨g, 0, none⟩) := by
  rcases h.2 with ⟨rfl, h0⟩ | ⟨g, cap, cur, rfl, _, _, hn, hm, _⟩
  · rw [h0]; exact ⟨none, 0, rfl, Nat.le_refl _, by unfold maxLen; omega, fun h => absurd h (by omega)⟩
  · exact ⟨_, cap, rfl, hn, hm, fun _ => ⟨g, rfl⟩⟩
theorem ownB_set {w : World} {B g cap : Nat} {l : Bs} (h : OwnB w B (.slice (some ⟨g, 0, none⟩) l.length cap) l) (i : Nat) (c : UInt8) (hB : B ≤ w.heap.size) :
    OwnB (w.setCell ⟨g, i, none⟩ (.int .u8 c.toNat)) B (.slice (some ⟨g, 0, none⟩) l.length cap) (l.set i c) ∧ Below B w (w.setCell ⟨g, i, none⟩ (.int .u8 c.toNat)) := by
  have hg := World.ownsRow.lt h g rfl
  obtain ⟨h1, g1⟩ := World.ownsRow.stored h i (.int .u8 c.toNat)
  refine ⟨?_, Below.grown (Below.refl _ _) g1 hB (fun q hq => by cases hq; exact hg.1)⟩
  unfold OwnB
  rw [List.length_set, List.map_set]
  exact h1
theorem ownB_cell {w : World} {B g cap : Nat} {l : Bs} (h : OwnB w B (.slice (some ⟨g, 0, none⟩) l.length cap) l) (i : Nat) (hi : i < l.length) : w.cell? ⟨g, i, none⟩ = some (.int .u8 (l[i].toNat)) := by
  have hz := h.1
  refine (World.ownsRow.cellAt h i (by rw [Nat.mul_one] at hz; omega)).trans ?_
  simp [hi]
theorem ownB_free {w : World} {B g cap : Nat} {l : Bs} (h : OwnB w B (.slice (some ⟨g, 0, none⟩) l.length cap) l) (i : Nat) : w.frozen? ⟨g, i, none⟩ = false := World.ownsRow.frozenAt h i
end Go.Proofs.YtmbfghbhajmpiaaGreat
