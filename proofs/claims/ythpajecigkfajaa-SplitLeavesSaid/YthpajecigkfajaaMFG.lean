/-
  Walks: what messages read, write and kill. Walks: Reads, Writes and Kills, whatever the kind; Free.
-/
import Derived.Test.YthpajecigkfajaaMAC
import Derived.Test.YthpajecigkfajaaMRR
namespace Go.Proofs.Ythpajecigkfajaa
open Go.RowKit Go.Sort
set_option linter.unusedVariables false

/-- A list of spans handed back. -/
def SpOut (w : World) (l : List Sp) (e : Ending) (w' : World) : Prop := ∃ v', e = .returned v' ∧ IsSpans w' v' l ∧ Grown w w'
theorem IsSpans.nil (w : World) (c : Nat) (hc : c ≤ maxLen) : IsSpans w (.slice none 0 c) [] := ⟨none, c, rfl, Nat.zero_le _, hc, fun h => absurd rfl h⟩
theorem one_spans {w : World} {n : Nat} (s : Sp) (T : TypeId) (hn : n = w.heap.size) : IsSpans (w.alloc (.cells #[.string (Str s.1), .string (Str s.2)] T)) (.slice (some ⟨n, 0, none⟩) 1 1) [s] := by
  subst hn
  refine ⟨_, 1, rfl, Nat.le_refl _, by unfold maxLen; omega, fun _ => ⟨w.heap.size, 0, rfl, by simp, fun i hi => ?_⟩⟩
  obtain rfl : i = 0 := by simpa using hi
  exact ⟨(Blk.new w T #[.string (Str s.1), .string (Str s.2)]).c0 0 _ rfl, (Blk.new w T #[.string (Str s.1), .string (Str s.2)]).c0 1 _ rfl⟩
theorem two_spans {w : World} {n : Nat} (s t : Sp) (T : TypeId) (hn : n = w.heap.size) : IsSpans (w.alloc (.cells #[.string (Str s.1), .string (Str s.2), .string (Str t.1), .string (Str t.2)] T)) (.slice (some ⟨n, 0, none⟩) 2 2) [s, t] := by
  subst hn
  have B := Blk.new w T #[.string (Str s.1), .string (Str s.2), .string (Str t.1), .string (Str t.2)]
  refine ⟨_, 2, rfl, Nat.le_refl _, by unfold maxLen; omega, fun _ => ⟨w.heap.size, 0, rfl, by simp, fun i hi => ?_⟩⟩
  have : i = 0 ∨ i = 1 := by simp at hi; omega
  rcases this with rfl | rfl
  · exact ⟨B.c0 0 _ rfl, B.c0 1 _ rfl⟩
  · exact ⟨B.c0 2 _ rfl, B.c0 3 _ rfl⟩
theorem SpOut.grown {w w0 : World} {l : List Sp} {e : Ending} {w' : World} (h : SpOut w l e w') (hg : Grown w0 w) : SpOut w0 l e w' := by
  obtain ⟨v', h1, h2, h3⟩ := h; exact ⟨v', h1, h2, hg.trans h3⟩

/-- What was there stays, and more is there. -/
structure SG (w wx : World) : Prop where
  g : Grown w wx
theorem SG.step {w wx wy : World} (h : SG w wx) (hg : Grown wx wy) : SG w wy := ⟨h.g.trans hg⟩
theorem SG.drew {w wx : World} (h : SG w wx) : SG w wx.drew := ⟨h.g.draw⟩
theorem SG.refl (w : World) : SG w w := ⟨Grown.refl _⟩
end Go.Proofs.Ythpajecigkfajaa
namespace Go.Proofs.Ythpajecigkfajaa
open Go.RowKit Go.Sort
set_option linter.unusedVariables false

/-- The texts of a message are no longer than memory may be. -/
def SizeM (m : Ms) : Prop := m.key.length ≤ 1000000000 ∧ m.val.length ≤ 1000000000 ∧ m.lo.length ≤ 1000000000 ∧ m.hi.length ≤ 1000000000 ∧ m.src.length ≤ 1000000000 ∧ m.dst.length ≤ 1000000000
theorem SpOut.none (w : World) : SpOut w [] (.returned (.slice none 0 0)) w := ⟨_, rfl, IsSpans.nil _ 0 (by unfold maxLen; omega), Grown.refl _⟩
end Go.Proofs.Ythpajecigkfajaa
