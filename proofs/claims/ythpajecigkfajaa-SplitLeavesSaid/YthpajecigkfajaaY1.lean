/-
  Nodes: lists of numbers and of bounds in memory, and what lies at a place of a list. Walks: every of package node, at each type of elements; a function is handed over, and called for each element in turn. Walks: whether a list is a table, by the program and by the reference.
-/
import Derived.Test.YthpajecigkfajaaMDH
import Derived.Test.YthpajecigkfajaaKQ
import Derived.Laws.EntriesVeiled
import Derived.IntWalk
namespace Go.Proofs.Ythpajecigkfajaa
open Go.RowKit Go.Sort
set_option linter.unusedVariables false

/-- Bounds: of inodes, of bytes. -/
abbrev Rg := Int × Int
abbrev Sm := Rg × Rg
@[reducible] def smV (s : Sm) : Value := .agg #[.int .i64 s.1.1, .int .i64 s.1.2, .int .i64 s.2.1, .int .i64 s.2.2]
/-- A node. -/
structure Nd where
  pairs : List Pr
  pivots : List Bs
  kids : List Int
  sums : List Sm
  buf : List Ms

/-- A slice of numbers, of bounds. -/
def IsInts (w : World) (v : Value) (l : List Int) : Prop :=
  ∃ a cap, v = .slice a l.length cap ∧ l.length ≤ cap ∧ cap ≤ maxLen ∧ (l ≠ [] → ∃ b off, a = some ⟨b, off, none⟩ ∧ b < w.heap.size ∧ ∀ i (h : i < l.length), w.cell? ⟨b, off + i, none⟩ = some (.int .i64 l[i]))
def SAt (w : World) (b o : Nat) (s : Sm) : Prop :=
  w.cell? ⟨b, o, none⟩ = some (.int .i64 s.1.1) ∧ w.cell? ⟨b, o + 1, none⟩ = some (.int .i64 s.1.2) ∧ w.cell? ⟨b, o + 2, none⟩ = some (.int .i64 s.2.1) ∧ w.cell? ⟨b, o + 3, none⟩ = some (.int .i64 s.2.2)
def IsSums (w : World) (v : Value) (l : List Sm) : Prop :=
  ∃ a cap, v = .slice a l.length cap ∧ l.length ≤ cap ∧ cap ≤ maxLen ∧ (l ≠ [] → ∃ b off, a = some ⟨b, off, none⟩ ∧ b < w.heap.size ∧ ∀ i (h : i < l.length), SAt w b (off + i * 4) l[i])
theorem IsInts.below {w w' : World} {v : Value} {l : List Int} (h : IsInts w v l) (hb : Below w.heap.size w w') : IsInts w' v l := by
  obtain ⟨a, cap, h1, h2, h3, h4⟩ := h
  refine ⟨a, cap, h1, h2, h3, fun hl => ?_⟩
  obtain ⟨b, off, e, hlt, hc⟩ := h4 hl
  exact ⟨b, off, e, Nat.lt_of_lt_of_le hlt hb.size, fun i hi => by rw [hb.cell (by exact hlt)]; exact hc i hi⟩
theorem IsSums.below {w w' : World} {v : Value} {l : List Sm} (h : IsSums w v l) (hb : Below w.heap.size w w') : IsSums w' v l := by
  obtain ⟨a, cap, h1, h2, h3, h4⟩ := h
  refine ⟨a, cap, h1, h2, h3, fun hl => ?_⟩
  obtain ⟨b, off, e, hlt, hc⟩ := h4 hl
  exact ⟨b, off, e, Nat.lt_of_lt_of_le hlt hb.size, fun i hi => ⟨by rw [hb.cell (by exact hlt)]; exact (hc i hi).1, by rw [hb.cell (by exact hlt)]; exact (hc i hi).2.1, by rw [hb.cell (by exact hlt)]; exact (hc i hi).2.2.1, by rw [hb.cell (by exact hlt)]; exact (hc i hi).2.2.2⟩⟩

theorem at_str {w : World} {v : Value} {l : List Bs} (h : IsStrs w v l) (i : Nat) (hi : i < l.length) : ∃ b off cap, v = .slice (some ⟨b, off, none⟩) l.length cap ∧ b < w.heap.size ∧ (l.length : Int) ≤ 9223372036854775807 ∧
    w.cell? ⟨b, off + i, none⟩ = some (.string (Str l[i])) := by
  obtain ⟨a, cap, rfl, h1, h2, h3⟩ := h
  obtain ⟨b, off, rfl, h4, h5⟩ := h3 (by rintro rfl; simp at hi)
  unfold maxLen at h2
  exact ⟨b, off, cap, rfl, h4, by omega, h5 i hi⟩
theorem at_int {w : World} {v : Value} {l : List Int} (h : IsInts w v l) (i : Nat) (hi : i < l.length) : ∃ b off cap, v = .slice (some ⟨b, off, none⟩) l.length cap ∧ b < w.heap.size ∧ (l.length : Int) ≤ 9223372036854775807 ∧
    w.cell? ⟨b, off + i, none⟩ = some (.int .i64 l[i]) := by
  obtain ⟨a, cap, rfl, h1, h2, h3⟩ := h
  obtain ⟨b, off, rfl, h4, h5⟩ := h3 (by rintro rfl; simp at hi)
  unfold maxLen at h2
  exact ⟨b, off, cap, rfl, h4, by omega, h5 i hi⟩
theorem at_span {w : World} {v : Value} {l : List Sp} (h : IsSpans w v l) (i : Nat) (hi : i < l.length) : ∃ b off cap, v = .slice (some ⟨b, off, none⟩) l.length cap ∧ b < w.heap.size ∧ (l.length : Int) ≤ 9223372036854775807 ∧
    w.cell? ⟨b, off + i * 2, none⟩ = some (.string (Str l[i].1)) ∧ w.cell? ⟨b, off + i * 2 + 1, none⟩ = some (.string (Str l[i].2)) := by
  obtain ⟨a, cap, rfl, h1, h2, h3⟩ := h
  obtain ⟨b, off, rfl, h4, h5⟩ := h3 (by rintro rfl; simp at hi)
  unfold maxLen at h2
  exact ⟨b, off, cap, rfl, h4, by omega, h5 i hi⟩
theorem at_sum {w : World} {v : Value} {l : List Sm} (h : IsSums w v l) (i : Nat) (hi : i < l.length) : ∃ b off cap, v = .slice (some ⟨b, off, none⟩) l.length cap ∧ b < w.heap.size ∧ (l.length : Int) ≤ 9223372036854775807 ∧
    SAt w b (off + i * 4) l[i] := by
  obtain ⟨a, cap, rfl, h1, h2, h3⟩ := h
  obtain ⟨b, off, rfl, h4, h5⟩ := h3 (by rintro rfl; simp at hi)
  unfold maxLen at h2
  exact ⟨b, off, cap, rfl, h4, by omega, h5 i hi⟩
theorem at_msg {w : World} {v : Value} {l : List Ms} (h : IsMsgs w v l) (i : Nat) (hi : i < l.length) : ∃ b off cap, v = .slice (some ⟨b, off, none⟩) l.length cap ∧ b < w.heap.size ∧ (l.length : Int) ≤ 9223372036854775807 ∧
    MAt w b (off + i * 8) l[i] := by
  obtain ⟨a, cap, rfl, h1, h2, h3⟩ := h
  obtain ⟨b, off, rfl, h4, h5⟩ := h3 (by rintro rfl; simp at hi)
  unfold maxLen at h2
  exact ⟨b, off, cap, rfl, h4, by omega, h5 i hi⟩

/-- A node in memory. -/
def IsNode (w : World) (v : Value) (n : Nd) : Prop :=
  ∃ a b c d e, v = .agg #[a, b, c, d, e] ∧ IsPairs w a n.pairs ∧ IsStrs w b n.pivots ∧ IsInts w c n.kids ∧ IsSums w d n.sums ∧ IsMsgs w e n.buf
theorem IsNode.below {w w' : World} {v : Value} {n : Nd} (h : IsNode w v n) (hb : Below w.heap.size w w') : IsNode w' v n := by
  obtain ⟨a, b, c, d, e, h0, h1, h2, h3, h4, h5⟩ := h
  exact ⟨a, b, c, d, e, h0, h1.below hb, h2.below hb, h3.below hb, h4.below hb, h5.below hb⟩

end Go.Proofs.Ythpajecigkfajaa
namespace Go.Proofs.Ythpajecigkfajaa
open Go.RowKit Go.Sort
set_option linter.unusedVariables false

theorem keepG {W wx wy : World} (h : Grown W wx) (k : Grown wx wy) : Grown W wy := h.trans k

end Go.Proofs.Ythpajecigkfajaa
namespace Go.Proofs.Ythpajecigkfajaa
open Go.RowKit Go.Sort
set_option linter.unusedVariables false

end Go.Proofs.Ythpajecigkfajaa
