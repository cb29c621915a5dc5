/-
  The fixed examples: what they are.
-/
import Derived.Test.YthpajecigkfajaaAI
namespace Go.Proofs.Ythpajecigkfajaa
open Go.RowKit Go.Sort
set_option linter.unusedVariables false
set_option maxRecDepth 100000

theorem lit_row {α : Type} {en : α → List Value} {k : Nat} (hen : ∀ x, (en x).length = k) {w : World} {n : Nat} {T : TypeId} (l : List α) (hn : n = w.heap.size) (hl : l.length ≤ 1000000) : IsRow 0 en k (w.alloc (.cells (l.flatMap en).toArray T)) (.slice (some ⟨n, 0, none⟩) l.length l.length) l := by
  obtain ⟨a, cap, e, hc⟩ := lit_any hen (w := w) (n := n) (T := T) l hn
  injection e with e1 e2 e3
  refine ⟨_, l.length, rfl, Nat.le_refl _, by unfold maxLen; omega, fun hne => ?_⟩
  obtain ⟨b, off, e4, hcell⟩ := hc hne
  rw [← e1] at e4
  injection e4 with e4
  injection e4 with e5 e6
  subst hn
  exact ⟨w.heap.size, 0, rfl, Nat.zero_le _, by simp, fun i hi j u hu => by have := hcell i hi j u hu; rw [← e5, ← e6] at this; exact this⟩
/-- The table of the fixed examples. -/
def tabP (i : Nat) : Pr := ([UInt8.ofNat (97 + i)], [], 0)
def tab7 : List Pr := (List.range 7).map tabP
theorem tab7_short : ∀ x ∈ tab7, x.1.length ≤ maxLen ∧ x.2.1.length ≤ maxLen := by
  intro x hx
  have h : x.1.length ≤ 1 ∧ x.2.1.length ≤ 1 := by revert x; decide
  unfold maxLen; omega
theorem pairs_cut {w : World} {b o n c : Nat} {l : List Pr} (h : IsPairs w (.slice (some ⟨b, o, none⟩) n c) l) (lo hi : Nat) (h1 : lo < hi) (h2 : hi ≤ l.length) : IsPairs w (.slice (some ⟨b, o + lo * 3, none⟩) (hi - lo) (c - lo)) ((l.take hi).drop lo) := by
  have hc : n ≤ c ∧ n = l.length := by
    obtain ⟨a, cap, e, e2, -⟩ := h
    injection e with e3 e4 e5
    subst e4 e5
    exact ⟨e2, rfl⟩
  have := h.sliced lo hi (by omega) h2
  have hadd : (⟨b, o, none⟩ : Addr).add (lo * 3) = ⟨b, o + lo * 3, none⟩ := by unfold Addr.add; split <;> simp_all
  unfold sliced at this
  rw [if_neg (by omega)] at this
  simpa [hadd] using this
theorem pairs_take13 {w : World} {b o n c : Nat} {l : List Pr} (h : IsPairs w (.slice (some ⟨b, o, none⟩) n c) l) (hi : Nat) (h1 : 0 < hi) (h2 : hi ≤ l.length) : IsPairs w (.slice (some ⟨b, o, none⟩) hi c) (l.take hi) := by
  have := pairs_cut h 0 hi h1 h2
  simpa using this
def zeroSm : Sm := ((0, 0), (0, 0))
theorem made_sm (n : Nat) (h : n = 5 ∨ n = 2) : (madeCells (Value.agg #[.int .i64 0, .int .i64 0, .int .i64 0, .int .i64 0]).cells (n * 4)).toList = (List.replicate n zeroSm).flatMap encSm := by
  have hc : (Value.agg #[.int .i64 0, .int .i64 0, .int .i64 0, .int .i64 0]).cells = #[.int .i64 0, .int .i64 0, .int .i64 0, .int .i64 0] := rfl
  rw [hc]
  unfold madeCells
  rw [Array.toList_map, Array.toList_range]
  rcases h with rfl | rfl <;> rfl
theorem made5_sums {w : World} {base g n : Nat} (hn : n = 5 ∨ n = 2) (h : w.ownsRow base 72 4 (.slice (some ⟨g, 0, none⟩) n n) n (madeCells (Value.agg #[.int .i64 0, .int .i64 0, .int .i64 0, .int .i64 0]).cells (n * 4)).toList) : IsSums w (.slice (some ⟨g, 0, none⟩) n n) (List.replicate n zeroSm) := by
  rw [made_sm n hn] at h
  exact IsSums.owned h
def delK : Ms := ⟨2, [107], [], [], [], [], [], 0⟩
def nod5 : Nd := ⟨[], [[98], [99], [100], [101]], [1, 2, 3, 4, 5], List.replicate 5 zeroSm, [delK]⟩
def want5 : List Nd := [⟨[], [[98]], [1, 2], [zeroSm, zeroSm], []⟩, ⟨[], [[100]], [3, 4], [zeroSm, zeroSm], []⟩, ⟨[], [], [5], [zeroSm], []⟩]
theorem want5_eq : innerN nod5 2 = want5 ∧ innerP nod5 2 = [[99], [101]] := ⟨rfl, rfl⟩
def cut3 : List Nd := [⟨[([97], [], 0), ([98], [], 0)], [], [], [], []⟩, ⟨[([99], [], 0)], [], [], [], []⟩]
theorem cut3_eq : leafN (tab7.take 3) 2 = cut3 ∧ leafP (tab7.take 3) 2 = [[99]] := ⟨rfl, rfl⟩
theorem pcs_a : (cutL tab7 3).map List.length = [3, 2, 2] := by decide
theorem pcs_b : (cutL (tab7.take 6) 3).map List.length = [3, 3] := by decide

theorem pcs_row {B : Nat} {w : World} {v : Value} {ps : List (List Pr)} (h : IsPcs B encP 3 w v ps) (hne : ps ≠ []) : ∃ b off cap, v = .slice (some ⟨b, off, none⟩) ps.length cap ∧ b < w.heap.size ∧ ∀ i (h : i < ps.length), ∃ p c, w.cell? ⟨b, off + i, none⟩ = some (.slice p ps[i].length c) := by
  obtain ⟨a, cap, rfl, h2, h3, h4⟩ := h
  obtain ⟨b, off, rfl, hlt, hc⟩ := h4 hne
  refine ⟨b, off, cap, rfl, hlt, fun i hi => ?_⟩
  obtain ⟨s, hs, ⟨p, c, rfl, -⟩⟩ := hc i hi
  exact ⟨p, c, hs⟩
theorem pcs3 {B : Nat} {w : World} {v : Value} (h : IsPcs B encP 3 w v (cutL tab7 3)) : ∃ b off cap a0 c0 a1 c1 a2 c2, v = .slice (some ⟨b, off, none⟩) 3 cap ∧ b < w.heap.size ∧
    w.cell? ⟨b, off, none⟩ = some (.slice a0 3 c0) ∧ w.cell? ⟨b, off + 1, none⟩ = some (.slice a1 2 c1) ∧ w.cell? ⟨b, off + 2, none⟩ = some (.slice a2 2 c2) := by
  obtain ⟨b, off, cap, e, hlt, hc⟩ := pcs_row h (by intro e; have := congrArg List.length e; revert this; decide)
  obtain ⟨a0, c0, h0⟩ := hc 0 (by decide)
  obtain ⟨a1, c1, h1⟩ := hc 1 (by decide)
  obtain ⟨a2, c2, h2⟩ := hc 2 (by decide)
  exact ⟨b, off, cap, a0, c0, a1, c1, a2, c2, e, hlt, h0, h1, h2⟩
theorem pcs2 {B : Nat} {w : World} {v : Value} (h : IsPcs B encP 3 w v (cutL (tab7.take 6) 3)) : ∃ b off cap a0 c0 a1 c1, v = .slice (some ⟨b, off, none⟩) 2 cap ∧ b < w.heap.size ∧
    w.cell? ⟨b, off, none⟩ = some (.slice a0 3 c0) ∧ w.cell? ⟨b, off + 1, none⟩ = some (.slice a1 3 c1) := by
  obtain ⟨b, off, cap, e, hlt, hc⟩ := pcs_row h (by intro e; have := congrArg List.length e; revert this; decide)
  obtain ⟨a0, c0, h0⟩ := hc 0 (by decide)
  obtain ⟨a1, c1, h1⟩ := hc 1 (by decide)
  exact ⟨b, off, cap, a0, c0, a1, c1, e, hlt, h0, h1⟩
theorem pcs0 {B : Nat} {w : World} {v : Value} (h : IsPcs B encP 3 w v []) : ∃ a cap, v = .slice a 0 cap := by
  obtain ⟨a, cap, e, -⟩ := h; exact ⟨a, cap, e⟩
theorem cut_none (l : List Pr) : cutL l 0 = [] := by unfold cutL; rw [if_pos (.inl (by decide))]
theorem cut_nil (m : Int) : cutL ([] : List Pr) m = [] := by unfold cutL; rw [if_pos (.inr rfl)]

theorem lit_split (w : World) : IsSplit (w.alloc (.cells #[.slice none 0 0, .slice none 0 0, .slice none 0 0, .slice none 0 0, .slice none 0 0] 43)) (.agg #[.slice (some ⟨w.heap.size, 0, none⟩) 1 1, .slice none 0 0, .slice none 0 0]) [noNd] [] [] :=
  ⟨_, _, _, rfl, ⟨[leafV nil3], rfl, lit_row lenN [leafV nil3] rfl (by decide), fun i h h2 => by
    match i, h, h2 with
    | 0, _, _ => exact nil_node _⟩, nil_strs _, nil_msgs _⟩

end Go.Proofs.Ythpajecigkfajaa
