/-
  Walks: slices.Insert at rows of spans.
-/
import Derived.Test.YtfpcaoacbjhkgaaRH
namespace Go.Proofs.Ytfpcaoacbjhkgaa
open Go.RowKit Go.Sort
set_option linter.unusedVariables false

theorem take_drop_same (l : List Sp) (i : Nat) : l.take i ++ [] ++ l.drop i = l := by simp
theorem own_same {w : World} {base n k : Nat} {v : Value} {l l' : List Sp} (h : w.ownsRow base 32 2 v n (l.flatMap encS)) (e : l = l') (hn : n = k) : w.ownsRow base 32 2 v k (l'.flatMap encS) := by subst e hn; exact h
theorem splice_fwd {α : Type} (cur X Y Z : List α) (h0 : cur.take X.length = X) (hl : X.length + Y.length + Z.length ≤ cur.length) : (splice (splice cur X.length Y) (X.length + Y.length) Z).take (X.length + Y.length + Z.length) = X ++ Y ++ Z := by
  have e1 : splice cur X.length Y = (X ++ Y) ++ cur.drop (X.length + Y.length) := by unfold splice; rw [h0, List.append_assoc]
  have e2 : splice ((X ++ Y) ++ cur.drop (X.length + Y.length)) (X.length + Y.length) Z = (X ++ Y ++ Z) ++ (cur.drop (X.length + Y.length)).drop Z.length := by
    generalize cur.drop (X.length + Y.length) = R
    unfold splice
    have a1 : (X ++ Y ++ R).take (X.length + Y.length) = X ++ Y := List.take_left' (by simp)
    have a2 : (X ++ Y ++ R).drop (X.length + Y.length + Z.length) = R.drop Z.length := by
      rw [List.drop_append, List.drop_eq_nil_of_le (by rw [List.length_append]; omega), List.nil_append, List.length_append, Nat.add_sub_cancel_left]
    rw [a1, a2, List.append_assoc (X ++ Y) Z]
  rw [e1, e2, List.take_left' (by simp [Nat.add_assoc])]
theorem splice_back {α : Type} (cur X Y Z : List α) (h0 : cur.take X.length = X) (hl : X.length + Y.length + Z.length ≤ cur.length) : (splice (splice cur (X.length + Y.length) Z) X.length Y).take (X.length + Y.length + Z.length) = X ++ Y ++ Z := by
  apply List.ext_getElem?
  intro j
  have l1 : (splice cur (X.length + Y.length) Z).length = cur.length := length_splice _ _ _ (by omega)
  rw [List.getElem?_take]
  split
  · rename_i hj
    rw [get_splice _ _ _ _ (by rw [l1]; omega), get_splice _ _ _ _ (by omega)]
    by_cases h1 : j < X.length
    · rw [if_pos h1, if_pos (by omega), List.append_assoc, List.getElem?_append_left h1]
      conv => rhs; rw [← h0]
      rw [List.getElem?_take, if_pos h1]
    · rw [if_neg h1]
      by_cases h2 : j < X.length + Y.length
      · rw [if_pos h2, List.getElem?_append_left (by simp; omega), List.getElem?_append_right (by omega)]
      · rw [if_neg h2, if_neg h2, if_pos (by omega), List.getElem?_append_right (by simp; omega)]
        congr 1
        simp
  · rename_i hj
    rw [List.getElem?_eq_none (by simp; omega)]
theorem drop_cells {cur : List Value} {l : List Sp} {n : Nat} (h : cur.take (n * 2) = l.flatMap encS) (i j : Nat) (u : Value) (hu : ((l.drop i).flatMap encS)[j]? = some u) : (cur.drop (i * 2))[j]? = some u := by
  rw [flatS_drop, ← h, List.getElem?_drop, List.getElem?_take] at hu
  rw [List.getElem?_drop]
  split at hu
  · exact hu
  · cases hu
theorem row_at {w w' : World} {g B : Nat} {cur : List Value} {T : TypeId} (h : w.heap[g]? = some (.cells cur.toArray T (0, 0))) (hb : Below B w w') (hg : g < B) : w'.heap[g]? = some (.cells cur.toArray T (0, 0)) := (hb.block g hg).trans h
theorem row_shape {w : World} {g : Nat} {cur : List Value} {T : TypeId} (h : w.heap[g]? = some (.cells cur.toArray T (0, 0))) : w.shape? g = some (T, cur.length) := by
  unfold World.shape?; rw [h]; simp
theorem row_free {w : World} {g : Nat} {cur : List Value} {T : TypeId} (h : w.heap[g]? = some (.cells cur.toArray T (0, 0))) (o : Nat) : w.frozen? ⟨g, o, none⟩ = false := by
  unfold World.frozen?; rw [h]; simp
/-- A copy onto a row, as an equation for the walk. -/
theorem copy_run {w w0 : World} {B : Nat} (dT sT : TypeId) (hu : Try.prog.underlying dT = some (.slice 32)) (dp sp : Option Addr) (dLen dCap sLen sCap n : Nat)
    (g off : Nat) (cur : List Value) (hg : w.heap[g]? = some (.cells cur.toArray 32 (0, 0))) (cs : List Value) (hmin : Nat.min sLen dLen = n) (hn : cs.length = n * 2)
    (hpos : 0 < cs.length → dp = some ⟨g, off, none⟩ ∧ ∃ ad, sp = some ad ∧ ∀ j v, cs[j]? = some v → w.cell? (ad.add j) = some v)
    (hfit : off + cs.length ≤ cur.length) (h1 : ∀ v ∈ cs, v.oneCell' = true) (hb : Below B w0 w) (hBg : B ≤ g) :
    ∃ w', (∀ ty, (Builtin.copy_ #[dT, sT] ty #[.slice dp dLen dCap, .slice sp sLen sCap]).run Try.prog w = .ok (goInt n) w') ∧ w'.heap[g]? = some (.cells (splice cur off cs).toArray 32 (0, 0)) ∧ Below B w0 w' ∧ (∀ b, b ≠ g → w'.heap[b]? = w.heap[b]?) ∧ w'.heap.size = w.heap.size := by
  by_cases h0 : cs.length = 0
  · obtain rfl : cs = [] := List.eq_nil_of_length_eq_zero h0
    obtain rfl : n = 0 := by simp at hn; omega
    exact ⟨w, fun ty => run_copy_noneK (P := Try.prog) w 2 dT sT ty 32 dp sp dLen dCap sLen sCap hu sizeSp hmin, by simpa [splice] using hg, hb, fun _ _ => rfl, rfl⟩
  · obtain ⟨rfl, ad, rfl, hsrc⟩ := hpos (by omega)
    refine ⟨_, fun ty => by rw [← hmin]; exact run_copy_rowK (P := Try.prog) w 2 dT sT ty 32 g off dLen dCap ad sLen sCap cur.toArray 32 cs hu sizeSp hg (by rw [hmin]; exact hn) hsrc (by simpa using hfit) h1, by simpa [splice] using setRow_heap w g _ _ _ _ hg, below_setRow hb hBg _, fun b hb => setRow_other w g b _ hb, by simp [World.setRow]⟩
end Go.Proofs.Ytfpcaoacbjhkgaa
