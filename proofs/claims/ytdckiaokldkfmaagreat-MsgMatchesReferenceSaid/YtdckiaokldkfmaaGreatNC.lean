/-
  Walks: the reference's choice of messages.
-/
import Derived.Test.YtdckiaokldkfmaaGreatNB
namespace Go.Proofs.YtdckiaokldkfmaaGreat
open Go.RowKit Go.Sort
set_option linter.unusedVariables false

def minB (a b : Bs) : Bs := if Op.bytesLess b a then b else a
def maxB (a b : Bs) : Bs := if Op.bytesLess a b then b else a
theorem run_min {P : Program} (w : World) (ts : Array TypeId) (t : TypeId) (x y : Bs) : (Builtin.min_ ts t #[.string (Str x), .string (Str y)]).run P w = .ok (.string (Str (minB x y))) w := by
  cases h : Op.bytesLess y x with
  | true =>
    have h2 := less_asymm h
    have h3 : (x == y) = false := by rw [beq_eq_false_iff_ne]; exact (less_ne h).symm
    simp [Builtin.min_, Builtin.min2, Op.stringOp, asBool, minB, toList_Str, h, h2, h3]
  | false =>
    by_cases h5 : x = y
    · subst h5
      simp [Builtin.min_, Builtin.min2, Op.stringOp, asBool, minB, toList_Str, h]
    · have h2 : Op.bytesLess x y = true := by
        rcases ne_less h5 with h6 | h6
        · exact h6
        · rw [h] at h6; cases h6
      simp [Builtin.min_, Builtin.min2, Op.stringOp, asBool, minB, toList_Str, h, h2]
theorem run_max {P : Program} (w : World) (ts : Array TypeId) (t : TypeId) (x y : Bs) : (Builtin.max_ ts t #[.string (Str x), .string (Str y)]).run P w = .ok (.string (Str (maxB x y))) w := by
  cases h : Op.bytesLess x y <;> simp [Builtin.max_, Builtin.max2, Op.stringOp, asBool, maxB, toList_Str, h]
attribute [go_sem high] run_min run_max

/-- The span, the end of a move, that six bytes describe. -/
def spanR (b d e : Nat) : Sp :=
  if e % 4 = 0 then preS (pathS b) else if e % 16 = 1 then (keyS b, []) else if e % 16 = 5 then ([], []) else if keyS b = keyS d then oneS (keyS b) else (minB (keyS b) (keyS d), maxB (keyS b) (keyS d))
def otherR (f t : Bs) : Bs := if t.isPrefixOf f || f.isPrefixOf t then (if f = [100, 47] then [99, 47] else [100, 47]) else t
def toR (b d : Nat) : Bs := otherR (pathS b) (pathS d)
def madeM (a b c d e f : Nat) : Ms :=
  if a % 6 = 0 then ⟨1, keyS b, valS c, [], [], [], [], (f % 8 : Nat)⟩
  else if a % 6 = 1 then ⟨2, keyS b, [], [], [], [], [], 0⟩
  else if a % 6 = 2 then ⟨3, [], [], (spanR b d e).1, (spanR b d e).2, [], [], 0⟩
  else if a % 6 = 3 then ⟨4, [], [], [], [], pathS b, toR b d, 0⟩
  else if a % 6 = 4 then ⟨5, [], [], [], [], pathS b, toR b d, 0⟩
  else ⟨6, [], [], (spanR b d e).1, (spanR b d e).2, [], [], (f % 8 : Nat)⟩

theorem path_pos (n : Nat) : 1 ≤ (pathS n).length := by
  have h : ∀ m < 5, 1 ≤ (pathL.getD m []).length := by decide
  exact h _ (Nat.mod_lt _ (by omega))
theorem key_pos (n : Nat) : 1 ≤ (keyS n).length := by
  unfold keyS
  have := path_pos (n % 4)
  rw [List.length_append]; omega
theorem to_apart (b d : Nat) : apartB (pathS b) (toR b d) = true := by
  have h : ∀ m < 5, ∀ n < 5, apartB (pathL.getD m []) (otherR (pathL.getD m []) (pathL.getD n [])) = true := by decide +kernel
  exact h _ (Nat.mod_lt _ (by omega)) _ (Nat.mod_lt _ (by omega))
theorem to_len (b d : Nat) : (toR b d).length ≤ 4 := by
  have h : ∀ m < 5, ∀ n < 5, (otherR (pathL.getD m []) (pathL.getD n [])).length ≤ 4 := by decide +kernel
  exact h _ (Nat.mod_lt _ (by omega)) _ (Nat.mod_lt _ (by omega))
theorem preT_len (b : Nat) : (preT (pathS b)).length ≤ 4 := by
  have h : ∀ m < 5, (preT (pathL.getD m [])).length ≤ 4 := by decide +kernel
  exact h _ (Nat.mod_lt _ (by omega))
theorem span_small (b d e : Nat) : (spanR b d e).1.length ≤ 8 ∧ (spanR b d e).2.length ≤ 8 := by
  have k1 := key_len b
  have k2 := key_len d
  have p1 := path_len b
  have p2 := preT_len b
  unfold spanR
  split
  · exact ⟨by show (pathS b).length ≤ 8; omega, by show (preT (pathS b)).length ≤ 8; omega⟩
  split
  · exact ⟨by show (keyS b).length ≤ 8; omega, by simp⟩
  split
  · simp
  split
  · refine ⟨by show (keyS b).length ≤ 8; omega, ?_⟩
    show (keyS b ++ [0]).length ≤ 8
    rw [List.length_append]; simp; omega
  · constructor
    · show (minB _ _).length ≤ 8
      unfold minB; split <;> omega
    · show (maxB _ _).length ≤ 8
      unfold maxB; split <;> omega
theorem span_filled (b d e : Nat) : emptyB (spanR b d e) = false := by
  unfold spanR
  split
  · exact prefix_nonempty _
  split
  · exact (emptyB_no _).2 (keyP_top _)
  split
  · exact (emptyB_no _).2 (keyP_top _)
  split
  · exact one_nonempty _
  · rename_i h
    have hlt : Op.bytesLess (minB (keyS b) (keyS d)) (maxB (keyS b) (keyS d)) = true := by
      unfold minB maxB
      rcases ne_less h with h1 | h1
      · rw [h1, less_asymm h1]; simpa using h1
      · rw [h1, less_asymm h1]; simpa using h1
    rw [emptyB_no]
    have hne : maxB (keyS b) (keyS d) ≠ [] := by
      intro e; rw [e, less_nil] at hlt; cases hlt
    show _ < hiP (maxB (keyS b) (keyS d))
    rw [hiP_ne hne]
    exact hlt
theorem made_valid (a b c d e f : Nat) : validM (madeM a b c d e f) = true := by
  have hk : keyB (keyS b) = true := keyB_yes (key_pos b) (by have := key_len b; omega)
  have hv : decide ((valS c).length ≤ 64) = true := by have := val_len c; simp; omega
  have hn : stampB ((f % 8 : Nat) : Int) = true := by unfold stampB; simp; omega
  have hs : spanB (spanR b d e).1 (spanR b d e).2 = true := by
    unfold spanB
    have := span_small b d e
    rw [show emptyB ((spanR b d e).1, (spanR b d e).2) = false from span_filled b d e]
    simp; omega
  have ha := to_apart b d
  unfold madeM validM
  split
  · simp only [fitsB, if_true, hk, hv, hn, bareM, zeroM]; rfl
  split
  · simp only [fitsB, hk, bareM, zeroM]; rfl
  split
  · simp only [fitsB, hs, bareM, zeroM]; rfl
  split
  · simp only [fitsB, ha, bareM, zeroM]; rfl
  split
  · simp only [fitsB, ha, bareM, zeroM]; rfl
  · simp only [fitsB, hs, hn, bareM, zeroM]; rfl
theorem made_size (a b c d e f : Nat) : SizeM (madeM a b c d e f) := by
  have k1 := key_len b
  have v1 := val_len c
  have s1 := span_small b d e
  have p1 := path_len b
  have t1 := to_len b d
  unfold SizeM madeM
  split
  · simp; omega
  split
  · simp; omega
  split
  · simp; omega
  split
  · simp; omega
  split
  · simp; omega
  · simp; omega

end Go.Proofs.YtdckiaokldkfmaaGreat
