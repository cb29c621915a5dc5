/-
  Walks: lists that the reference compares and chooses from.
-/
import Derived.Test.YthpajecigkfajaaNO
import Derived.Test.YthpajecigkfajaaMFG
namespace Go.Proofs.Ythpajecigkfajaa
open Go.RowKit Go.Sort
set_option linter.unusedVariables false

/-- Two pairs are equal. -/
def prQ (k x : Bs) (t : Int) (k' x' : Bs) (t' : Int) : Bool := decide (k = k' ∧ x = x' ∧ t = t')
theorem prQ_iff (k x : Bs) (t : Int) (k' x' : Bs) (t' : Int) : prQ k x t k' x' t' = true ↔ (k, x, t) = (k', x', t') := by unfold prQ; simp
set_option maxHeartbeats 400000 in
theorem neq_pair (k x : Bs) (t : Int) (k' x' : Bs) (t' : Int) (w : World) :
    (binOp .neq 45 (.agg #[.string (Str k), .string (Str x), .int .i64 t]) (.agg #[.string (Str k'), .string (Str x'), .int .i64 t'])).run Try.prog w = .ok (.bool (!prQ k x t k' x' t')) w := by
  by_cases h1 : k = k'
  · by_cases h2 : x = x'
    · by_cases h3 : t = t'
      · have e : prQ k x t k' x' t' = true := by simp [prQ, h1, h2, h3]
        rw [e]; go_simp
      · have e : prQ k x t k' x' t' = false := by simp [prQ, h3]
        rw [e]; go_simp
    · have e : prQ k x t k' x' t' = false := by simp [prQ, h2]
      rw [e]; go_simp
  · have e : prQ k x t k' x' t' = false := by simp [prQ, h1]
    rw [e]; go_simp
set_option maxHeartbeats 400000 in
theorem eql_pair (k x : Bs) (t : Int) (k' x' : Bs) (t' : Int) (w : World) :
    (binOp .eql 45 (.agg #[.string (Str k), .string (Str x), .int .i64 t]) (.agg #[.string (Str k'), .string (Str x'), .int .i64 t'])).run Try.prog w = .ok (.bool (prQ k x t k' x' t')) w := by
  by_cases h1 : k = k'
  · by_cases h2 : x = x'
    · by_cases h3 : t = t'
      · have e : prQ k x t k' x' t' = true := by simp [prQ, h1, h2, h3]
        rw [e]; go_simp
      · have e : prQ k x t k' x' t' = false := by simp [prQ, h3]
        rw [e]; go_simp
    · have e : prQ k x t k' x' t' = false := by simp [prQ, h2]
      rw [e]; go_simp
  · have e : prQ k x t k' x' t' = false := by simp [prQ, h1]
    rw [e]; go_simp
end Go.Proofs.Ythpajecigkfajaa
