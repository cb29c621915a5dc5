/-
  Walks: the fields of a kind, as pointers. Walks: a message without its fields; messages that are equal; Valid. Walks: a message without its fields; Valid. Walks: Valid.
-/
import Derived.Test.YthpajecigkfajaaMAC
import Derived.Test.YthpajecigkfajaaMRR
namespace Go.Proofs.Ythpajecigkfajaa
open Go.RowKit Go.Sort
set_option linter.unusedVariables false

def tOff (k : Int) : List Nat := if k = 1 then [1, 2] else if k = 2 then [1] else if k = 3 then [3, 4] else if k = 4 then [5, 6] else if k = 5 then [5, 6] else if k = 6 then [3, 4] else []
def nOff (k : Int) : List Nat := if k = 1 then [7] else if k = 6 then [7] else []
end Go.Proofs.Ythpajecigkfajaa
namespace Go.Proofs.Ythpajecigkfajaa
open Go.RowKit Go.Sort
set_option linter.unusedVariables false

def setT (cs : Array Value) (os : List Nat) : Array Value := os.foldl (fun c o => c.setIfInBounds o (.string (Str []))) cs
def setN (cs : Array Value) (os : List Nat) : Array Value := os.foldl (fun c o => c.setIfInBounds o (.int .i64 0)) cs
theorem setT_take (cs : Array Value) (os : List Nat) (k : Nat) (h : k < os.length) : setT cs (os.take (k + 1)) = (setT cs (os.take k)).setIfInBounds os[k] (.string (Str [])) := by
  unfold setT; rw [List.take_add_one, List.getElem?_eq_getElem h, List.foldl_append]; rfl
theorem setN_take (cs : Array Value) (os : List Nat) (k : Nat) (h : k < os.length) : setN cs (os.take (k + 1)) = (setN cs (os.take k)).setIfInBounds os[k] (.int .i64 0) := by
  unfold setN; rw [List.take_add_one, List.getElem?_eq_getElem h, List.foldl_append]; rfl
theorem setT_size (cs : Array Value) (os : List Nat) : (setT cs os).size = cs.size := by
  unfold setT
  induction os generalizing cs with
  | nil => rfl
  | cons o os ih => rw [List.foldl_cons, ih]; simp
theorem setN_size (cs : Array Value) (os : List Nat) : (setN cs os).size = cs.size := by
  unfold setN
  induction os generalizing cs with
  | nil => rfl
  | cons o os ih => rw [List.foldl_cons, ih]; simp
theorem tOff_lt (k : Int) : ∀ o ∈ tOff k, o < 8 := by
  unfold tOff
  intro o ho
  split at ho
  · simp at ho; omega
  split at ho
  · simp at ho; omega
  split at ho
  · simp at ho; omega
  split at ho
  · simp at ho; omega
  split at ho
  · simp at ho; omega
  split at ho
  · simp at ho; omega
  cases ho
theorem nOff_lt (k : Int) : ∀ o ∈ nOff k, o < 8 := by
  unfold nOff
  intro o ho
  split at ho
  · simp at ho; omega
  split at ho
  · simp at ho; omega
  cases ho
theorem bare_cells (m : Ms) : setN (setT (encM m) (tOff m.kind)) (nOff m.kind) = encM (bareM m) := by
  unfold tOff nOff bareM
  by_cases h1 : m.kind = 1
  · simp [h1, setT, setN]
  by_cases h2 : m.kind = 2
  · simp [h2, setT, setN]
  by_cases h3 : m.kind = 3
  · simp [h3, setT, setN]
  by_cases h4 : m.kind = 4
  · simp [h4, setT, setN]
  by_cases h5 : m.kind = 5
  · simp [h5, setT, setN]
  by_cases h6 : m.kind = 6
  · simp [h6, setT, setN]
  simp [h1, h2, h3, h4, h5, h6, setT, setN]

theorem ite_and {α : Type} (p : Prop) [Decidable p] (f : Bool → α) (x : Bool) (t : α) (h : t = f x) : (if p then t else f false) = f (decide p && x) := by
  by_cases hp : p <;> simp [hp, h]
theorem eql_msg (a b : Ms) (w : World) : (binOp .eql 59 (msgV a) (msgV b)).run Try.prog w = .ok (.bool (decide (a = b))) w := by
  obtain ⟨a0, a1, a2, a3, a4, a5, a6, a7⟩ := a
  obtain ⟨b0, b1, b2, b3, b4, b5, b6, b7⟩ := b
  have hS : Try.prog.underlying 59 = some (.struct (Try.prog.fieldsOf 59)) := by kernel_rfl
  have hp : Try.prog.stoodInHeld 59 = false := by kernel_rfl
  rw [run_eql_struct, show (10000 : Nat) = 9999 + 1 from rfl, run_equalIn_agg w 9999 59 _ _ hS hp]
  simp only [Program.fieldsOf, Try.underlying59]
  go_simp
  iterate 7 (refine ite_and _ (fun b => Result.ok (Value.bool b) w) _ _ ?_)
  by_cases h : a7 = b7 <;> simp [h]
theorem guard_msg (op : BinOp) (x y : Operand) (xs ys : Array Value) (w : World) : (eqGuard op 59 x y (.agg xs) (.agg ys)).run Try.prog w = .ok () w := run_eqGuard_agg w op 59 x y xs ys (by kernel_rfl)
theorem neq_msg (a b : Ms) (w : World) : (binOp .neq 59 (msgV a) (msgV b)).run Try.prog w = .ok (.bool (!decide (a = b))) w := by
  have h := eql_msg a b w
  rw [run_eql_struct] at h
  rw [run_neq_struct]
  have e : (Op.equalIn 10000 59 (msgV a) (msgV b)).run Try.prog w = .ok (decide (a = b)) w := by
    revert h
    cases (Op.equalIn 10000 59 (msgV a) (msgV b)).run Try.prog w <;> simp [Result.andThen]
  rw [e]; rfl

end Go.Proofs.Ythpajecigkfajaa
namespace Go.Proofs.Ythpajecigkfajaa
open Go.RowKit Go.Sort
set_option linter.unusedVariables false

end Go.Proofs.Ythpajecigkfajaa
namespace Go.Proofs.Ythpajecigkfajaa
open Go.RowKit Go.Sort
set_option linter.unusedVariables false

end Go.Proofs.Ythpajecigkfajaa
