/-
  Walks: which kind has which functions.
-/
import Derived.Test.YtachicdkgkiiiaaEW1
import Derived.Laws.StructEq
import Derived.Laws.EntriesVeiled
namespace Go.Proofs.Ytachicdkgkiiiaa
open Go.RowKit Go.Sort
set_option linter.unusedVariables false

set_option maxRecDepth 100000 in
set_option maxHeartbeats 1000000 in
theorem kindOf1_w (w : World) :
    Calls Try.prog 26 #[.int .i64 1] w fun e w' => e = .returned (.tuple #[.agg #[.func (Fn.func 37) #[] #[], .func (Fn.func 38) #[] #[], .func (Fn.func 39) #[] #[]], .bool true]) ∧ Grown w w' := by
  go_enter Try.func26, Try.ntmps26
  go_wp2
  exact bodyPost_ret (v := .tuple #[.agg #[.func (Fn.func 37) #[] #[], .func (Fn.func 38) #[] #[], .func (Fn.func 39) #[] #[]], .bool true]) (by simp [results, Try.results26, go_sem]) rfl ⟨rfl, (grown_box _).alloc _⟩

set_option maxRecDepth 100000 in
set_option maxHeartbeats 1000000 in
theorem kindOf2_w (w : World) :
    Calls Try.prog 26 #[.int .i64 2] w fun e w' => e = .returned (.tuple #[.agg #[.func (Fn.func 40) #[] #[], .func (Fn.func 41) #[] #[], .func (Fn.func 42) #[] #[]], .bool true]) ∧ Grown w w' := by
  go_enter Try.func26, Try.ntmps26
  go_wp2
  exact bodyPost_ret (v := .tuple #[.agg #[.func (Fn.func 40) #[] #[], .func (Fn.func 41) #[] #[], .func (Fn.func 42) #[] #[]], .bool true]) (by simp [results, Try.results26, go_sem]) rfl ⟨rfl, (grown_box _).alloc _⟩

set_option maxRecDepth 100000 in
set_option maxHeartbeats 1000000 in
theorem kindOf3_w (w : World) :
    Calls Try.prog 26 #[.int .i64 3] w fun e w' => e = .returned (.tuple #[.agg #[.func (Fn.func 43) #[] #[], .func (Fn.func 45) #[] #[], .func (Fn.func 46) #[] #[]], .bool true]) ∧ Grown w w' := by
  go_enter Try.func26, Try.ntmps26
  go_wp2
  exact bodyPost_ret (v := .tuple #[.agg #[.func (Fn.func 43) #[] #[], .func (Fn.func 45) #[] #[], .func (Fn.func 46) #[] #[]], .bool true]) (by simp [results, Try.results26, go_sem]) rfl ⟨rfl, (grown_box _).alloc _⟩

set_option maxRecDepth 100000 in
set_option maxHeartbeats 1000000 in
theorem kindOf4_w (w : World) :
    Calls Try.prog 26 #[.int .i64 4] w fun e w' => e = .returned (.tuple #[.agg #[.func (Fn.func 47) #[] #[], .func (Fn.func 48) #[] #[], .func (Fn.func 50) #[] #[]], .bool true]) ∧ Grown w w' := by
  go_enter Try.func26, Try.ntmps26
  go_wp2
  exact bodyPost_ret (v := .tuple #[.agg #[.func (Fn.func 47) #[] #[], .func (Fn.func 48) #[] #[], .func (Fn.func 50) #[] #[]], .bool true]) (by simp [results, Try.results26, go_sem]) rfl ⟨rfl, (grown_box _).alloc _⟩

set_option maxRecDepth 100000 in
set_option maxHeartbeats 1000000 in
theorem kindOf_lo (n : Int) (w : World) (h : n < 1) :
    Calls Try.prog 26 #[.int .i64 n] w fun e w' => e = .returned (.tuple #[.agg #[.nilFunc, .nilFunc, .nilFunc], .bool false]) ∧ Grown w w' := by
  go_enter Try.func26, Try.ntmps26
  go_wp2
  exact bodyPost_ret (v := .tuple #[.agg #[.nilFunc, .nilFunc, .nilFunc], .bool false]) (by simp [results, Try.results26, go_sem]) rfl ⟨rfl, (grown_box _).alloc _⟩

set_option maxRecDepth 100000 in
set_option maxHeartbeats 1000000 in
theorem kindOf_hi (n : Int) (w : World) (h : 5 ≤ n) :
    Calls Try.prog 26 #[.int .i64 n] w fun e w' => e = .returned (.tuple #[.agg #[.nilFunc, .nilFunc, .nilFunc], .bool false]) ∧ Grown w w' := by
  have h1 : 1 ≤ n := by omega
  go_enter Try.func26, Try.ntmps26
  go_wp2
  exact bodyPost_ret (v := .tuple #[.agg #[.nilFunc, .nilFunc, .nilFunc], .bool false]) (by simp [results, Try.results26, go_sem]) rfl ⟨rfl, (grown_box _).alloc _⟩

set_option maxHeartbeats 400000 in
theorem withHead_w (k s l i o n m : Int) (t : Bs) (w : World) :
    Calls Try.prog 28 #[.agg #[.int .i64 k, .int .i64 s, .int .i64 l, .int .i64 i, .int .i64 o, .string (Str t)], .int .i64 n, .int .i64 m] w fun e w' => e = .returned (.agg #[.int .i64 n, .int .i64 s, .int .i64 l, .int .i64 i, .int .i64 m, .string (Str t)]) ∧ Grown w w' := by
  go_enter Try.func28, Try.ntmps28
  go_wp2_with fail
  exact bodyPost_ret (v := .agg #[.int .i64 n, .int .i64 s, .int .i64 l, .int .i64 i, .int .i64 m, .string (Str t)]) (by simp [results, Try.results28, go_sem]) rfl ⟨rfl, (grown_box _).alloc _⟩

end Go.Proofs.Ytachicdkgkiiiaa
