/-
  Walks: which kind has which functions.
-/
import Derived.Test.YticlomakmcjcfaaEW1
import Derived.Laws.StructEq
import Derived.Laws.EntriesVeiled
namespace Go.Proofs.Yticlomakmcjcfaa
open Go.RowKit Go.Sort
set_option linter.unusedVariables false

set_option maxRecDepth 100000 in
set_option maxHeartbeats 1000000 in
theorem kindOf1_w (w : World) :
    Calls Try.prog 117 #[.int .i64 1] w fun e w' => e = .returned (.tuple #[.agg #[.func (Fn.func 143) #[] #[], .func (Fn.func 144) #[] #[], .func (Fn.func 145) #[] #[]], .bool true]) ∧ Grown w w' := by
  go_enter Try.func117, Try.ntmps117
  go_wp2
  exact bodyPost_ret (v := .tuple #[.agg #[.func (Fn.func 143) #[] #[], .func (Fn.func 144) #[] #[], .func (Fn.func 145) #[] #[]], .bool true]) (by simp [results, Try.results117, go_sem]) rfl ⟨rfl, (grown_box _).alloc _⟩

set_option maxRecDepth 100000 in
set_option maxHeartbeats 1000000 in
theorem kindOf2_w (w : World) :
    Calls Try.prog 117 #[.int .i64 2] w fun e w' => e = .returned (.tuple #[.agg #[.func (Fn.func 146) #[] #[], .func (Fn.func 147) #[] #[], .func (Fn.func 148) #[] #[]], .bool true]) ∧ Grown w w' := by
  go_enter Try.func117, Try.ntmps117
  go_wp2
  exact bodyPost_ret (v := .tuple #[.agg #[.func (Fn.func 146) #[] #[], .func (Fn.func 147) #[] #[], .func (Fn.func 148) #[] #[]], .bool true]) (by simp [results, Try.results117, go_sem]) rfl ⟨rfl, (grown_box _).alloc _⟩

set_option maxRecDepth 100000 in
set_option maxHeartbeats 1000000 in
theorem kindOf3_w (w : World) :
    Calls Try.prog 117 #[.int .i64 3] w fun e w' => e = .returned (.tuple #[.agg #[.func (Fn.func 149) #[] #[], .func (Fn.func 151) #[] #[], .func (Fn.func 152) #[] #[]], .bool true]) ∧ Grown w w' := by
  go_enter Try.func117, Try.ntmps117
  go_wp2
  exact bodyPost_ret (v := .tuple #[.agg #[.func (Fn.func 149) #[] #[], .func (Fn.func 151) #[] #[], .func (Fn.func 152) #[] #[]], .bool true]) (by simp [results, Try.results117, go_sem]) rfl ⟨rfl, (grown_box _).alloc _⟩

set_option maxRecDepth 100000 in
set_option maxHeartbeats 1000000 in
theorem kindOf4_w (w : World) :
    Calls Try.prog 117 #[.int .i64 4] w fun e w' => e = .returned (.tuple #[.agg #[.func (Fn.func 153) #[] #[], .func (Fn.func 154) #[] #[], .func (Fn.func 156) #[] #[]], .bool true]) ∧ Grown w w' := by
  go_enter Try.func117, Try.ntmps117
  go_wp2
  exact bodyPost_ret (v := .tuple #[.agg #[.func (Fn.func 153) #[] #[], .func (Fn.func 154) #[] #[], .func (Fn.func 156) #[] #[]], .bool true]) (by simp [results, Try.results117, go_sem]) rfl ⟨rfl, (grown_box _).alloc _⟩

set_option maxRecDepth 100000 in
set_option maxHeartbeats 1000000 in
theorem kindOf_lo (n : Int) (w : World) (h : n < 1) :
    Calls Try.prog 117 #[.int .i64 n] w fun e w' => e = .returned (.tuple #[.agg #[.nilFunc, .nilFunc, .nilFunc], .bool false]) ∧ Grown w w' := by
  go_enter Try.func117, Try.ntmps117
  go_wp2
  exact bodyPost_ret (v := .tuple #[.agg #[.nilFunc, .nilFunc, .nilFunc], .bool false]) (by simp [results, Try.results117, go_sem]) rfl ⟨rfl, (grown_box _).alloc _⟩

set_option maxRecDepth 100000 in
set_option maxHeartbeats 1000000 in
theorem kindOf_hi (n : Int) (w : World) (h : 5 ≤ n) :
    Calls Try.prog 117 #[.int .i64 n] w fun e w' => e = .returned (.tuple #[.agg #[.nilFunc, .nilFunc, .nilFunc], .bool false]) ∧ Grown w w' := by
  have h1 : 1 ≤ n := by omega
  go_enter Try.func117, Try.ntmps117
  go_wp2
  exact bodyPost_ret (v := .tuple #[.agg #[.nilFunc, .nilFunc, .nilFunc], .bool false]) (by simp [results, Try.results117, go_sem]) rfl ⟨rfl, (grown_box _).alloc _⟩

set_option maxHeartbeats 400000 in
theorem withHead_w (k s l i o n m : Int) (t : Bs) (w : World) :
    Calls Try.prog 119 #[.agg #[.int .i64 k, .int .i64 s, .int .i64 l, .int .i64 i, .int .i64 o, .string (Str t)], .int .i64 n, .int .i64 m] w fun e w' => e = .returned (.agg #[.int .i64 n, .int .i64 s, .int .i64 l, .int .i64 i, .int .i64 m, .string (Str t)]) ∧ Grown w w' := by
  go_enter Try.func119, Try.ntmps119
  go_wp2_with fail
  exact bodyPost_ret (v := .agg #[.int .i64 n, .int .i64 s, .int .i64 l, .int .i64 i, .int .i64 m, .string (Str t)]) (by simp [results, Try.results119, go_sem]) rfl ⟨rfl, (grown_box _).alloc _⟩

end Go.Proofs.Yticlomakmcjcfaa
