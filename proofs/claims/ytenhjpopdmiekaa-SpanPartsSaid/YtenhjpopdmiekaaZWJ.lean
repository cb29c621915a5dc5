/-
  Walks: the reference's functions without lists.
-/
import Derived.Test.YtenhjpopdmiekaaZW3
import Derived.Test.YtenhjpopdmiekaaZW4
import Derived.Test.YtenhjpopdmiekaaZWN
namespace Go.Proofs.Ytenhjpopdmiekaa
open Go.RowKit Go.Sort
set_option linter.unusedVariables false

theorem leq_eq (a b : Bs) : (Op.bytesLess a b || a == b) = !Op.bytesLess b a := by
  rw [Bool.eq_iff_iff, Bool.or_eq_true, beq_iff_eq, Bool.not_eq_true']
  constructor
  · rintro (h | rfl)
    · cases h2 : Op.bytesLess b a with
      | false => rfl
      | true => have := less_trans a b a h h2; rw [less_irrefl] at this; cases this
    · exact less_irrefl _
  · intro h
    cases h2 : Op.bytesLess a b with
    | true => exact .inl rfl
    | false => exact .inr (less_total a b h2 h)
theorem emptyB_eq (lo hi : Bs) : emptyB (lo, hi) = (!hi.isEmpty && (Op.bytesLess hi lo || hi == lo)) := by
  unfold emptyB
  cases h : hi with
  | nil => rfl
  | cons a r =>
    rw [← h]
    have hne : hi ≠ [] := by rw [h]; simp
    show (!ltP (keyP lo) (hiP hi)) = _
    rw [hiP_ne hne, leq_eq]
    have : hi.isEmpty = false := by simpa using hne
    rw [this]; rfl
set_option maxHeartbeats 1000000 in
theorem rempty_w (lo hi : Bs) (w : World) : Calls Try.prog 20 #[.agg #[.string (Str lo), .string (Str hi)]] w fun e w' => e = .returned (.bool (emptyB (lo, hi))) ∧ Grown w w' := by
  have H := Lib.hid (emptyB_eq lo hi)
  cases h1 : hi.isEmpty <;> cases h2 : Op.bytesLess hi lo <;> cases h3 : hi == lo
  all_goals
    rw [h1, h2, h3] at H
    go_enter Try.func20, Try.ntmps20
    go_wp2
    go_ret
    exact ⟨ret_bool (by rw [H.out]; rfl), (Grown.refl w).alloc _⟩
theorem lessP_eq (a b : Bs) : ltP (hiP a) (hiP b) = (!a.isEmpty && (b.isEmpty || Op.bytesLess a b)) := by
  cases ha : a with
  | nil => rfl
  | cons x r =>
    rw [← ha]
    have hne : a ≠ [] := by rw [ha]; simp
    have h1 : a.isEmpty = false := by simpa using hne
    cases hb : b with
    | nil => rw [hiP_ne hne, h1]; rfl
    | cons y s =>
      rw [← hb]
      have hne2 : b ≠ [] := by rw [hb]; simp
      have h2 : b.isEmpty = false := by simpa using hne2
      rw [hiP_ne hne, hiP_ne hne2, h1, h2]; rfl
set_option maxHeartbeats 1000000 in
theorem rless_w (a b : Bs) (w : World) : Calls Try.prog 39 #[.string (Str a), .string (Str b)] w fun e w' => e = .returned (.bool (ltP (hiP a) (hiP b))) ∧ Grown w w' := by
  have H := Lib.hid (lessP_eq a b)
  cases h1 : a.isEmpty <;> cases h2 : b.isEmpty <;> cases h3 : Op.bytesLess a b
  all_goals
    rw [h1, h2, h3] at H
    go_enter Try.func39, Try.ntmps39
    go_wp2
    go_ret
    exact ⟨ret_bool (by rw [H.out]; rfl), Grown.refl w⟩
set_option maxHeartbeats 1000000 in
theorem rmoved_w (k a b : Bs) (w : World) (hk : k.length ≤ 140737488355328) (ha : a.length ≤ 140737488355328) (hb : b.length ≤ 140737488355328) :
    Calls Try.prog 10 #[.string (Str k), .string (Str a), .string (Str b)] w fun e w' => e = .returned (movedV k a b) ∧ Grown w w' := by
  have hg := fun wx => begins_w k a wx hk ha
  cases h : a.isPrefixOf k with
  | true =>
    rw [h] at hg
    have hl : a.length ≤ k.length := (List.isPrefixOf_iff_prefix.1 h).length_le
    have hlz : (a.length : Int) ≤ (k.length : Int) := by omega
    have hl2 : (k.drop a.length).length ≤ 140737488355328 := by rw [List.length_drop]; omega
    rw [movedV_yes h]
    clear h
    go_enter Try.func10, Try.ntmps10
    go_wp2_with (go_at_call 35; refine (hg _).mono ?_; rintro e w2 ⟨rfl, hg2⟩)
    go_ret2
    refine ⟨?_, hg2⟩
    first
      | rfl
      | (show Ending.returned (.tuple #[.string (Str b ++ Str (k.drop a.length)), .bool true]) = _; rw [Str_add])
  | false =>
    rw [h] at hg
    rw [movedV_no h]
    clear h
    go_enter Try.func10, Try.ntmps10
    go_wp2_with (go_at_call 35; refine (hg _).mono ?_; rintro e w2 ⟨rfl, hg2⟩)
    go_ret2
    exact ⟨rfl, hg2⟩

end Go.Proofs.Ytenhjpopdmiekaa
