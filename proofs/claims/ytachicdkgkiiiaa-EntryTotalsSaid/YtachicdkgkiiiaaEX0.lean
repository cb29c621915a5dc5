/-
  Plain facts on totals.
-/
import Derived.Test.YtachicdkgkiiiaaEWA
namespace Go.Proofs.Ytachicdkgkiiiaa
open Go.RowKit
set_option linter.unusedVariables false

theorem charge_cases (k v : Bs) : chargeS k v = (1, 0) ∨ chargeS k v = (0, 0) ∨ (chargeS k v = (0, (v.length : Int)) ∧ 1 ≤ v.length) := by
  unfold chargeS
  cases placeS k with
  | none => exact .inr (.inl rfl)
  | some x =>
    simp only
    by_cases h1 : x.tag = 1
    · rw [if_pos h1]; exact .inl rfl
    · rw [if_neg h1]
      by_cases h2 : x.tag = 2 ∨ x.tag = 3
      · rw [if_pos h2]
        by_cases h : v.length = 0
        · rw [h]; exact .inr (.inl rfl)
        · exact .inr (.inr ⟨rfl, by omega⟩)
      · rw [if_neg h2]; exact .inr (.inl rfl)

/-- Sums, plainly. -/
def sumI (l : List Pr) : Int := l.foldl (fun a x => a + (chargeS x.1 x.2.1).1) 0
def sumB (l : List Pr) : Int := l.foldl (fun a x => a + (chargeS x.1 x.2.1).2) 0
theorem foldl_add {α : Type} (f : α → Int) (l : List α) (a : Int) : l.foldl (fun a x => a + f x) a = a + l.foldl (fun a x => a + f x) 0 := by
  induction l generalizing a with
  | nil => simp
  | cons x l ih => simp only [List.foldl_cons]; rw [ih (a + f x), ih (0 + f x)]; omega
theorem sumI_append (l m : List Pr) : sumI (l ++ m) = sumI l + sumI m := by
  unfold sumI; rw [List.foldl_append]; exact foldl_add _ m _
theorem sumB_append (l m : List Pr) : sumB (l ++ m) = sumB l + sumB m := by
  unfold sumB; rw [List.foldl_append]; exact foldl_add _ m _

theorem totF_small : ∀ (n : Nat) (l : List Pr), l.length = n → n ≤ 40 → (∀ x ∈ l, x.2.1.length ≤ 100) → totF l = (sumI l, sumB l) ∧ 0 ≤ sumI l ∧ sumI l ≤ n ∧ 0 ≤ sumB l ∧ sumB l ≤ 100 * n := by
  intro n
  induction n with
  | zero => intro l h _ _; rw [List.length_eq_zero_iff.1 h]; exact ⟨rfl, by decide, by decide, by decide, by decide⟩
  | succ n ih =>
    intro l h hn hs
    obtain ⟨r, x, rfl⟩ : ∃ r x, l = r ++ [x] := by
      have hne : l ≠ [] := by rintro rfl; simp at h
      exact ⟨l.dropLast, l.getLast hne, (List.dropLast_concat_getLast hne).symm⟩
    obtain ⟨h1, h2, h3, h4, h5⟩ := ih r (by simp at h; exact h) (by omega) (fun y hy => hs y (List.mem_append_left _ hy))
    have hx := hs x (List.mem_append_right _ (by simp))
    rw [totF_snoc, h1, sumI_append, sumB_append]
    have e1 : sumI [x] = (chargeS x.1 x.2.1).1 := by simp [sumI]
    have e2 : sumB [x] = (chargeS x.1 x.2.1).2 := by simp [sumB]
    rw [e1, e2]
    have hw : ∀ a : Int, 0 ≤ a → a ≤ 10000 → wrap64 a = a := by intro a ha hb; simp only [wrap64]; omega
    rcases charge_cases x.1 x.2.1 with hc | hc | ⟨hc, hl⟩ <;> rw [hc]
    · refine ⟨?_, by simp only; omega, by simp only; omega, by simp only; omega, by simp only; omega⟩
      unfold addW
      simp only
      rw [hw _ (by omega) (by omega), hw _ (by omega) (by omega)]
    · refine ⟨?_, by simp only; omega, by simp only; omega, by simp only; omega, by simp only; omega⟩
      unfold addW
      simp only
      rw [hw _ (by omega) (by omega), hw _ (by omega) (by omega)]
    · refine ⟨?_, by simp only; omega, by simp only; omega, by simp only; omega, by simp only; omega⟩
      unfold addW
      simp only
      rw [hw _ (by omega) (by omega), hw _ (by omega) (by omega)]

/-- The total of two lists together, in either order. -/
theorem totF_two (la lb : List Pr) (ha : la.length ≤ 20) (hb : lb.length ≤ 20) (hs : ∀ x ∈ la ++ lb, x.2.1.length ≤ 100) :
    totF (la ++ lb) = addW (totF la) (totF lb) ∧ totF (lb ++ la) = addW (totF la) (totF lb) := by
  have hsa : ∀ x ∈ la, x.2.1.length ≤ 100 := fun x hx => hs x (List.mem_append_left _ hx)
  have hsb : ∀ x ∈ lb, x.2.1.length ≤ 100 := fun x hx => hs x (List.mem_append_right _ hx)
  obtain ⟨a1, a2, a3, a4, a5⟩ := totF_small _ la rfl (by omega) hsa
  obtain ⟨b1, b2, b3, b4, b5⟩ := totF_small _ lb rfl (by omega) hsb
  obtain ⟨c1, _⟩ := totF_small _ (la ++ lb) rfl (by simp; omega) hs
  obtain ⟨d1, _⟩ := totF_small _ (lb ++ la) rfl (by simp; omega) (fun x hx => hs x (by simp at hx ⊢; exact hx.symm))
  have hw : ∀ a : Int, 0 ≤ a → a ≤ 10000 → wrap64 a = a := by intro a ha hb; simp only [wrap64]; omega
  rw [a1, b1, c1, d1, sumI_append, sumI_append, sumB_append, sumB_append]
  unfold addW
  simp only
  rw [hw _ (by omega) (by omega), hw _ (by omega) (by omega)]
  exact ⟨rfl, by rw [Int.add_comm, Int.add_comm (sumB lb)]⟩

end Go.Proofs.Ytachicdkgkiiiaa
