/-
  Plain: all messages of a list settled, in the law's bounds.
-/
import Derived.Test.YtfpcaoacbjhkgaaGreatUO
namespace Go.Proofs.YtfpcaoacbjhkgaaGreat
open Go.RowKit Go.Sort
set_option linter.unusedVariables false

theorem made_val (x : R6) : (madeX x).val.length ≤ 100 := by
  have v1 := val_len x.2.2.1
  unfold madeX madeM
  split
  · simp only []; omega
  split
  · simp
  split
  · simp
  split
  · simp
  split
  · simp
  · simp
theorem apply_vals (m : Ms) (V : Nat) {t : List Pr} (ht : Srt t) (hm : m.val.length ≤ V) (hv : ∀ x ∈ t, x.2.1.length ≤ V) : ∀ x ∈ applyS m t, x.2.1.length ≤ V := by
  intro x hx
  have hcl : ∀ a b, x ∈ cloneT a b t → x.2.1.length ≤ V := by
    intro a b h
    rcases (mem_clone a b ht x).1 h with h | h
    · obtain ⟨r, h1, -⟩ := (mem_moved a b t x).1 h
      exact hv (a ++ r, x.2) h1
    · exact hv x h.1
  unfold applyS at hx
  split at hx
  · rcases (mem_put _ _ _).1 hx with rfl | ⟨h, _⟩
    · exact hm
    · exact hv x h
  split at hx
  · exact hv x (List.mem_filter.1 hx).1
  split at hx
  · exact hv x (List.mem_filter.1 hx).1
  split at hx
  · exact hcl _ _ (List.mem_filter.1 hx).1
  split at hx
  · exact hcl _ _ hx
  split at hx
  · obtain ⟨y, hy, rfl⟩ := (mem_stamp _ _ _ _).1 hx
    unfold stampP
    split
    · exact hv y hy
    · exact hv y hy
  · exact hv x hx
theorem all_vals (l : List Ms) (V : Nat) (hm : ∀ m ∈ l, m.val.length ≤ V) : ∀ {t : List Pr}, Srt t → (∀ x ∈ t, x.2.1.length ≤ V) → ∀ x ∈ allS l t, x.2.1.length ≤ V := by
  induction l with
  | nil => exact fun _ h => h
  | cons m r ih =>
    intro t ht hv
    exact ih (fun o ho => hm o (by simp [ho])) (srt_apply m ht) (apply_vals m V ht (hm m (by simp)) hv)
theorem settleL_mem : ∀ (l : List Ms) (t : List Pr) {o : Ms}, o ∈ settleL l t → ∃ k, ∃ h : k < l.length, o ∈ settledS l[k] (sourceS l[k] (allS (l.take k) t))
  | [], t, o, h => by cases h
  | m :: r, t, o, h => by
    rw [settleL] at h
    rcases List.mem_append.1 h with h | h
    · exact ⟨0, by simp, by simpa [allS] using h⟩
    · obtain ⟨k, hk, h⟩ := settleL_mem r _ h
      refine ⟨k + 1, by simp; omega, ?_⟩
      rw [List.take_succ_cons, List.getElem_cons_succ]
      exact h
theorem settleL_len (l : List Ms) (t : List Pr) (n : Nat) (h : ∀ k, k ≤ l.length → (allS (l.take k) t).length ≤ n) : ∀ k, k ≤ l.length → (settleL (l.take k) t).length ≤ k * (n + 2) := by
  intro k
  induction k with
  | zero => intro _; simp [settleL]
  | succ k ih =>
    intro hk
    have h1 := ih (by omega)
    rw [settleL_take l t k (by omega), List.length_append]
    have h2 := settled_len (l[k]'(by omega)) (sourceS (l[k]'(by omega)) (allS (l.take k) t))
    have h3 := source_len (l[k]'(by omega)) (allS (l.take k) t)
    have h4 := h k (by omega)
    rw [Nat.succ_mul]
    omega
/-- What the law's lists are, once settled. -/
structure RepU (B : List Ms) (T : List Pr) : Prop where
  srt : Srt T
  ok : ∀ m ∈ B, SizeM m ∧ validM m = true ∧ Few m ∧ m.val.length ≤ 100
  okB : OkAll B T
  now : ∀ k, k ≤ B.length → (allS (B.take k) T).length ≤ 20000 ∧ (∀ x ∈ allS (B.take k) T, x.1.length ≤ 10000 ∧ x.2.1.length ≤ 100)
  len : ∀ k, k ≤ B.length → (settleL (B.take k) T).length ≤ 200000
  size : ∀ o ∈ settleL B T, SizeM o
  okL : OkAll (settleL B T) T
theorem repU (x0 : List Rw) (x1 : List R6) : RepU (listS x1 8) (T4.madeS x0) := by
  have hst := T4.srt_made x0
  have hTl := T4.made_len x0
  have hTs := T4.made_small (l := x0)
  have hall : ∀ m ∈ listS x1 8, SizeM m ∧ validM m = true ∧ Few m ∧ m.val.length ≤ 100 := fun m hm => by
    obtain ⟨h1, h2, h3⟩ := listS_okU x1 8 m hm
    unfold listS at hm
    obtain ⟨y, _, rfl⟩ := List.mem_map.1 hm
    exact ⟨h1, h2, h3, made_val y⟩
  have hml := listS_len x1 8
  generalize T4.madeS x0 = T at *
  generalize listS x1 8 = B at *
  have hT100 : ∀ x ∈ T, x.1.length ≤ 100 := fun x hx => by have := (hTs x hx).1; omega
  have OK1 := okAll_many B hst (by omega) hT100 (fun m hm => (hall m hm).2.2.1) (by omega)
  have hgr := all_grow B 100 hst hT100 (fun m hm => (hall m hm).2.2.1)
  have hnow : ∀ k, k ≤ B.length → (allS (B.take k) T).length ≤ 20000 ∧ (∀ x ∈ allS (B.take k) T, x.1.length ≤ 10000 ∧ x.2.1.length ≤ 100) := by
    intro k hk
    obtain ⟨h1, h2⟩ := hgr k hk
    have hp : (2 : Nat) ^ k ≤ 2 ^ 8 := Nat.pow_le_pow_right (by omega) (by omega)
    have h3 : (T.length + 1) * 2 ^ k ≤ 41 * 2 ^ 8 := Nat.mul_le_mul (by omega) hp
    refine ⟨by omega, fun x hx => ⟨?_, ?_⟩⟩
    · have := h2 x hx; omega
    · exact all_vals (B.take k) 100 (fun m hm => (hall m (List.mem_of_mem_take hm)).2.2.2) hst (fun x hx => by have := (hTs x hx).2; omega) x hx
  have hlen : ∀ k, k ≤ B.length → (settleL (B.take k) T).length ≤ 200000 := fun k hk => by
    have := settleL_len B T 20000 (fun k hk => (hnow k hk).1) k hk
    have h2 : k * (20000 + 2) ≤ 8 * (20000 + 2) := Nat.mul_le_mul_right _ (by omega)
    omega
  have hmem : ∀ o ∈ settleL B T, SizeM o ∧ o.key.length ≤ 100000 := fun o ho => by
    obtain ⟨k, hk, h⟩ := settleL_mem B T ho
    obtain ⟨h1, h2, h3, h4⟩ := hall B[k] (List.getElem_mem hk)
    have hn := (hnow k (by omega)).2
    refine ⟨settled_size h1 h2 (fun x hx => by have := hn x (source_mem hx).1; omega) h, ?_⟩
    cases hm : movesB B[k] with
    | false =>
      rw [settled_other hm, List.mem_singleton] at h
      rw [h]; have := h3.1; omega
    | true => exact settled_key _ (by have := h3.1; omega) (valid_apart h2 hm).2.1 (fun x hx => by have := (hn x (source_mem hx).1).1; omega) h
  refine ⟨hst, hall, OK1, hnow, hlen, fun o ho => (hmem o ho).1, ?_⟩
  refine okAll_still 100000 (by omega) hst (fun o ho => ⟨settleL_still B T o ho, (hmem o ho).2⟩) (fun x hx => by have := hT100 x hx; omega) ?_
  have := hlen B.length (Nat.le_refl _)
  rw [List.take_length] at this
  omega

end Go.Proofs.YtfpcaoacbjhkgaaGreat
