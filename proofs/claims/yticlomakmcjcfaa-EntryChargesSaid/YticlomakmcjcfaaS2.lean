/-
  Plain facts on paths, as the laws of package path want them. No program.
-/
import Derived.Test.YticlomakmcjcfaaS1
namespace Go.Proofs.Yticlomakmcjcfaa

theorem nameB_no47 {l : Bs} (h : nameB l = true) : (47 : UInt8) ∉ l := by
  intro hm
  unfold nameB at h
  simp only [Bool.and_eq_true, List.all_eq_true] at h
  have := h.2 47 hm
  revert this; decide
theorem nameB_len {l : Bs} (h : nameB l = true) : 1 ≤ l.length ∧ l.length ≤ 12 := by
  unfold nameB at h
  simp only [Bool.and_eq_true, decide_eq_true_eq, Bool.not_eq_true'] at h
  refine ⟨?_, h.1.1.1.2⟩
  cases l with
  | nil => simp at h
  | cons a r => simp
theorem nameB_ne {l : Bs} (h : nameB l = true) : l ≠ [] := by
  intro e; subst e; cases h

theorem idxOf_name {m r : Bs} (h : (47 : UInt8) ∉ m) : idxOf 47 (m ++ 47 :: r) = some m.length := by
  apply idxOf_some
  · simp
  · intro i hi
    rw [List.getElem?_append_left hi]
    intro e
    exact h (List.mem_of_getElem? e)
theorem nameStep_name {m r : Bs} (h : nameB m = true) : nameStep (m ++ 47 :: r) = some r := by
  unfold nameStep
  rw [idxOf_name (nameB_no47 h)]
  simp [h]
theorem idxOf_mem {c : UInt8} {l : Bs} {n : Nat} (h : idxOf c l = some n) : l[n]? = some c := by
  induction l generalizing n with
  | nil => simp [idxOf] at h
  | cons x r ih =>
    simp only [idxOf] at h
    split at h
    · rename_i hx; simp at h; subst h; simp at hx; simp [hx]
    · cases h' : idxOf c r with
      | none => simp [h'] at h
      | some m => simp [h'] at h; subst h; simpa using ih h'
/-- What a step takes is a name and a slash. -/
theorem nameStep_split {l r : Bs} (h : nameStep l = some r) : ∃ m, nameB m = true ∧ l = m ++ 47 :: r := by
  unfold nameStep at h
  split at h
  · cases h
  · rename_i n hn
    split at h
    · rename_i hb
      simp at h; subst h
      refine ⟨l.take n, hb, ?_⟩
      have h1 := idxOf_mem hn
      have hl := idxOf_le hn
      rw [List.getElem?_eq_getElem hl] at h1
      simp only [Option.some.injEq] at h1
      conv => lhs; rw [← List.take_append_drop n l, List.drop_eq_getElem_cons hl, h1]
    · cases h

/-- The names of a path, joined. -/
def joinN (ms : List Bs) : Bs := ms.flatMap fun m => m ++ [47]
theorem joinN_cons (m : Bs) (ms : List Bs) : joinN (m :: ms) = m ++ 47 :: joinN ms := by simp [joinN]
theorem joinN_append (a b : List Bs) : joinN (a ++ b) = joinN a ++ joinN b := by simp [joinN]

theorem restP_names (ms : List Bs) (h : ∀ m ∈ ms, nameB m = true) (r : Bs) : restP (joinN ms ++ r) = restP r := by
  induction ms with
  | nil => rfl
  | cons m ms ih =>
    rw [joinN_cons, List.append_assoc, List.cons_append, restP_some (nameStep_name (h m (by simp)))]
    exact ih (fun x hx => h x (by simp [hx]))
theorem restP_split (l : Bs) : ∃ ms, (∀ m ∈ ms, nameB m = true) ∧ l = joinN ms ++ restP l := by
  suffices h : ∀ k (l : Bs), l.length ≤ k → ∃ ms, (∀ m ∈ ms, nameB m = true) ∧ l = joinN ms ++ restP l from h _ l (Nat.le_refl _)
  intro k
  induction k with
  | zero => intro l h; exact ⟨[], by simp, by have : l = [] := List.length_eq_zero_iff.1 (by omega); subst this; rfl⟩
  | succ k ih =>
    intro l h
    cases hn : nameStep l with
    | none => exact ⟨[], by simp, by rw [restP_none hn]; rfl⟩
    | some r =>
      obtain ⟨m, hm, e⟩ := nameStep_split hn
      have hlt := nameStep_lt hn
      obtain ⟨ms, h1, h2⟩ := ih r (by omega)
      refine ⟨m :: ms, ?_, ?_⟩
      · intro x hx; rcases List.mem_cons.1 hx with rfl | hx
        · exact hm
        · exact h1 x hx
      · rw [joinN_cons, restP_some hn, List.append_assoc, List.cons_append, ← h2]; exact e
theorem restP_nil : restP [] = [] := rfl
theorem validB_names (ms : List Bs) (h : ∀ m ∈ ms, nameB m = true) : validB (joinN ms) = true := by
  unfold validB
  have := restP_names ms h []
  rw [List.append_nil] at this
  rw [this]; rfl
theorem validB_split {p : Bs} (h : validB p = true) : ∃ ms, (∀ m ∈ ms, nameB m = true) ∧ p = joinN ms := by
  obtain ⟨ms, h1, h2⟩ := restP_split p
  unfold validB at h
  simp only [beq_iff_eq] at h
  rw [h, List.append_nil] at h2
  exact ⟨ms, h1, h2⟩

theorem nameB_callS (n : Nat) : nameB (callS n) = true := by
  unfold callS
  have h : n % 8 = 0 ∨ n % 8 = 1 ∨ n % 8 = 2 ∨ n % 8 = 3 ∨ n % 8 = 4 ∨ n % 8 = 5 ∨ n % 8 = 6 ∨ n % 8 = 7 := by omega
  rcases h with h | h | h | h | h | h | h | h <;> rw [h] <;> decide
theorem madeL_join (l : Bs) : madeL l = joinN (l.map fun c => callS c.toNat) := by
  induction l with
  | nil => rfl
  | cons c r ih =>
    rw [List.map_cons, joinN_cons, ← ih]
    show (callS c.toNat ++ [47]) ++ madeL r = _
    simp
theorem made_names (l : Bs) : ∀ m ∈ (l.map fun c => callS c.toNat), nameB m = true := by
  intro m hm
  obtain ⟨c, _, rfl⟩ := List.mem_map.1 hm
  exact nameB_callS _
theorem validB_made (l : Bs) : validB (madeS l) = true := by
  unfold madeS; rw [madeL_join]; exact validB_names _ (made_names _)

/-- A path is empty or ends with a slash. -/
theorem joinN_end (ms : List Bs) (h : ms ≠ []) : ∃ q, joinN ms = q ++ [47] := by
  obtain ⟨a, m, rfl⟩ : ∃ a m, ms = a ++ [m] := ⟨ms.dropLast, ms.getLast h, (List.dropLast_concat_getLast h).symm⟩
  exact ⟨joinN a ++ m, by rw [joinN_append]; simp [joinN]⟩
theorem valid_end {p : Bs} (h : validB p = true) (hp : p ≠ []) : ∃ q, p = q ++ [47] := by
  obtain ⟨ms, h1, rfl⟩ := validB_split h
  exact joinN_end ms (fun e => hp (by rw [e]; rfl))
theorem trim_slash (q : Bs) : Lib.trimSuffix (q ++ [47]) [47] = q := by
  unfold Lib.trimSuffix Lib.hasSuffix
  simp
theorem trim_nil : Lib.trimSuffix [] [47] = [] := rfl
theorem textS_slash (q : Bs) : textS (q ++ [47]) = 47 :: q := by unfold textS; rw [trim_slash]
theorem textS_nil : textS [] = [47] := rfl

theorem parse_text {p : Bs} (h : validB p = true) (hl : p.length ≤ 200) : parseS (textS p) = (p, 0) := by
  by_cases hp : p = []
  · subst hp; rfl
  · obtain ⟨q, rfl⟩ := valid_end h hp
    rw [textS_slash]
    unfold parseS
    have hq : q ≠ [] := by
      intro e; subst e
      revert h; decide
    rw [if_neg (by simpa using hq), if_neg (by simp at hl ⊢; omega)]
    exact if_pos h
theorem parse_cases (s : Bs) : parseS s = ([], 10) ∨ ∃ r, parseS s = (r, 0) ∧ validB r = true ∧ textS r = s ∧ r.length ≤ s.length := by
  unfold parseS
  split
  · rename_i h; subst h; exact .inr ⟨[], rfl, rfl, rfl, by simp⟩
  · split
    · exact .inl rfl
    · rename_i h1 h2
      split
      · rename_i h3
        refine .inr ⟨_, rfl, h3, ?_, ?_⟩
        · rw [textS_slash]
          cases s with
          | nil => simp at h2
          | cons c r => simp at h2; simp [h2.1]
        · cases s with
          | nil => simp at h2
          | cons c r => simp
      · exact .inl rfl

theorem valid_join {p m : Bs} (hp : validB p = true) (hm : nameB m = true) : validB (p ++ m ++ [47]) = true := by
  obtain ⟨ms, h1, rfl⟩ := validB_split hp
  have : joinN ms ++ m ++ [47] = joinN (ms ++ [m]) := by rw [joinN_append]; simp [joinN]
  rw [this]
  exact validB_names _ (fun x hx => by rcases List.mem_append.1 hx with h | h; exact h1 x h; simp at h; subst h; exact hm)
theorem lastCut_name {p m : Bs} (hp : validB p = true) (hm : (47 : UInt8) ∉ m) : lastCut (p ++ m) = p.length := by
  have hno : ∀ j : Nat, p.length ≤ j → (p ++ m)[j]? ≠ some 47 := fun j hj e => by
    rw [List.getElem?_append_right hj] at e
    exact hm (List.mem_of_getElem? e)
  by_cases h : p = []
  · subst h
    exact lastCut_zero (fun j => hno j (by simp))
  · obtain ⟨q, rfl⟩ := valid_end hp h
    rw [lastCut_pos (i := q.length)]
    · simp
    · simp
    · intro j hj; exact hno j (by simp; omega)
theorem split_join {p m : Bs} (hp : validB p = true) (hm : nameB m = true) : splitS (p ++ m ++ [47]) = (p, m, 0) := by
  unfold splitS
  rw [if_pos (valid_join hp hm), if_neg (by simp)]
  have e : (p ++ m ++ [47]).take ((p ++ m ++ [47]).length - 1) = p ++ m := by
    have : (p ++ m ++ [47]).length - 1 = (p ++ m).length := by simp
    rw [this]; exact List.take_left
  simp only [e]
  rw [lastCut_name hp (nameB_no47 hm)]
  simp
theorem split_ne {p : Bs} (hp : validB p = true) (h : p ≠ []) : ∃ a m, splitS p = (a, m, 0) ∧ validB a = true ∧ nameB m = true ∧ p = a ++ m ++ [47] := by
  obtain ⟨ms, h1, rfl⟩ := validB_split hp
  have hne : ms ≠ [] := fun e => h (by rw [e]; rfl)
  obtain ⟨b, m, rfl⟩ : ∃ b m, ms = b ++ [m] := ⟨ms.dropLast, ms.getLast hne, (List.dropLast_concat_getLast hne).symm⟩
  have e : joinN (b ++ [m]) = joinN b ++ m ++ [47] := by rw [joinN_append]; simp [joinN]
  have hb := validB_names b (fun x hx => h1 x (by simp [hx]))
  have hm := h1 m (by simp)
  exact ⟨joinN b, m, by rw [e]; exact split_join hb hm, hb, hm, e⟩
theorem splitS_nil : splitS [] = ([], [], 337) := by decide +kernel
theorem prefix_self (p r : Bs) : p.isPrefixOf (p ++ r) = true := by rw [List.isPrefixOf_iff_prefix]; exact List.prefix_append _ _
theorem prefix_long {p q : Bs} (h : p.length < q.length) : q.isPrefixOf p = false := by
  rw [Bool.eq_false_iff]; intro h1; rw [List.isPrefixOf_iff_prefix] at h1; have := h1.length_le; omega

end Go.Proofs.Yticlomakmcjcfaa
