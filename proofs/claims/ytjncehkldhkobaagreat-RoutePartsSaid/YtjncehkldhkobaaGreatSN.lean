/-
  Plain facts for the law RouteParts: a message that crosses reads or writes in two kids.
-/
import Derived.Test.YtjncehkldhkobaaGreatSL
namespace Go.Proofs.YtjncehkldhkobaaGreat
open Go.RowKit Go.Sort
set_option linter.unusedVariables false

theorem count_two {α : Type} (p : α → Bool) (l : List α) (i j : Nat) (hij : i < j) (hj : j < l.length) (h1 : p l[i] = true) (h2 : p l[j] = true) : 1 < l.countP p := by
  have e : l = l.take j ++ l.drop j := (List.take_append_drop j l).symm
  have a1 : 0 < (l.take j).countP p := List.countP_pos_iff.2 ⟨l[i], by rw [List.mem_take_iff_getElem]; exact ⟨i, by omega, rfl⟩, h1⟩
  have a2 : 0 < (l.drop j).countP p := List.countP_pos_iff.2 ⟨l[j], by rw [List.mem_drop_iff_getElem]; exact ⟨0, by simpa using hj, by simp⟩, h2⟩
  rw [e, List.countP_append]; omega
def tchB (m : Ms) (s : Sp) : Bool := touchB [s] (writesS m) || touchB [s] (readsS m)
theorem tch_iff (m : Ms) (s : Sp) : tchB m s = true ↔ ∃ k, inB (touchS m) k = true ∧ hasB s k = true := by
  unfold tchB
  rw [Bool.or_eq_true, touch_iff, touch_iff]
  have h1 : ∀ k, inB [s] k = hasB s k := fun k => by unfold inB; simp
  have h2 : ∀ k, inB (touchS m) k = (inB (readsS m) k || inB (writesS m) k) := fun k => by unfold touchS; exact inB_append _ _ _
  constructor
  · rintro (⟨k, ha, hb⟩ | ⟨k, ha, hb⟩)
    · exact ⟨k, by rw [h2, hb, Bool.or_true], by rw [← h1]; exact ha⟩
    · exact ⟨k, by rw [h2, hb, Bool.true_or], by rw [← h1]; exact ha⟩
  · rintro ⟨k, ha, hb⟩
    rw [h2, Bool.or_eq_true] at ha
    rcases ha with ha | ha
    · exact .inr ⟨k, by rw [h1]; exact hb, ha⟩
    · exact .inl ⟨k, by rw [h1]; exact hb, ha⟩
def tchN (m : Ms) (ps : List Bs) (k : Nat) : Nat := ((kidsS ps).take k).countP (tchB m)
theorem tchN_step (m : Ms) (ps : List Bs) {k : Nat} (hk : k < ps.length + 1) : tchN m ps (k + 1) = tchN m ps k + if tchB m (kidSp ps k) then 1 else 0 := by
  unfold tchN
  have hk' : k < (kidsS ps).length := by rw [kids_len]; exact hk
  rw [List.take_succ_eq_append_getElem hk', List.countP_append, List.countP_singleton, kidSp_at hk]
theorem tchN_len (m : Ms) (ps : List Bs) (k : Nat) : tchN m ps k ≤ k := Nat.le_trans List.countP_le_length (by rw [List.length_take]; omega)
theorem tchN_two {m : Ms} {ps : List Bs} (hs : SrtP ps) (hc : crossB m ps = true) : 1 < tchN m ps (ps.length + 1) := by
  unfold tchN
  rw [List.take_of_length_le (by rw [kids_len]; omega)]
  unfold crossB at hc
  rw [Bool.and_eq_true] at hc
  obtain ⟨hm, hn⟩ := hc
  have h1 := touch_src hm
  have hn' : ¬ ∀ k, inB (touchS m) k = true → hasB (kidSp ps (kidN m.src ps)) k = true := fun h => by
    rw [(lies_iff m _).2 h] at hn; cases hn
  obtain ⟨k, hk⟩ := Classical.not_forall.1 hn'
  rw [Classical.not_imp] at hk
  obtain ⟨h2, h3⟩ := hk
  have hne : kidN k ps ≠ kidN m.src ps := fun e => h3 (by rw [← e]; exact kid_own hs k)
  have hl : ∀ j, kidN j ps < ps.length + 1 := fun j => Nat.lt_succ_of_le (kidN_le j ps)
  have hp : ∀ j, inB (touchS m) j = true → tchB m ((kidsS ps)[kidN j ps]'(by rw [kids_len]; exact hl j)) = true := fun j hj => by
    rw [← kidSp_at (hl j)]; exact (tch_iff m _).2 ⟨j, hj, kid_own hs j⟩
  rcases Nat.lt_or_ge (kidN k ps) (kidN m.src ps) with h | h
  · exact count_two _ _ _ _ h _ (hp k h2) (hp _ h1)
  · exact count_two _ _ _ _ (by omega : kidN m.src ps < kidN k ps) _ (hp _ h1) (hp k h2)

end Go.Proofs.YtjncehkldhkobaaGreat
