/-
  Plain facts: tables stay short while few messages act on them; moves and clones.
-/
import Derived.Test.YtdckiaokldkfmaaGreatNI
namespace Go.Proofs.YtdckiaokldkfmaaGreat
set_option linter.unusedVariables false

def Few (m : Ms) : Prop := m.key.length ≤ 100 ∧ m.dst.length ≤ 100
theorem apply_keys (m : Ms) (K : Nat) {t : List Pr} (ht : Srt t) (hk : ∀ x ∈ t, x.1.length ≤ K) (hm : Few m) : ∀ x ∈ applyS m t, x.1.length ≤ K + 100 := by
  intro x hx
  have old : x ∈ t → x.1.length ≤ K + 100 := fun h => by have := hk x h; omega
  have hcl : ∀ a b, b.length ≤ 100 → x ∈ cloneT a b t → x.1.length ≤ K + 100 := by
    intro a b hb hx
    rcases (mem_clone a b ht x).1 hx with h | h
    · obtain ⟨r, h1, h2⟩ := (mem_moved a b t x).1 h
      have := hk _ h1
      simp only [List.length_append] at this
      rw [h2, List.length_append]; omega
    · exact old h.1
  unfold applyS at hx
  split at hx
  · rcases (mem_put _ _ _).1 hx with h | h
    · rw [h]; have := hm.1; show m.key.length ≤ K + 100; omega
    · exact old h.1
  split at hx
  · exact old ((mem_del _ _ _).1 hx).1
  split at hx
  · exact old ((mem_drop _ _ _).1 hx).1
  split at hx
  · exact hcl m.src m.dst hm.2 ((mem_drop _ _ _).1 hx).1
  split at hx
  · exact hcl m.src m.dst hm.2 hx
  split at hx
  · obtain ⟨y, hy, rfl⟩ := (mem_stamp _ _ _ _).1 hx
    rw [stampP_key]; have := hk y hy; omega
  · exact old hx
theorem all_few (ms : List Ms) {t : List Pr} (ht : Srt t) (hl : t.length ≤ 12) (hk : ∀ x ∈ t, x.1.length ≤ 100) (hm : ∀ m ∈ ms, Few m) : ∀ k, k ≤ ms.length → (allS (ms.take k) t).length + 1 ≤ 13 * 2 ^ k ∧ ∀ x ∈ allS (ms.take k) t, x.1.length ≤ 100 + 100 * k
  | 0, _ => by simp only [List.take_zero]; exact ⟨by show t.length + 1 ≤ _; omega, fun x hx => by have := hk x hx; omega⟩
  | k + 1, h => by
    obtain ⟨h1, h2⟩ := all_few ms ht hl hk hm k (by omega)
    have hlt : k < ms.length := h
    rw [all_take ms t k hlt]
    have h3 := apply_len ms[k] (allS (ms.take k) t)
    have h4 := apply_keys ms[k] _ (srt_all (ms.take k) ht) h2 (hm _ (List.getElem_mem hlt))
    refine ⟨?_, fun x hx => ?_⟩
    · rw [Nat.pow_succ]; omega
    · have := h4 x hx; omega
theorem okAll_few (ms : List Ms) {t : List Pr} (ht : Srt t) (hl : t.length ≤ 12) (hk : ∀ x ∈ t, x.1.length ≤ 100) (hm : ∀ m ∈ ms, Few m) (h8 : ms.length ≤ 8) : OkAll ms t := by
  intro k h
  obtain ⟨h1, h2⟩ := all_few ms ht hl hk hm k h
  have h3 : 2 ^ k ≤ 2 ^ 8 := Nat.pow_le_pow_right (by decide) (by omega)
  refine ⟨by omega, fun x hx => ?_⟩
  have := h2 x hx; omega
theorem made_few (a b c d e f : Nat) : Few (madeM a b c d e f) := by
  have k1 := key_len b
  have t1 := to_len b d
  unfold Few madeM
  split
  · simp; omega
  split
  · simp; omega
  split
  · simp
  split
  · simp; omega
  split
  · simp; omega
  · simp
theorem preH_length (p : Bs) : ∀ h, preH p = some h → h.length ≤ p.length := by
  induction p with
  | nil => intro h e; simp [preH] at e
  | cons c r ih =>
    intro h e
    rw [preH_cons] at e
    cases hr : preH r with
    | some h2 =>
      rw [hr] at e
      have := ih h2 hr
      simp at e
      rw [← e]; simp; omega
    | none =>
      rw [hr] at e
      by_cases h255 : c = 255
      · simp [h255] at e
      · simp [h255] at e
        rw [← e]; simp
theorem preT_length (p : Bs) : (preT p).length ≤ p.length := by
  unfold preT
  cases h : preH p with
  | none => simp
  | some q => exact preH_length p q h
theorem without_one (s : Sp) (t : List Pr) : withoutS [s] t = dropS s t := by
  unfold withoutS dropS
  congr 1; funext x; rw [inB_one]
theorem apart_both {a b : Bs} (h : apartB a b = true) : b.isPrefixOf a = false ∧ a.isPrefixOf b = false := by
  unfold apartB at h
  simp only [Bool.and_eq_true, Bool.not_eq_true'] at h
  exact h.2.2
theorem move_clone (a b : Bs) (t : List Pr) (m : Ms) (hm : m.kind = 4) (h1 : m.src = a) (h2 : m.dst = b) : allS [⟨5, [], [], [], [], a, b, 0⟩, ⟨3, [], [], a, preT a, [], [], 0⟩] t = applyS m t := by
  unfold applyS
  rw [if_neg (by omega), if_neg (by omega), if_neg (by omega), if_pos hm, h1, h2]
  rfl
theorem move_again (a b : Bs) {t : List Pr} (ht : Srt t) (m : Ms) (hm : m.kind = 4) (h1 : m.src = a) (h2 : m.dst = b) (hp : apartB a b = true) : allS [m, ⟨4, [], [], [], [], b, a, 0⟩] t = withoutS [preS b] t := by
  obtain ⟨p1, p2⟩ := apart_both hp
  have e : allS [m, ⟨4, [], [], [], [], b, a, 0⟩] t = moveT b a (applyS m t) := rfl
  rw [e, without_one]
  unfold applyS
  rw [if_neg (by omega), if_neg (by omega), if_neg (by omega), if_pos hm, h1, h2]
  exact move_back ht p1 p2

end Go.Proofs.YtdckiaokldkfmaaGreat
