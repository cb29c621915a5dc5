/-
  Plain: what all messages of a list may do to a table; settled messages are right.
-/
import Derived.Test.YtfpcaoacbjhkgaaGreatUJ
namespace Go.Proofs.YtfpcaoacbjhkgaaGreat
open Go.RowKit Go.Sort
set_option linter.unusedVariables false
def Few (m : Ms) : Prop := m.key.length ≤ 100 ∧ m.dst.length ≤ 100
theorem apply_keys (m : Ms) (K : Nat) {t : List Pr} (ht : Srt t) (hk : ∀ x ∈ t, x.1.length ≤ K) (hm : Few m) : ∀ x ∈ applyS m t, x.1.length ≤ K + 100 := by
  intro x hx
  have old : x ∈ t → x.1.length ≤ K + 100 := fun h => by have := hk x h; omega
  have hcl : ∀ a b, b.length ≤ 100 → x ∈ cloneT a b t → x.1.length ≤ K + 100 := by
    intro a b hb hx
    rcases (mem_clone a b ht x).1 hx with h | h
    · obtain ⟨r, h1, h2⟩ := (mem_moved a b t x).1 h
      have := hk _ h1
      simp only [List.length_append] at this
      rw [h2, List.length_append]; omega
    · exact old h.1
  unfold applyS at hx
  split at hx
  · rcases (mem_put _ _ _).1 hx with h | h
    · rw [h]; have := hm.1; show m.key.length ≤ K + 100; omega
    · exact old h.1
  split at hx
  · exact old ((mem_del _ _ _).1 hx).1
  split at hx
  · exact old ((mem_drop _ _ _).1 hx).1
  split at hx
  · exact hcl m.src m.dst hm.2 ((mem_drop _ _ _).1 hx).1
  split at hx
  · exact hcl m.src m.dst hm.2 hx
  split at hx
  · obtain ⟨y, hy, rfl⟩ := (mem_stamp _ _ _ _).1 hx
    rw [stampP_key]; have := hk y hy; omega
  · exact old hx
theorem made_few (a b c d e f : Nat) : Few (madeM a b c d e f) := by
  have k1 := key_len b
  have t1 := to_len b d
  unfold Few madeM
  split
  · simp; omega
  split
  · simp; omega
  split
  · simp
  split
  · simp; omega
  split
  · simp; omega
  · simp
theorem all_grow (ms : List Ms) {t : List Pr} (K : Nat) (ht : Srt t) (hk : ∀ x ∈ t, x.1.length ≤ K) (hm : ∀ m ∈ ms, Few m) : ∀ k, k ≤ ms.length → (allS (ms.take k) t).length + 1 ≤ (t.length + 1) * 2 ^ k ∧ ∀ x ∈ allS (ms.take k) t, x.1.length ≤ K + 100 * k
  | 0, _ => by simp only [List.take_zero]; exact ⟨by show t.length + 1 ≤ _; omega, fun x hx => by have := hk x hx; omega⟩
  | k + 1, h => by
    obtain ⟨h1, h2⟩ := all_grow ms K ht hk hm k (by omega)
    have hlt : k < ms.length := h
    rw [all_take ms t k hlt]
    have h3 := apply_len ms[k] (allS (ms.take k) t)
    have h4 := apply_keys ms[k] _ (srt_all (ms.take k) ht) h2 (hm _ (List.getElem_mem hlt))
    refine ⟨?_, fun x hx => ?_⟩
    · rw [Nat.pow_succ, ← Nat.mul_assoc]; omega
    · have := h4 x hx; omega
theorem okAll_many (ms : List Ms) {t : List Pr} (ht : Srt t) (hl : t.length ≤ 80) (hk : ∀ x ∈ t, x.1.length ≤ 100) (hm : ∀ m ∈ ms, Few m) (h20 : ms.length ≤ 20) : OkAll ms t := by
  intro k h
  obtain ⟨h1, h2⟩ := all_grow ms 100 ht hk hm k h
  have h3 : 2 ^ k ≤ 2 ^ 20 := Nat.pow_le_pow_right (by decide) (by omega)
  have h4 : (t.length + 1) * 2 ^ k ≤ 81 * 2 ^ 20 := Nat.mul_le_mul (by omega) h3
  refine ⟨by omega, fun x hx => ?_⟩
  have := h2 x hx; omega
theorem okAll_end {ms : List Ms} {t : List Pr} (h : OkAll ms t) : (allS ms t).length ≤ 100000000 ∧ ∀ x ∈ allS ms t, x.1.length ≤ 1000000000 := by
  have h1 := h ms.length (Nat.le_refl _)
  rw [List.take_length] at h1
  exact ⟨h1.1, fun x hx => Nat.le_trans (h1.2 x hx) (by omega)⟩
theorem listS_len (x : List R6) (n : Nat) : (listS x n).length ≤ n := by unfold listS; rw [List.length_map]; exact List.length_take_le _ _
variable {w wx wy : World} {L : List (Value × List Pr)} {M : List (Value × List Ms)} {D : List (Value × List Sp)}


/-- A message that does not move makes a table longer by one pair at most, and no key longer than it is told. -/
theorem still_step {m : Ms} {t : List Pr} (K : Nat) (ht : Srt t) (hm : movesB m = false) (hk : m.key.length ≤ K) (hkt : ∀ x ∈ t, x.1.length ≤ K) :
    (applyS m t).length ≤ t.length + 1 ∧ ∀ x ∈ applyS m t, x.1.length ≤ K := by
  have h4 : ¬ m.kind = 4 := fun e => by rw [(moves_iff m).2 (.inl e)] at hm; cases hm
  have h5 : ¬ m.kind = 5 := fun e => by rw [(moves_iff m).2 (.inr e)] at hm; cases hm
  unfold applyS
  split
  · refine ⟨put_length _ _, fun x hx => ?_⟩
    rcases (mem_put _ _ _).1 hx with rfl | ⟨h, _⟩
    · exact hk
    · exact hkt x h
  split
  · exact ⟨Nat.le_trans (List.length_filter_le _ _) (by omega), fun x hx => hkt x (List.mem_filter.1 hx).1⟩
  split
  · exact ⟨Nat.le_trans (List.length_filter_le _ _) (by omega), fun x hx => hkt x (List.mem_filter.1 hx).1⟩
  split
  · refine ⟨by unfold stampT; rw [List.length_map]; omega, fun x hx => ?_⟩
    obtain ⟨y, hy, rfl⟩ := (mem_stamp _ _ _ _).1 hx
    rw [stampP_key]; exact hkt y hy
  · exact ⟨by omega, hkt⟩
theorem okAll_still {L : List Ms} {t : List Pr} (K : Nat) (hK : K ≤ 1000000000) (ht : Srt t) (hm : ∀ m ∈ L, movesB m = false ∧ m.key.length ≤ K) (hkt : ∀ x ∈ t, x.1.length ≤ K) (hl : t.length + L.length ≤ 100000000) : OkAll L t := by
  have h : ∀ k, k ≤ L.length → (allS (L.take k) t).length ≤ t.length + k ∧ ∀ x ∈ allS (L.take k) t, x.1.length ≤ K := by
    intro k
    induction k with
    | zero => exact fun _ => ⟨by simp [allS], by simpa [allS] using hkt⟩
    | succ k ih =>
      intro hk
      obtain ⟨h1, h2⟩ := ih (by omega)
      rw [all_take L t k (by omega)]
      obtain ⟨h3, h4⟩ := still_step K (srt_all (L.take k) ht) (hm _ (List.getElem_mem (show k < L.length by omega))).1 (hm _ (List.getElem_mem (show k < L.length by omega))).2 h2
      exact ⟨by omega, h4⟩
  intro k hk
  obtain ⟨h1, h2⟩ := h k hk
  exact ⟨by omega, fun x hx => Nat.le_trans (h2 x hx) hK⟩

/-- A made message, as the laws use it. -/
theorem made_okU (x : R6) : SizeM (madeX x) ∧ validM (madeX x) = true ∧ Few (madeX x) := ⟨made_size _ _ _ _ _ _, made_valid _ _ _ _ _ _, made_few _ _ _ _ _ _⟩
theorem listS_okU (x : List R6) (n : Nat) : ∀ m ∈ listS x n, SizeM m ∧ validM m = true ∧ Few m := fun m hm => by
  unfold listS at hm
  obtain ⟨y, _, rfl⟩ := List.mem_map.1 hm
  exact made_okU y
theorem valid_apart {m : Ms} (h : validM m = true) (hm : movesB m = true) : m.src.length ≤ 200 ∧ m.dst.length ≤ 200 ∧ 1 ≤ m.src.length ∧ 1 ≤ m.dst.length := by
  unfold validM at h
  rw [Bool.and_eq_true] at h
  have h1 := h.1
  have ha : apartB m.src m.dst = true := by
    rcases (moves_iff m).1 hm with hk | hk
    · unfold fitsB at h1; rw [hk] at h1; exact h1
    · unfold fitsB at h1; rw [hk] at h1; exact h1
  unfold apartB frontB at ha
  simp only [Bool.and_eq_true, decide_eq_true_eq] at ha
  omega
theorem preH_len : ∀ (p h : Bs), preH p = some h → h.length ≤ p.length := by
  intro p
  induction p with
  | nil => intro h e; cases e
  | cons c r ih =>
    intro h e
    rw [preH_cons] at e
    cases hr : preH r with
    | some g => rw [hr] at e; cases e; have := ih g hr; simp; omega
    | none =>
      rw [hr] at e
      dsimp only at e
      split at e
      · cases e
      · cases e; simp
theorem preT_len' (p : Bs) : (preT p).length ≤ p.length := by
  unfold preT
  cases h : preH p with
  | none => simp
  | some g => simpa using preH_len p g h
theorem drop_valid (p : Bs) (h : p.length ≤ 65535) : validM (dropM p) = true := by
  have h1 : emptyB (p, preT p) = false := prefix_nonempty p
  have h2 := preT_len' p
  unfold validM
  rw [Bool.and_eq_true]
  refine ⟨?_, by rw [decide_eq_true_eq]; rfl⟩
  show spanB p (preT p) = true
  unfold spanB
  rw [h1]
  simp
  omega
/-- What a pair of a law's table may be. -/
def OkP (x : Pr) : Prop := x.1.length ≤ 65000 ∧ x.2.1.length ≤ 64 ∧ 0 ≤ x.2.2 ∧ x.2.2 ≤ 1000000000
theorem put_valid {m : Ms} (hm : m.dst.length ≤ 200 ∧ 1 ≤ m.dst.length) {x : Pr} (h : OkP x) : validM (putM m x) = true := by
  obtain ⟨h1, h2, h3, h4⟩ := h
  unfold validM
  rw [Bool.and_eq_true]
  refine ⟨?_, by rw [decide_eq_true_eq]; rfl⟩
  show (keyB (keyT m x.1) && (decide (x.2.1.length ≤ 64) && stampB x.2.2)) = true
  have hk : (keyT m x.1).length = m.dst.length + (x.1.length - m.src.length) := by unfold keyT; rw [List.length_append, List.length_drop]
  unfold keyB stampB
  simp only [Bool.and_eq_true, decide_eq_true_eq]
  omega
theorem settled_valid {m o : Ms} {t : List Pr} (hv : validM m = true) (ht : ∀ x ∈ t, OkP x) (h : o ∈ settledS m t) : validM o = true := by
  rcases mem_settled h with ⟨_, rfl⟩ | ⟨hm, ⟨p, hp, rfl⟩ | ⟨x, hx, rfl⟩⟩
  · exact hv
  · have ha := valid_apart hv hm
    rcases hp with rfl | rfl
    · exact drop_valid _ (by omega)
    · exact drop_valid _ (by omega)
  · exact put_valid ⟨(valid_apart hv hm).2.1, (valid_apart hv hm).2.2.2⟩ (ht x hx)
theorem settled_size {m o : Ms} {t : List Pr} (hz : SizeM m) (hv : validM m = true) (ht : ∀ x ∈ t, x.1.length ≤ 900000000 ∧ x.2.1.length ≤ 1000000000) (h : o ∈ settledS m t) : SizeM o := by
  rcases mem_settled h with ⟨_, rfl⟩ | ⟨hm, ⟨p, hp, rfl⟩ | ⟨x, hx, rfl⟩⟩
  · exact hz
  · have ha := valid_apart hv hm
    have hl : p.length ≤ 200 := by rcases hp with rfl | rfl <;> omega
    have h2 := preT_len' p
    unfold SizeM dropM
    simp
    omega
  · have ha := valid_apart hv hm
    have h1 := ht x hx
    have hk : (keyT m x.1).length = m.dst.length + (x.1.length - m.src.length) := by unfold keyT; rw [List.length_append, List.length_drop]
    unfold SizeM putM
    simp
    omega
theorem settled_key {m o : Ms} {t : List Pr} (K : Nat) (hk : m.key.length ≤ K) (hd : m.dst.length ≤ 200) (ht : ∀ x ∈ t, x.1.length + 200 ≤ K) (h : o ∈ settledS m t) : o.key.length ≤ K := by
  rcases mem_settled h with ⟨_, rfl⟩ | ⟨hm, ⟨p, hp, rfl⟩ | ⟨x, hx, rfl⟩⟩
  · exact hk
  · exact Nat.zero_le _
  · have h1 := ht x hx
    show (keyT m x.1).length ≤ K
    unfold keyT
    rw [List.length_append, List.length_drop]
    omega
theorem made_okP (l : List Rw) : ∀ x ∈ T4.madeS l, OkP x := fun x hx => by
  have h1 := T4.made_small x hx
  unfold T4.madeS at hx
  obtain ⟨y, _, rfl⟩ := T4.foldR_mem hx
  refine ⟨by omega, by omega, ?_, ?_⟩
  · show (0 : Int) ≤ ((y.2.2 % 4 : Nat) : Int); omega
  · show ((y.2.2 % 4 : Nat) : Int) ≤ 1000000000; omega

end Go.Proofs.YtfpcaoacbjhkgaaGreat
