/-
  Pools, plain: what is reached, by marks; soundness. No program.
-/
import Derived.Test.YtlgangcldlphnaaPB
namespace Go.Proofs.Ytlgangcldlphnaa
set_option linter.unusedVariables false

def mkd (m : List Bool) (i : Nat) : Bool := m.getD i false
theorem mk_lt {m : List Bool} {i : Nat} (h : mkd m i = true) : i < m.length := by
  rcases Nat.lt_or_ge i m.length with h1 | h1
  · exact h1
  · simp [mkd, h1] at h
theorem mk_get {m : List Bool} {i : Nat} (h : i < m.length) : mkd m i = m[i] := by simp [mkd, h]
theorem mk_set {m : List Bool} {k : Nat} (b : Bool) (i : Nat) (h : k < m.length) : mkd (m.set k b) i = if i = k then b else mkd m i := by
  unfold mkd
  rw [List.getD_eq_getElem?_getD, List.getElem?_set, List.getD_eq_getElem?_getD]
  by_cases e : k = i
  · subst e; simp [h]
  · have : ¬ i = k := fun h => e h.symm
    simp [e, this]
theorem mk_rep (n i : Nat) : mkd (List.replicate n false) i = false := by
  unfold mkd
  rw [List.getD_eq_getElem?_getD, List.getElem?_replicate]
  split <;> rfl
/-- How many are not marked. -/
def unm (m : List Bool) : Nat := m.count false
theorem unm_set {m : List Bool} {k : Nat} (h : k < m.length) (hk : mkd m k = false) : unm (m.set k true) + 1 = unm m := by
  induction m generalizing k with
  | nil => simp at h
  | cons x m ih =>
    cases k with
    | zero =>
      have hx : x = false := by simpa [mkd] using hk
      subst hx
      simp [unm]
    | succ k =>
      have := ih (k := k) (by simpa using h) (by simpa [mkd] using hk)
      unfold unm at *
      rw [List.set_cons_succ, List.count_cons, List.count_cons]
      omega
theorem unm_mono : ∀ {m m' : List Bool}, m'.length = m.length → (∀ i, mkd m i = true → mkd m' i = true) → unm m' ≤ unm m
  | [], m', hl, _ => by have : m' = [] := List.length_eq_zero_iff.1 hl; subst this; exact Nat.le_refl _
  | x :: m, [], hl, _ => by simp at hl
  | x :: m, y :: m', hl, h => by
    have ih := unm_mono (m := m) (m' := m') (by simpa using hl) (fun i hi => by have := h (i + 1) (by simpa [mkd] using hi); simpa [mkd] using this)
    have h0 := h 0
    unfold unm at *
    rw [List.count_cons, List.count_cons]
    cases x <;> cases y <;> simp [mkd] at h0 ⊢ <;> omega
/-- What a walk from W marks. -/
structure Vis (P : List Sl) (W : List Int) (m m' : List Bool) : Prop where
  len : m'.length = m.length
  mono : ∀ i, mkd m i = true → mkd m' i = true
  root : ∀ k ∈ W, usedB P k = true → mkd m' k.toNat = true
  new : ∀ i, mkd m' i = true → mkd m i = false → Rch P W i ∧ ∀ k ∈ (atP P i).node.kids, usedB P k = true → mkd m' k.toNat = true
theorem Vis.nil (P : List Sl) (m : List Bool) : Vis P [] m m :=
  ⟨rfl, fun i h => h, fun k h => by simp at h, fun i h k => by rw [h] at k; cases k⟩
theorem Vis.skip {P : List Sl} {W : List Int} {m m1 : List Bool} {k : Int} (h : Vis P W m m1) (hk : usedB P k = false ∨ mkd m1 k.toNat = true) : Vis P (W ++ [k]) m m1 :=
  ⟨h.len, h.mono, fun j hj hu => by
    rcases List.mem_append.1 hj with h1 | h1
    · exact h.root j h1 hu
    · have : j = k := by simpa using h1
      subst this
      rcases hk with h2 | h2
      · rw [hu] at h2; cases h2
      · exact h2, fun i h1 h2 => ⟨(h.new i h1 h2).1.mono fun j hj => List.mem_append_left _ hj, (h.new i h1 h2).2⟩⟩
theorem Vis.step {P : List Sl} {W : List Int} {m m1 m2 : List Bool} {k : Int} (h : Vis P W m m1) (hu : usedB P k = true) (hm : mkd m1 k.toNat = false) (hl : m1.length = P.length) (h2 : Vis P (atP P k.toNat).node.kids (m1.set k.toNat true) m2) : Vis P (W ++ [k]) m m2 := by
  have hkl : k.toNat < m1.length := by rw [hl]; exact (usedB_lt hu).2
  have up : ∀ i, mkd m1 i = true → mkd m2 i = true := fun i hi => h2.mono i (by rw [mk_set _ _ hkl]; split <;> simp [hi])
  have hkk : mkd m2 k.toNat = true := h2.mono _ (by rw [mk_set _ _ hkl]; simp)
  refine ⟨by rw [h2.len, List.length_set, h.len], fun i hi => up i (h.mono i hi), fun j hj hju => ?_, fun i h3 h4 => ?_⟩
  · rcases List.mem_append.1 hj with h5 | h5
    · exact up _ (h.root j h5 hju)
    · have : j = k := by simpa using h5
      subst this; exact hkk
  · by_cases h5 : mkd m1 i = true
    · obtain ⟨h6, h7⟩ := h.new i h5 h4
      exact ⟨h6.mono fun j hj => List.mem_append_left _ hj, fun j hj hju => up _ (h7 j hj hju)⟩
    · have hr : Rch P (W ++ [k]) k.toNat := .root (by simp) hu
      by_cases h6 : i = k.toNat
      · subst h6
        exact ⟨hr, fun j hj hju => h2.root j hj hju⟩
      · obtain ⟨h7, h8⟩ := h2.new i h3 (by rw [mk_set _ _ hkl, if_neg h6]; simpa using h5)
        exact ⟨h7.sub fun j hj hju => .kid hr hj hju, h8⟩
theorem Vis.iff {P : List Sl} {W : List Int} {m' : List Bool} {n : Nat} (h : Vis P W (List.replicate n false) m') (i : Nat) : mkd m' i = true ↔ Rch P W i := by
  constructor
  · exact fun h1 => (h.new i h1 (mk_rep n i)).1
  · intro h1
    induction h1 with
    | root h2 h3 => exact h.root _ h2 h3
    | @kid i k h2 h3 h4 ih => exact (h.new i ih (mk_rep n i)).2 _ h3 h4
/-- The marks of a queue. -/
def markQ (P : List Sl) : Nat → List Int → List Bool → List Bool
  | 0, _, m => m
  | f + 1, [], m => m
  | f + 1, k :: V, m => if usedB P k && !mkd m k.toNat then markQ P f (V ++ (atP P k.toNat).node.kids) (m.set k.toNat true) else markQ P f V m
theorem Vis.perm {P : List Sl} {W V : List Int} {m m' : List Bool} (h : Vis P W m m') (hp : ∀ k, k ∈ W ↔ k ∈ V) : Vis P V m m' :=
  ⟨h.len, h.mono, fun k hk => h.root k ((hp k).2 hk), fun i h1 h2 => ⟨(h.new i h1 h2).1.mono fun k hk => (hp k).1 hk, (h.new i h1 h2).2⟩⟩
theorem Vis.front {P : List Sl} {V : List Int} {m m2 : List Bool} {k : Int} (hu : usedB P k = true) (hm : mkd m k.toNat = false) (hl : m.length = P.length) (h2 : Vis P (V ++ (atP P k.toNat).node.kids) (m.set k.toNat true) m2) : Vis P (k :: V) m m2 := by
  have hkl : k.toNat < m.length := by rw [hl]; exact (usedB_lt hu).2
  have hkk : mkd m2 k.toNat = true := h2.mono _ (by rw [mk_set _ _ hkl]; simp)
  refine ⟨by rw [h2.len, List.length_set], fun i hi => h2.mono i (by rw [mk_set _ _ hkl]; split <;> simp [hi]), fun j hj hju => ?_, fun i h3 h4 => ?_⟩
  · rcases List.mem_cons.1 hj with h5 | h5
    · subst h5; exact hkk
    · exact h2.root j (List.mem_append_left _ h5) hju
  · have hr : Rch P (k :: V) k.toNat := .root (by simp) hu
    by_cases h6 : i = k.toNat
    · subst h6
      exact ⟨hr, fun j hj hju => h2.root j (List.mem_append_right _ hj) hju⟩
    · obtain ⟨h7, h8⟩ := h2.new i h3 (by rw [mk_set _ _ hkl, if_neg h6]; exact h4)
      refine ⟨h7.sub fun j hj hju => ?_, h8⟩
      rcases List.mem_append.1 hj with h9 | h9
      · exact .root (List.mem_cons_of_mem _ h9) hju
      · exact .kid hr h9 hju
theorem own_le {s : Sl} : ∀ {P : List Sl}, s ∈ P → (ownK s).length ≤ (kidsA P).length
  | x :: P, h => by
    unfold kidsA
    rw [List.flatMap_cons, List.length_append]
    rcases List.mem_cons.1 h with h1 | h1
    · subst h1; omega
    · have := own_le h1; unfold kidsA at this; omega
theorem kids_len {P : List Sl} {i : Nat} (h : (atP P i).used = true) : (atP P i).node.kids.length ≤ (kidsA P).length := by
  have hi := used_lt h
  have h2 := own_le (List.getElem_mem hi)
  rw [atP_lt hi] at h ⊢
  simpa [ownK, h] using h2
theorem markQ_vis (P : List Sl) : ∀ (f : Nat) (W : List Int) (m : List Bool), m.length = P.length → W.length + unm m * (kidsA P).length ≤ f → Vis P W m (markQ P f W m)
  | 0, W, m, hl, h => by
    have : W = [] := List.length_eq_zero_iff.1 (by omega)
    subst this; exact Vis.nil P m
  | f + 1, [], m, hl, h => Vis.nil P m
  | f + 1, k :: V, m, hl, h => by
    unfold markQ
    by_cases hc : (usedB P k && !mkd m k.toNat) = true
    · rw [if_pos hc]
      simp only [Bool.and_eq_true, Bool.not_eq_true'] at hc
      obtain ⟨hu, hm⟩ := hc
      obtain ⟨h0, h1⟩ := usedB_iff.1 hu
      have hs := unm_set (m := m) (k := k.toNat) (by rw [hl]; exact used_lt h1) hm
      have hk := kids_len h1
      refine Vis.front hu hm hl (markQ_vis P f _ _ (by rw [List.length_set]; exact hl) ?_)
      rw [List.length_append]
      rw [List.length_cons] at h
      rw [← hs, Nat.succ_mul] at h
      omega
    · rw [if_neg hc]
      have hc2 : usedB P k = false ∨ mkd m k.toNat = true := by
        by_cases hu : usedB P k = true
        · simp only [hu, Bool.true_and] at hc; exact .inr (by simpa using hc)
        · exact .inl (by simpa using hu)
      have ih := markQ_vis P f V m hl (by rw [List.length_cons] at h; omega)
      refine (Vis.skip (k := k) ih ?_).perm (fun j => by simp [or_comm])
      rcases hc2 with h1 | h1
      · exact .inl h1
      · exact .inr (ih.mono _ h1)
def fuelR (P : List Sl) (W : List Int) : Nat := W.length + P.length * (kidsA P).length
def marksP (P : List Sl) (W : List Int) : List Bool := markQ P (fuelR P W) W (List.replicate P.length false)
theorem marksP_vis (P : List Sl) (W : List Int) : Vis P W (List.replicate P.length false) (marksP P W) :=
  markQ_vis P _ W _ (by simp) (by unfold fuelR unm; simp)
/-- The indices that are marked, in order. -/
def idxM (m : List Bool) (n : Nat) : List Int := ((List.range n).filter (fun i => mkd m i)).map (fun i : Nat => (i : Int))
theorem idxM_snoc (m : List Bool) (n : Nat) : idxM m (n + 1) = idxM m n ++ (if mkd m n then [(n : Int)] else []) := by
  unfold idxM
  rw [List.range_succ, List.filter_append, List.map_append]
  by_cases h : mkd m n = true
  · simp [h]
  · simp [h]
theorem idxM_len (m : List Bool) (n : Nat) : (idxM m n).length ≤ n := by
  unfold idxM
  rw [List.length_map]
  exact Nat.le_trans (List.length_filter_le _ _) (by simp)
/-- What Reach answers. -/
def reachP (P : List Sl) (W : List Int) : List Int := idxM (marksP P W) P.length
theorem idx_congr {m m' : List Bool} (n : Nat) (h : ∀ i, mkd m i = mkd m' i) : idxM m n = idxM m' n := by
  unfold idxM
  congr 1
  exact List.filter_congr fun i _ => h i
theorem reach_of {P : List Sl} {W : List Int} {m : List Bool} (h : Vis P W (List.replicate P.length false) m) : idxM m P.length = reachP P W :=
  idx_congr _ fun i => by rw [Bool.eq_iff_iff, h.iff i, (marksP_vis P W).iff i]
theorem mem_reach {P : List Sl} {W : List Int} {k : Int} : k ∈ reachP P W ↔ 0 ≤ k ∧ Rch P W k.toNat := by
  unfold reachP idxM
  simp only [List.mem_map, List.mem_filter, List.mem_range]
  constructor
  · rintro ⟨i, ⟨h1, h2⟩, rfl⟩
    exact ⟨by omega, by rw [show ((i : Int)).toNat = i by omega]; exact ((marksP_vis P W).iff i).1 h2⟩
  · rintro ⟨h1, h2⟩
    exact ⟨k.toNat, ⟨used_lt h2.used, ((marksP_vis P W).iff _).2 h2⟩, by omega⟩

end Go.Proofs.Ytlgangcldlphnaa
