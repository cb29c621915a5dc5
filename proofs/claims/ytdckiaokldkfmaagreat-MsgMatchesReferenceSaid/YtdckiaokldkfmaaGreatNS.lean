/-
  Plain facts on messages: what they change, what they depend on, when they may be exchanged. No program.
-/
import Derived.Test.YtdckiaokldkfmaaGreatMS
namespace Go.Proofs.YtdckiaokldkfmaaGreat
set_option linter.unusedVariables false

def withoutS (l : List Sp) (t : List Pr) : List Pr := t.filter fun x => !inB l x.1
def withinS (l : List Sp) (t : List Pr) : List Pr := t.filter fun x => inB l x.1
theorem mem_without (l : List Sp) (t : List Pr) (x : Pr) : x ∈ withoutS l t ↔ x ∈ t ∧ inB l x.1 = false := by unfold withoutS; rw [List.mem_filter]; simp
theorem mem_within (l : List Sp) (t : List Pr) (x : Pr) : x ∈ withinS l t ↔ x ∈ t ∧ inB l x.1 = true := by unfold withinS; rw [List.mem_filter]
theorem srt_without (l : List Sp) {t : List Pr} (h : Srt t) : Srt (withoutS l t) := srt_filter _ h
theorem srt_within (l : List Sp) {t : List Pr} (h : Srt t) : Srt (withinS l t) := srt_filter _ h
theorem inB_one (s : Sp) (k : Bs) : inB [s] k = hasB s k := by simp [inB]
theorem inB_two (s u : Sp) (k : Bs) : inB [s, u] k = (hasB s k || hasB u k) := by simp [inB]
theorem inB_nil (k : Bs) : inB [] k = false := rfl
theorem has_pre (p k : Bs) : hasB (preS p) k = p.isPrefixOf k := prefix_has p k
theorem has_one (k j : Bs) : hasB (oneS k) j = (j == k) := one_has k j

theorem mem_stamp (s : Sp) (n : Int) (t : List Pr) (x : Pr) : x ∈ stampT s n t ↔ ∃ y ∈ t, stampP s n y = x := by unfold stampT; rw [List.mem_map]
theorem stampP_key (s : Sp) (n : Int) (y : Pr) : (stampP s n y).1 = y.1 := by unfold stampP; split <;> rfl
theorem mem_clone (a b : Bs) {t : List Pr} (h : Srt t) (x : Pr) : x ∈ cloneT a b t ↔ x ∈ movedT a b t ∨ (x ∈ t ∧ b.isPrefixOf x.1 = false) := by
  unfold cloneT
  rw [mem_union _ (srt_moved a b h), mem_drop, has_pre]
  constructor
  · rintro (h1 | ⟨h1, _⟩)
    · exact .inl h1
    · exact .inr h1
  · rintro (h1 | h1)
    · exact .inl h1
    · refine .inr ⟨h1, fun y hy e => ?_⟩
      obtain ⟨r, _, e2⟩ := (mem_moved a b t y).1 hy
      rw [← e, e2, prefix_app] at h1
      exact absurd h1.2 (by simp)
theorem mem_move (a b : Bs) {t : List Pr} (h : Srt t) (x : Pr) : x ∈ moveT a b t ↔ (x ∈ movedT a b t ∨ (x ∈ t ∧ b.isPrefixOf x.1 = false)) ∧ a.isPrefixOf x.1 = false := by
  unfold moveT
  rw [mem_drop, has_pre, mem_clone a b h]
theorem moved_pre {a b : Bs} {t : List Pr} {x : Pr} (h : x ∈ movedT a b t) : b.isPrefixOf x.1 = true := by
  obtain ⟨r, _, e⟩ := (mem_moved a b t x).1 h
  rw [e, prefix_app]

theorem srt_stamp' (s : Sp) (n : Int) {l : List Pr} (h : Srt l) : Srt (stampT s n l) := by
  unfold stampT Srt
  rw [List.pairwise_map]
  refine List.Pairwise.imp (fun {x y} hxy => ?_) h
  rw [stampP_key, stampP_key]; exact hxy
theorem srt_apply' (m : Ms) {l : List Pr} (h : Srt l) : Srt (applyS m l) := by
  unfold applyS
  split
  · exact srt_put _ h
  split
  · exact srt_del _ h
  split
  · exact srt_drop _ h
  split
  · exact srt_drop _ (srt_union (srt_drop _ h) _)
  split
  · exact srt_union (srt_drop _ h) _
  split
  · exact srt_stamp' _ _ h
  exact h

/-- Outside of what a message writes nothing changes. -/
theorem apply_out (m : Ms) {t : List Pr} (ht : Srt t) (x : Pr) (hx : inB (writesS m) x.1 = false) : x ∈ applyS m t ↔ x ∈ t := by
  unfold writesS at hx
  unfold applyS
  by_cases h1 : m.kind = 1
  · rw [if_pos h1] at hx ⊢
    rw [inB_one, has_one] at hx
    rw [mem_put]
    have hne : x.1 ≠ m.key := by simpa using hx
    constructor
    · rintro (e | e)
      · rw [e] at hne; exact absurd rfl hne
      · exact e.1
    · exact fun e => .inr ⟨e, hne⟩
  rw [if_neg h1] at hx ⊢
  by_cases h2 : m.kind = 2
  · rw [if_pos h2] at hx ⊢
    rw [inB_one, has_one] at hx
    rw [mem_del]
    have hne : x.1 ≠ m.key := by simpa using hx
    exact ⟨fun e => e.1, fun e => ⟨e, hne⟩⟩
  rw [if_neg h2] at hx ⊢
  by_cases h3 : m.kind = 3
  · rw [if_pos h3] at hx ⊢
    rw [inB_one] at hx
    rw [mem_drop]
    exact ⟨fun e => e.1, fun e => ⟨e, hx⟩⟩
  rw [if_neg h3] at hx ⊢
  by_cases h4 : m.kind = 4
  · rw [if_pos h4] at hx ⊢
    rw [inB_two, has_pre, has_pre, Bool.or_eq_false_iff] at hx
    rw [mem_move _ _ ht]
    constructor
    · rintro ⟨e | e, _⟩
      · rw [moved_pre e] at hx; exact absurd hx.2 (by simp)
      · exact e.1
    · exact fun e => ⟨.inr ⟨e, hx.2⟩, hx.1⟩
  rw [if_neg h4] at hx ⊢
  by_cases h5 : m.kind = 5
  · rw [if_pos h5] at hx ⊢
    rw [inB_one, has_pre] at hx
    rw [mem_clone _ _ ht]
    constructor
    · rintro (e | e)
      · rw [moved_pre e] at hx; exact absurd hx (by simp)
      · exact e.1
    · exact fun e => .inr ⟨e, hx⟩
  rw [if_neg h5] at hx ⊢
  by_cases h6 : m.kind = 6
  · rw [if_pos h6] at hx ⊢
    rw [inB_one] at hx
    rw [mem_stamp]
    constructor
    · rintro ⟨y, hy, rfl⟩
      rw [stampP_key] at hx
      unfold stampP
      rw [hx]; exact hy
    · intro e
      refine ⟨x, e, ?_⟩
      unfold stampP
      rw [hx]; rfl
  rw [if_neg h6]
/-- Where a message writes, what comes depends on what it reads alone. -/
theorem apply_in (m : Ms) {s t : List Pr} (hs : Srt s) (ht : Srt t) (h : ∀ y : Pr, inB (readsS m) y.1 = true → (y ∈ s ↔ y ∈ t)) (x : Pr) (hx : inB (writesS m) x.1 = true) : x ∈ applyS m s ↔ x ∈ applyS m t := by
  unfold writesS at hx
  unfold readsS at h
  unfold applyS
  have moved : ∀ a b : Bs, (∀ y : Pr, a.isPrefixOf y.1 = true → (y ∈ s ↔ y ∈ t)) → (x ∈ movedT a b s ↔ x ∈ movedT a b t) := by
    intro a b hh
    rw [mem_moved, mem_moved]
    constructor
    · rintro ⟨r, h1, h2⟩; exact ⟨r, (hh _ (prefix_app a r)).1 h1, h2⟩
    · rintro ⟨r, h1, h2⟩; exact ⟨r, (hh _ (prefix_app a r)).2 h1, h2⟩
  by_cases h1 : m.kind = 1
  · rw [if_pos h1] at hx ⊢
    rw [if_pos h1]
    rw [inB_one, has_one] at hx
    have he : x.1 = m.key := by simpa using hx
    rw [mem_put, mem_put]
    simp [he]
  rw [if_neg h1] at hx ⊢
  rw [if_neg h1]
  by_cases h2 : m.kind = 2
  · rw [if_pos h2] at hx ⊢
    rw [if_pos h2]
    rw [inB_one, has_one] at hx
    have he : x.1 = m.key := by simpa using hx
    rw [mem_del, mem_del]
    simp [he]
  rw [if_neg h2] at hx ⊢
  rw [if_neg h2]
  by_cases h3 : m.kind = 3
  · rw [if_pos h3] at hx ⊢
    rw [if_pos h3]
    rw [inB_one] at hx
    rw [mem_drop, mem_drop]
    simp [hx]
  rw [if_neg h3] at hx ⊢
  rw [if_neg h3]
  by_cases h4 : m.kind = 4
  · rw [if_pos h4] at hx h ⊢
    rw [if_pos h4]
    rw [inB_two, has_pre, has_pre, Bool.or_eq_true] at hx
    have hh : ∀ y : Pr, m.src.isPrefixOf y.1 = true → (y ∈ s ↔ y ∈ t) := fun y hy => h y (by rw [inB_one, has_pre]; exact hy)
    rw [mem_move _ _ hs, mem_move _ _ ht, moved _ _ hh]
    cases e : m.dst.isPrefixOf x.1 with
    | true => simp
    | false =>
      have : m.src.isPrefixOf x.1 = true := by rcases hx with hx | hx; exact hx; rw [e] at hx; cases hx
      simp [this]
  rw [if_neg h4] at hx h ⊢
  rw [if_neg h4]
  by_cases h5 : m.kind = 5
  · rw [if_pos h5] at hx h ⊢
    rw [if_pos h5]
    rw [inB_one, has_pre] at hx
    have hh : ∀ y : Pr, m.src.isPrefixOf y.1 = true → (y ∈ s ↔ y ∈ t) := fun y hy => h y (by rw [inB_one, has_pre]; exact hy)
    rw [mem_clone _ _ hs, mem_clone _ _ ht, moved _ _ hh]
    simp [hx]
  rw [if_neg h5] at hx h ⊢
  rw [if_neg h5]
  by_cases h6 : m.kind = 6
  · rw [if_pos h6] at hx h ⊢
    rw [if_pos h6]
    rw [inB_one] at hx
    rw [mem_stamp, mem_stamp]
    constructor
    · rintro ⟨y, hy, rfl⟩
      rw [stampP_key] at hx
      exact ⟨y, (h y (by rw [inB_one]; exact hx)).1 hy, rfl⟩
    · rintro ⟨y, hy, rfl⟩
      rw [stampP_key] at hx
      exact ⟨y, (h y (by rw [inB_one]; exact hx)).2 hy, rfl⟩
  rw [if_neg h6] at hx
  cases hx

theorem touch_no {l m : List Sp} (h : touchB l m = false) {k : Bs} (h1 : inB l k = true) : inB m k = false := by
  cases h2 : inB m k with
  | false => rfl
  | true =>
    obtain ⟨s, hs, hs2⟩ := List.any_eq_true.1 h1
    obtain ⟨o, ho, ho2⟩ := List.any_eq_true.1 h2
    have hm : hasB (meetS s o) k = true := by rw [meet_hasB, hs2, ho2]; rfl
    have he := has_nonempty ((hasB_iff _ _).1 hm)
    have : touchB l m = true := List.any_eq_true.2 ⟨s, hs, List.any_eq_true.2 ⟨o, ho, by rw [he]; rfl⟩⟩
    rw [this] at h; cases h
theorem free_comm (m n : Ms) : freeB m n = freeB n m := by unfold freeB; rw [Bool.and_comm]
/-- Free messages may be exchanged. -/
theorem free_swap {m n : Ms} {t : List Pr} (ht : Srt t) (h : freeB m n = true) : applyS n (applyS m t) = applyS m (applyS n t) := by
  unfold freeB distB at h
  simp only [Bool.and_eq_true, Bool.not_eq_true', Bool.or_eq_false_iff] at h
  obtain ⟨⟨hmr, hmw⟩, hnr, hnw⟩ := h
  have sm := srt_apply' m ht
  have sn := srt_apply' n ht
  refine Srt.unique (srt_apply' n sm) (srt_apply' m sn) fun x => ?_
  by_cases e : inB (writesS n) x.1 = true
  · have e2 := touch_no hnw e
    rw [apply_out m sn x e2]
    refine apply_in n sm ht (fun y hy => apply_out m ht y ?_) x e
    cases e3 : inB (writesS m) y.1 with
    | false => rfl
    | true => rw [touch_no hmr e3] at hy; cases hy
  · have e := Bool.eq_false_iff.2 e
    rw [apply_out n sm x e]
    by_cases e2 : inB (writesS m) x.1 = true
    · refine (apply_in m sn ht (fun y hy => apply_out n ht y ?_) x e2).symm
      cases e3 : inB (writesS n) y.1 with
      | false => rfl
      | true => rw [touch_no hnr e3] at hy; cases hy
    · have e2 := Bool.eq_false_iff.2 e2
      rw [apply_out m ht x e2, apply_out m sn x e2, apply_out n ht x e]
/-- Outside of what it writes a message leaves the table as it is. -/
theorem without_apply (m : Ms) {t : List Pr} (ht : Srt t) : withoutS (writesS m) (applyS m t) = withoutS (writesS m) t := by
  refine Srt.unique (srt_without _ (srt_apply' m ht)) (srt_without _ ht) fun x => ?_
  rw [mem_without, mem_without]
  exact ⟨fun h => ⟨(apply_out m ht x h.2).1 h.1, h.2⟩, fun h => ⟨(apply_out m ht x h.2).2 h.1, h.2⟩⟩
theorem apply_len (m : Ms) (t : List Pr) : (applyS m t).length ≤ 2 * t.length + 1 := by
  have hd : ∀ s (u : List Pr), (dropS s u).length ≤ u.length := fun s u => List.length_filter_le _ _
  have hm : ∀ a b (u : List Pr), (movedT a b u).length ≤ u.length := fun a b u => List.length_filterMap_le _ _
  have hc : ∀ a b, (cloneT a b t).length ≤ 2 * t.length := fun a b => by
    have h1 := union_length (dropS (preS b) t) (movedT a b t)
    have h2 := hd (preS b) t
    have h3 := hm a b t
    unfold cloneT; omega
  unfold applyS
  split
  · have := put_length (m.key, m.val, m.n) t; omega
  split
  · have : (delS m.key t).length ≤ t.length := List.length_filter_le _ _
    omega
  split
  · have := hd (m.lo, m.hi) t; omega
  split
  · have h1 := hd (preS m.src) (cloneT m.src m.dst t)
    have h2 := hc m.src m.dst
    unfold moveT; omega
  split
  · have := hc m.src m.dst; omega
  split
  · unfold stampT; rw [List.length_map]; omega
  · omega
/-- Moved back. -/
theorem apart_pre {a b r : Bs} (h1 : b.isPrefixOf a = false) (h2 : a.isPrefixOf b = false) : a.isPrefixOf (b ++ r) = false := by
  induction a generalizing b with
  | nil => simp at h2
  | cons c a ih =>
    cases b with
    | nil => simp at h1
    | cons d b =>
      simp only [List.isPrefixOf, List.cons_append] at h1 h2 ⊢
      cases e : c == d with
      | false => simp
      | true =>
        have e' : d == c := by rw [beq_iff_eq] at e ⊢; exact e.symm
        rw [e, Bool.true_and] at h2
        rw [e', Bool.true_and] at h1
        rw [Bool.true_and]
        exact ih h1 h2
theorem pre_split {p k : Bs} (h : p.isPrefixOf k = true) : ∃ r, k = p ++ r := by
  obtain ⟨r, hr⟩ := List.isPrefixOf_iff_prefix.1 h
  exact ⟨r, hr.symm⟩
theorem move_back {a b : Bs} {t : List Pr} (ht : Srt t) (h1 : b.isPrefixOf a = false) (h2 : a.isPrefixOf b = false) : moveT b a (moveT a b t) = dropS (preS b) t := by
  have hu : Srt (moveT a b t) := srt_drop _ (srt_union (srt_drop _ ht) _)
  refine Srt.unique (srt_drop _ (srt_union (srt_drop _ hu) _)) (srt_drop _ ht) fun x => ?_
  show x ∈ moveT b a (moveT a b t) ↔ _
  rw [mem_move b a hu, mem_drop, has_pre]
  have key : x ∈ movedT b a (moveT a b t) ↔ x ∈ t ∧ a.isPrefixOf x.1 = true := by
    rw [mem_moved]
    constructor
    · rintro ⟨r, hr, e⟩
      rw [mem_move a b ht] at hr
      obtain ⟨hr | hr, _⟩ := hr
      · obtain ⟨q, hq, e2⟩ := (mem_moved _ _ _ _).1 hr
        have : r = q := List.append_cancel_left e2
        subst this
        refine ⟨?_, by rw [e, prefix_app]⟩
        have : x = (a ++ r, x.2) := Prod.ext e rfl
        rw [this]; exact hq
      · rw [prefix_app] at hr; exact absurd hr.2 (by simp)
    · rintro ⟨hx, hp⟩
      obtain ⟨r, e⟩ := pre_split hp
      refine ⟨r, ?_, e⟩
      rw [mem_move a b ht]
      refine ⟨.inl ((mem_moved _ _ _ _).2 ⟨r, ?_, rfl⟩), apart_pre h1 h2⟩
      have : x = (a ++ r, x.2) := Prod.ext e rfl
      rw [← this]; exact hx
  rw [key]
  constructor
  · rintro ⟨h | h, h3⟩
    · exact ⟨h.1, h3⟩
    · rw [mem_move a b ht] at h
      obtain ⟨⟨h | h, _⟩, h4⟩ := h
      · rw [moved_pre h] at h3; cases h3
      · exact ⟨h.1, h3⟩
  · rintro ⟨h, h3⟩
    refine ⟨?_, h3⟩
    cases e : a.isPrefixOf x.1 with
    | true => exact .inl ⟨h, rfl⟩
    | false =>
      refine .inr ⟨?_, rfl⟩
      rw [mem_move a b ht]
      exact ⟨.inr ⟨h, h3⟩, e⟩
theorem move_twice {a b : Bs} {t : List Pr} (ht : Srt t) (h1 : b.isPrefixOf a = false) (h2 : a.isPrefixOf b = false) : moveT a b (moveT a b t) = withoutS [preS a, preS b] t := by
  have hu : Srt (moveT a b t) := srt_drop _ (srt_union (srt_drop _ ht) _)
  refine Srt.unique (srt_drop _ (srt_union (srt_drop _ hu) _)) (srt_without _ ht) fun x => ?_
  show x ∈ moveT a b (moveT a b t) ↔ _
  rw [mem_move a b hu, mem_without, inB_two, has_pre, has_pre, Bool.or_eq_false_iff]
  have key : x ∉ movedT a b (moveT a b t) := by
    intro h
    obtain ⟨r, hr, e⟩ := (mem_moved _ _ _ _).1 h
    rw [mem_move a b ht] at hr
    rw [prefix_app] at hr; exact absurd hr.2 (by simp)
  rw [mem_move a b ht]
  constructor
  · rintro ⟨h | ⟨⟨h | h, _⟩, h3⟩, h4⟩
    · exact absurd h key
    · rw [moved_pre h] at h3; cases h3
    · exact ⟨h.1, h4, h3⟩
  · rintro ⟨h, h3, h4⟩
    exact ⟨.inr ⟨⟨.inr ⟨h, h4⟩, h3⟩, h4⟩, h3⟩

end Go.Proofs.YtdckiaokldkfmaaGreat
