/-
  Plain functions on lists of pairs that say what package table computes, and facts on them. No program.
-/
import Derived.Test.YtdckiaokldkfmaaGreatZS2
namespace Go.Proofs.YtdckiaokldkfmaaGreat

/-- A pair: key, value, stamp. -/
abbrev Pr := Bs × Bs × Int
/-- In the order of keys. -/
def Srt (t : List Pr) : Prop := t.Pairwise (fun x y => Op.bytesLess x.1 y.1 = true)
def ltK (k : Bs) (x : Pr) : Bool := Op.bytesLess x.1 k
def rangeS (s : Sp) (t : List Pr) : List Pr := t.filter fun x => hasB s x.1
def dropS (s : Sp) (t : List Pr) : List Pr := t.filter fun x => !hasB s x.1
def delS (k : Bs) (t : List Pr) : List Pr := t.filter fun x => !(x.1 == k)
def putS (p : Pr) (t : List Pr) : List Pr := t.filter (fun x => Op.bytesLess x.1 p.1) ++ p :: t.filter (fun x => Op.bytesLess p.1 x.1)
def findS (k : Bs) (t : List Pr) : Option Pr := t.find? fun x => x.1 == k
def unionS (a b : List Pr) : List Pr := b.foldl (fun t p => putS p t) a
def movedP (a b : Bs) (x : Pr) : Option Pr := (movedS x.1 a b).map fun k => (k, x.2)
def movedT (a b : Bs) (t : List Pr) : List Pr := t.filterMap (movedP a b)

theorem srt_nil : Srt [] := List.Pairwise.nil
theorem srt_cons {x : Pr} {t : List Pr} : Srt (x :: t) ↔ (∀ y ∈ t, Op.bytesLess x.1 y.1 = true) ∧ Srt t := List.pairwise_cons
theorem srt_filter {t : List Pr} (f : Pr → Bool) (h : Srt t) : Srt (t.filter f) := h.filter f
theorem srt_key {t : List Pr} (h : Srt t) : ∀ x ∈ t, ∀ y ∈ t, x.1 = y.1 → x = y := by
  induction t with
  | nil => intro x hx; cases hx
  | cons z t ih =>
    obtain ⟨h1, h2⟩ := srt_cons.1 h
    intro x hx y hy e
    rcases List.mem_cons.1 hx with ex | hx
    · rcases List.mem_cons.1 hy with ey | hy
      · rw [ex, ey]
      · have := h1 y hy; rw [← ex, e, less_irrefl] at this; cases this
    · rcases List.mem_cons.1 hy with ey | hy
      · have := h1 x hx; rw [← ey, e, less_irrefl] at this; cases this
      · exact ih h2 x hx y hy e
/-- Tables with the same pairs are equal. -/
theorem Srt.unique : ∀ {a b : List Pr}, Srt a → Srt b → (∀ x, x ∈ a ↔ x ∈ b) → a = b
  | [], [], _, _, _ => rfl
  | [], y :: b, _, _, h => by have := (h y).2 (by simp); cases this
  | x :: a, [], _, _, h => by have := (h x).1 (by simp); cases this
  | x :: a, y :: b, ha, hb, h => by
    obtain ⟨h1, h2⟩ := srt_cons.1 ha
    obtain ⟨k1, k2⟩ := srt_cons.1 hb
    have e : x = y := by
      rcases List.mem_cons.1 ((h x).1 (by simp)) with e | hx
      · exact e
      · rcases List.mem_cons.1 ((h y).2 (by simp)) with e | hy
        · exact e.symm
        · have := less_trans _ _ _ (k1 x hx) (h1 y hy); rw [less_irrefl] at this; cases this
    subst e
    have : a = b := by
      refine Srt.unique h2 k2 fun z => ?_
      have hz := h z
      simp only [List.mem_cons] at hz
      constructor
      · intro hm
        rcases hz.1 (.inr hm) with e | e
        · subst e; have := h1 z hm; rw [less_irrefl] at this; cases this
        · exact e
      · intro hm
        rcases hz.2 (.inr hm) with e | e
        · subst e; have := k1 z hm; rw [less_irrefl] at this; cases this
        · exact e
    rw [this]

theorem less_asymm {a b : Bs} (h : Op.bytesLess a b = true) : Op.bytesLess b a = false := by
  cases e : Op.bytesLess b a with
  | false => rfl
  | true => have := less_trans a b a h e; rw [less_irrefl] at this; cases this
theorem less_ne {a b : Bs} (h : Op.bytesLess a b = true) : a ≠ b := by
  rintro rfl; rw [less_irrefl] at h; cases h
theorem ne_less {a b : Bs} (h : a ≠ b) : Op.bytesLess a b = true ∨ Op.bytesLess b a = true := by
  cases e : Op.bytesLess a b with
  | true => exact .inl rfl
  | false => cases e2 : Op.bytesLess b a with
    | true => exact .inr rfl
    | false => exact absurd (less_total a b e e2) h
theorem less_le_trans {a b c : Bs} (h : Op.bytesLess a b = true) (k : Op.bytesLess c b = false) : Op.bytesLess a c = true := by
  cases e : Op.bytesLess b c with
  | true => exact less_trans a b c h e
  | false => rw [less_total b c e k] at h; exact h
theorem le_less_trans {a b c : Bs} (h : Op.bytesLess b a = false) (k : Op.bytesLess b c = true) : Op.bytesLess a c = true := by
  cases e : Op.bytesLess a b with
  | true => exact less_trans a b c e k
  | false => rw [less_total a b e h]; exact k

theorem mem_range (s : Sp) (t : List Pr) (x : Pr) : x ∈ rangeS s t ↔ x ∈ t ∧ hasB s x.1 = true := by unfold rangeS; exact List.mem_filter
theorem mem_drop (s : Sp) (t : List Pr) (x : Pr) : x ∈ dropS s t ↔ x ∈ t ∧ hasB s x.1 = false := by unfold dropS; rw [List.mem_filter]; simp
theorem mem_del (k : Bs) (t : List Pr) (x : Pr) : x ∈ delS k t ↔ x ∈ t ∧ x.1 ≠ k := by unfold delS; rw [List.mem_filter]; simp
theorem srt_range (s : Sp) {t : List Pr} (h : Srt t) : Srt (rangeS s t) := srt_filter _ h
theorem srt_drop (s : Sp) {t : List Pr} (h : Srt t) : Srt (dropS s t) := srt_filter _ h
theorem srt_del (k : Bs) {t : List Pr} (h : Srt t) : Srt (delS k t) := srt_filter _ h
theorem mem_put (p : Pr) (t : List Pr) (x : Pr) : x ∈ putS p t ↔ x = p ∨ (x ∈ t ∧ x.1 ≠ p.1) := by
  unfold putS
  simp only [List.mem_append, List.mem_filter, List.mem_cons]
  constructor
  · rintro (⟨h1, h2⟩ | h | ⟨h1, h2⟩)
    · exact .inr ⟨h1, less_ne h2⟩
    · exact .inl h
    · exact .inr ⟨h1, fun e => less_ne h2 e.symm⟩
  · rintro (h | ⟨h1, h2⟩)
    · exact .inr (.inl h)
    · rcases ne_less h2 with h | h
      · exact .inl ⟨h1, h⟩
      · exact .inr (.inr ⟨h1, h⟩)
theorem srt_put (p : Pr) {t : List Pr} (h : Srt t) : Srt (putS p t) := by
  unfold putS Srt
  rw [List.pairwise_append]
  refine ⟨srt_filter _ h, srt_cons.2 ⟨fun y hy => (List.mem_filter.1 hy).2, srt_filter _ h⟩, fun x hx y hy => ?_⟩
  have hx2 := (List.mem_filter.1 hx).2
  rcases List.mem_cons.1 hy with rfl | hy
  · exact hx2
  · exact less_trans _ _ _ hx2 (List.mem_filter.1 hy).2
theorem put_length (p : Pr) (t : List Pr) : (putS p t).length ≤ t.length + 1 := by
  induction t with
  | nil => simp [putS]
  | cons x t ih =>
    unfold putS at *
    simp only [List.length_append, List.length_cons, List.filter_cons] at *
    cases h1 : Op.bytesLess x.1 p.1 with
    | true => rw [less_asymm h1]; simp; omega
    | false => cases h2 : Op.bytesLess p.1 x.1 <;> simp <;> omega
theorem union_nil (a : List Pr) : unionS a [] = a := rfl
theorem union_snoc (a b : List Pr) (p : Pr) : unionS a (b ++ [p]) = putS p (unionS a b) := by simp [unionS]
theorem union_cons (a b : List Pr) (p : Pr) : unionS a (p :: b) = unionS (putS p a) b := rfl
theorem srt_union {a : List Pr} (h : Srt a) : ∀ b, Srt (unionS a b) := by
  intro b
  induction b generalizing a with
  | nil => exact h
  | cons p b ih => exact ih (srt_put p h)
theorem mem_union (a : List Pr) {b : List Pr} (hb : Srt b) (x : Pr) : x ∈ unionS a b ↔ x ∈ b ∨ (x ∈ a ∧ ∀ y ∈ b, y.1 ≠ x.1) := by
  induction b generalizing a with
  | nil => simp [unionS]
  | cons p b ih =>
    obtain ⟨h1, h2⟩ := srt_cons.1 hb
    rw [union_cons, ih _ h2, mem_put, List.mem_cons]
    constructor
    · rintro (h | ⟨rfl | ⟨h3, h4⟩, h5⟩)
      · exact .inl (.inr h)
      · exact .inl (.inl rfl)
      · refine .inr ⟨h3, fun y hy => ?_⟩
        rcases List.mem_cons.1 hy with rfl | hy
        · exact fun e => h4 e.symm
        · exact h5 y hy
    · rintro ((rfl | h) | ⟨h3, h4⟩)
      · exact .inr ⟨.inl rfl, fun y hy e => less_ne (h1 y hy) e.symm⟩
      · exact .inl h
      · exact .inr ⟨.inr ⟨h3, fun e => h4 p (by simp) e.symm⟩, fun y hy => h4 y (by simp [hy])⟩
theorem union_length (a b : List Pr) : (unionS a b).length ≤ a.length + b.length := by
  induction b generalizing a with
  | nil => simp [unionS]
  | cons p b ih => rw [union_cons]; have := ih (putS p a); have := put_length p a; simp; omega

/-- Merging from both fronts. -/
def mergeS : List Pr → List Pr → List Pr
  | [], b => b
  | x :: a, [] => x :: a
  | x :: a, y :: b => if Op.bytesLess x.1 y.1 then x :: mergeS a (y :: b) else if x.1 == y.1 then mergeS a (y :: b) else y :: mergeS (x :: a) b
termination_by a b => a.length + b.length
theorem merge_nil (a : List Pr) : mergeS a [] = a := by cases a <;> simp [mergeS]
theorem merge_nil' (b : List Pr) : mergeS [] b = b := by simp [mergeS]
theorem mem_merge_or : ∀ (a b : List Pr) (x : Pr), x ∈ mergeS a b → x ∈ a ∨ x ∈ b
  | [], b, x, h => .inr (by simpa [mergeS] using h)
  | y :: a, [], x, h => .inl (by simpa [mergeS] using h)
  | y :: a, z :: b, x, h => by
    rw [mergeS] at h
    split at h
    · rcases List.mem_cons.1 h with rfl | h
      · exact .inl (by simp)
      · rcases mem_merge_or a (z :: b) x h with h | h
        · exact .inl (by simp [h])
        · exact .inr h
    · split at h
      · rcases mem_merge_or a (z :: b) x h with h | h
        · exact .inl (by simp [h])
        · exact .inr h
      · rcases List.mem_cons.1 h with rfl | h
        · exact .inr (by simp)
        · rcases mem_merge_or (y :: a) b x h with h | h
          · exact .inl h
          · exact .inr (by simp [h])
termination_by a b => a.length + b.length
theorem merge_spec : ∀ (a b : List Pr), Srt a → Srt b → Srt (mergeS a b) ∧ ∀ x, x ∈ mergeS a b ↔ x ∈ b ∨ (x ∈ a ∧ ∀ y ∈ b, y.1 ≠ x.1)
  | [], b, _, hb => by rw [merge_nil']; exact ⟨hb, fun x => by simp⟩
  | x :: a, [], ha, _ => by rw [merge_nil]; exact ⟨ha, fun x => by simp⟩
  | x :: a, y :: b, ha, hb => by
    obtain ⟨a1, a2⟩ := srt_cons.1 ha
    obtain ⟨b1, b2⟩ := srt_cons.1 hb
    rw [mergeS]
    cases h1 : Op.bytesLess x.1 y.1 with
    | true =>
      obtain ⟨s, m⟩ := merge_spec a (y :: b) a2 hb
      simp only [↓reduceIte]
      refine ⟨srt_cons.2 ⟨fun z hz => ?_, s⟩, fun z => ?_⟩
      · rcases mem_merge_or _ _ _ hz with h | h
        · exact a1 z h
        · rcases List.mem_cons.1 h with rfl | h
          · exact h1
          · exact less_trans _ _ _ h1 (b1 z h)
      · rw [List.mem_cons, m]
        constructor
        · rintro (rfl | h | ⟨h2, h3⟩)
          · refine .inr ⟨by simp, fun w hw => ?_⟩
            rcases List.mem_cons.1 hw with rfl | hw
            · exact fun e => less_ne h1 e.symm
            · exact fun e => less_ne (less_trans _ _ _ h1 (b1 w hw)) e.symm
          · exact .inl h
          · exact .inr ⟨by simp [h2], h3⟩
        · rintro (h | ⟨h2, h3⟩)
          · exact .inr (.inl h)
          · rcases List.mem_cons.1 h2 with rfl | h2
            · exact .inl rfl
            · exact .inr (.inr ⟨h2, h3⟩)
    | false =>
      simp only [Bool.false_eq_true, ↓reduceIte]
      by_cases h2 : x.1 = y.1
      · obtain ⟨s, m⟩ := merge_spec a (y :: b) a2 hb
        rw [if_pos (by simpa using h2)]
        refine ⟨s, fun z => ?_⟩
        rw [m]
        constructor
        · rintro (h | ⟨h3, h4⟩)
          · exact .inl h
          · exact .inr ⟨by simp [h3], h4⟩
        · rintro (h | ⟨h3, h4⟩)
          · exact .inl h
          · rcases List.mem_cons.1 h3 with rfl | h3
            · exact absurd h2.symm (h4 y (by simp))
            · exact .inr ⟨h3, h4⟩
      · obtain ⟨s, m⟩ := merge_spec (x :: a) b ha b2
        rw [if_neg (by simpa using h2)]
        have h3 : Op.bytesLess y.1 x.1 = true := by
          rcases ne_less h2 with h | h
          · rw [h1] at h; cases h
          · exact h
        refine ⟨srt_cons.2 ⟨fun z hz => ?_, s⟩, fun z => ?_⟩
        · rcases mem_merge_or _ _ _ hz with h | h
          · rcases List.mem_cons.1 h with rfl | h
            · exact h3
            · exact less_trans _ _ _ h3 (a1 z h)
          · exact b1 z h
        · rw [List.mem_cons, m]
          constructor
          · rintro (rfl | h | ⟨h4, h5⟩)
            · exact .inl (by simp)
            · exact .inl (by simp [h])
            · refine .inr ⟨h4, fun w hw => ?_⟩
              rcases List.mem_cons.1 hw with rfl | hw
              · rcases List.mem_cons.1 h4 with rfl | h4
                · exact less_ne h3
                · exact less_ne (less_trans _ _ _ h3 (a1 z h4))
              · exact h5 w hw
          · rintro (h | ⟨h4, h5⟩)
            · rcases List.mem_cons.1 h with rfl | h
              · exact .inl rfl
              · exact .inr (.inl h)
            · exact .inr (.inr ⟨h4, fun w hw => h5 w (by simp [hw])⟩)
termination_by a b => a.length + b.length
theorem merge_eq {a b : List Pr} (ha : Srt a) (hb : Srt b) : mergeS a b = unionS a b :=
  Srt.unique (merge_spec a b ha hb).1 (srt_union ha b) fun x => by rw [(merge_spec a b ha hb).2, mem_union a hb]

/-- Where a key stands. -/
def placeS (t : List Pr) (k : Bs) : Nat := t.countP (ltK k)
theorem place_le (t : List Pr) (k : Bs) : placeS t k ≤ t.length := List.countP_le_length
theorem place_zero {t : List Pr} {k : Bs} (h : ∀ y ∈ t, ltK k y = false) : placeS t k = 0 := by
  unfold placeS; rw [List.countP_eq_zero]; intro y hy; rw [h y hy]; simp
theorem place_cut {t : List Pr} (h : Srt t) (k : Bs) : t.take (placeS t k) = t.filter (ltK k) ∧ t.drop (placeS t k) = t.filter (fun x => !ltK k x) := by
  induction t with
  | nil => simp [placeS]
  | cons x t ih =>
    obtain ⟨h1, h2⟩ := srt_cons.1 h
    cases e : ltK k x with
    | true =>
      have ec : placeS (x :: t) k = placeS t k + 1 := by unfold placeS; rw [List.countP_cons, e]; rfl
      rw [ec, List.take_succ_cons, List.drop_succ_cons, List.filter_cons, List.filter_cons, e]
      obtain ⟨i1, i2⟩ := ih h2
      exact ⟨by rw [i1]; rfl, by rw [i2]; rfl⟩
    | false =>
      have hz : ∀ y ∈ t, ltK k y = false := by
        intro y hy
        cases e2 : ltK k y with
        | false => rfl
        | true => have := less_trans _ _ _ (h1 y hy) e2; unfold ltK at e; rw [e] at this; cases this
      have ha : ∀ y ∈ x :: t, ltK k y = false := by
        intro y hy
        rcases List.mem_cons.1 hy with rfl | hy
        · exact e
        · exact hz y hy
      rw [place_zero ha, List.take_zero, List.drop_zero]
      constructor
      · symm; rw [List.filter_eq_nil_iff]; intro y hy; rw [ha y hy]; simp
      · symm; rw [List.filter_eq_self]; intro y hy; rw [ha y hy]; rfl
theorem place_mono {t : List Pr} {k m : Bs} (h : Op.bytesLess m k = false) : placeS t k ≤ placeS t m := by
  unfold placeS
  refine List.countP_mono_left fun x _ hx => ?_
  exact less_le_trans hx h
/-- Of a table, the search's test stays true. -/
theorem place_test {t : List Pr} (h : Srt t) (k : Bs) (i j : Nat) (hij : i ≤ j) (hj : j < t.length) (hi : (!Op.bytesLess (t[i]'(by omega)).1 k) = true) : (!Op.bytesLess t[j].1 k) = true := by
  rcases Nat.eq_or_lt_of_le hij with rfl | hlt
  · exact hi
  · have h1 := (List.pairwise_iff_getElem.1 h) i j (by omega) hj hlt
    rw [Bool.not_eq_true'] at *
    cases e : Op.bytesLess t[j].1 k with
    | false => rfl
    | true => have := less_trans _ _ _ h1 e; rw [hi] at this; cases this
theorem place_count (t : List Pr) (k : Bs) : (List.range t.length).countP (fun i => !(!Op.bytesLess (t[i]?.getD ([], [], 0)).1 k)) = placeS t k := by
  have h : t = (List.range t.length).map (fun i => t[i]?.getD ([], [], 0)) := by
    apply List.ext_getElem
    · simp
    · intro i h1 h2; simp [h1]
  unfold placeS
  conv => rhs; rw [h]
  rw [List.countP_map]
  congr 1
  funext i
  simp [ltK]

/-- The borders of a span. -/
def lowS (t : List Pr) (s : Sp) : Nat := if emptyB s then 0 else placeS t s.1
def highS (t : List Pr) (s : Sp) : Nat := if emptyB s then 0 else if s.2 = [] then t.length else placeS t s.2
theorem span_le {s : Sp} (h : emptyB s = false) (h2 : s.2 ≠ []) : Op.bytesLess s.1 s.2 = true := by
  have := (emptyB_no s).1 h; rw [hiP_ne h2] at this; exact this
theorem borders_le (t : List Pr) (s : Sp) : lowS t s ≤ highS t s ∧ highS t s ≤ t.length := by
  unfold lowS highS
  cases h : emptyB s with
  | true => simp
  | false =>
    simp only [Bool.false_eq_true, ↓reduceIte]
    by_cases h2 : s.2 = []
    · rw [if_pos h2]; exact ⟨place_le _ _, Nat.le_refl _⟩
    · rw [if_neg h2]; exact ⟨place_mono (less_asymm (span_le h h2)), place_le _ _⟩
theorem has_empty {s : Sp} (h : emptyB s = true) (k : Bs) : hasB s k = false := by
  cases e : hasB s k with
  | false => rfl
  | true => exact absurd ((hasB_iff s k).1 e) (not_has_empty h k)
theorem take_part {α : Type} (t : List α) (a b : Nat) (h : a ≤ b) : (t.take b).drop a ++ t.drop b = t.drop a := by
  rw [List.drop_take]
  have : t.drop b = (t.drop a).drop (b - a) := by rw [List.drop_drop]; congr 1; omega
  rw [this, List.take_append_drop]
theorem borders_cut {t : List Pr} (h : Srt t) (s : Sp) : (t.take (highS t s)).drop (lowS t s) = rangeS s t ∧ t.take (lowS t s) ++ t.drop (highS t s) = dropS s t := by
  unfold lowS highS rangeS dropS
  cases he : emptyB s with
  | true =>
    simp only [↓reduceIte, List.take_zero, List.drop_nil, List.nil_append, List.drop_zero]
    constructor
    · symm; rw [List.filter_eq_nil_iff]; intro x _; rw [has_empty he]; simp
    · symm; rw [List.filter_eq_self]; intro x _; rw [has_empty he]; rfl
  | false =>
    simp only [Bool.false_eq_true, ↓reduceIte]
    obtain ⟨c1, c2⟩ := place_cut h s.1
    by_cases h2 : s.2 = []
    · rw [if_pos h2, List.take_length, List.drop_length, List.append_nil, c1, c2]
      have hh : ∀ k, hasB s k = !Op.bytesLess k s.1 := fun k => by unfold hasB; rw [h2]; simp
      constructor
      · congr 1; funext x; rw [hh]; rfl
      · congr 1; funext x; rw [hh]; simp [ltK]
    · rw [if_neg h2]
      obtain ⟨d1, d2⟩ := place_cut h s.2
      have hlt := span_le he h2
      have hh : ∀ k, hasB s k = (!Op.bytesLess k s.1 && Op.bytesLess k s.2) := fun k => by
        unfold hasB; rw [show s.2.isEmpty = false from by simpa using h2]; rfl
      constructor
      · rw [d1]
        have e : placeS t s.1 = placeS (t.filter (ltK s.2)) s.1 := by
          unfold placeS
          rw [List.countP_filter]
          refine List.countP_congr fun x _ => ?_
          simp only [ltK, Bool.and_eq_true]
          exact ⟨fun hx => ⟨hx, less_trans _ _ _ hx hlt⟩, fun hx => hx.1⟩
        rw [e, (place_cut (srt_filter _ h) s.1).2, List.filter_filter]
        congr 1; funext x; rw [hh]; rfl
      · rw [c1, d2]
        refine Srt.unique ?_ (srt_filter _ h) fun x => ?_
        · unfold Srt
          rw [List.pairwise_append]
          refine ⟨srt_filter _ h, srt_filter _ h, fun x hx y hy => ?_⟩
          have hx2 := (List.mem_filter.1 hx).2
          have hy2 := (List.mem_filter.1 hy).2
          simp only [ltK, Bool.not_eq_true'] at hx2 hy2
          exact less_le_trans (less_trans _ _ _ hx2 hlt) hy2
        · rw [List.mem_append, List.mem_filter, List.mem_filter, List.mem_filter, hh]
          simp only [ltK, Bool.not_and, Bool.not_not, Bool.or_eq_true, Bool.not_eq_true']
          constructor
          · rintro (⟨a, b⟩ | ⟨a, b⟩)
            · exact ⟨a, .inl b⟩
            · exact ⟨a, .inr b⟩
          · rintro ⟨a, b | b⟩
            · exact .inl ⟨a, b⟩
            · exact .inr ⟨a, b⟩

/-- The span of one key. -/
def oneS (k : Bs) : Sp := (k, k ++ [0])
theorem drop_one (k : Bs) (t : List Pr) : dropS (oneS k) t = delS k t := by
  unfold dropS delS; congr 1; funext x; rw [show oneS k = (k, k ++ [0]) from rfl, one_has]
theorem put_cut {t : List Pr} (h : Srt t) (p : Pr) : t.take (lowS t (oneS p.1)) ++ p :: t.drop (highS t (oneS p.1)) = putS p t := by
  have hne : emptyB (oneS p.1) = false := one_nonempty p.1
  have h2 : (oneS p.1).2 ≠ [] := by simp [oneS]
  unfold lowS highS putS
  rw [hne]
  simp only [Bool.false_eq_true, ↓reduceIte]
  rw [if_neg h2, (place_cut h _).1, (place_cut h _).2]
  congr 1
  congr 1
  refine List.filter_congr fun x _ => ?_
  have ho := one_has p.1 x.1
  unfold hasB at ho
  rw [show (p.1 ++ [0] : Bs).isEmpty = false from by simp, Bool.false_or] at ho
  show (!Op.bytesLess x.1 (p.1 ++ [0])) = Op.bytesLess p.1 x.1
  cases e1 : Op.bytesLess x.1 p.1 with
  | true =>
    rw [less_asymm e1, show Op.bytesLess x.1 (p.1 ++ [0]) = true from less_trans _ _ _ e1 (span_le hne h2)]; rfl
  | false =>
    rw [e1] at ho
    simp only [Bool.not_false, Bool.true_and] at ho
    rw [ho]
    cases e2 : Op.bytesLess p.1 x.1 with
    | true => have := less_ne e2; simp; exact fun e => this e.symm
    | false => rw [less_total _ _ e1 e2]; simp
/-- Finding. -/
theorem find_at {t : List Pr} (h : Srt t) (k : Bs) : findS k t = (match t[placeS t k]? with | some x => if x.1 = k then some x else none | none => none) := by
  induction t with
  | nil => rfl
  | cons x t ih =>
    obtain ⟨h1, h2⟩ := srt_cons.1 h
    unfold findS
    rw [List.find?_cons]
    cases e : ltK k x with
    | true =>
      have ec : placeS (x :: t) k = placeS t k + 1 := by unfold placeS; rw [List.countP_cons, e]; rfl
      rw [ec, List.getElem?_cons_succ, ← ih h2, show (x.1 == k) = false from by simpa using less_ne e]; rfl
    | false =>
      have ha : ∀ y ∈ x :: t, ltK k y = false := by
        intro y hy
        rcases List.mem_cons.1 hy with rfl | hy
        · exact e
        · cases e2 : ltK k y with
          | false => rfl
          | true => have := less_trans _ _ _ (h1 y hy) e2; unfold ltK at e; rw [e] at this; cases this
      rw [place_zero ha, List.getElem?_cons_zero]
      by_cases hk : x.1 = k
      · simp [hk]
      · rw [show (x.1 == k) = false from by simpa using hk]
        simp only [hk, ↓reduceIte]
        rw [List.find?_eq_none]
        intro y hy
        have hl := h1 y hy
        have hx : Op.bytesLess k x.1 = true := by
          rcases ne_less hk with h | h
          · unfold ltK at e; rw [e] at h; cases h
          · exact h
        simpa using fun e' => less_ne (less_trans _ _ _ hx hl) e'.symm
theorem find_some {t : List Pr} (h : Srt t) (k : Bs) (x : Pr) : findS k t = some x ↔ x ∈ t ∧ x.1 = k := by
  unfold findS
  constructor
  · intro e
    have h1 := List.find?_some e
    exact ⟨List.mem_of_find?_eq_some e, by simpa using h1⟩
  · rintro ⟨hx, rfl⟩
    cases e : t.find? fun y => y.1 == x.1 with
    | none => rw [List.find?_eq_none] at e; have := e x hx; simp at this
    | some y =>
      have h1 := List.find?_some e
      have h2 := List.mem_of_find?_eq_some e
      rw [srt_key h y h2 x hx (by simpa using h1)]
theorem find_none (t : List Pr) (k : Bs) : findS k t = none ↔ ∀ x ∈ t, x.1 ≠ k := by
  unfold findS; rw [List.find?_eq_none]; simp

/-- Moving. -/
theorem movedP_some {a b : Bs} {x y : Pr} : movedP a b x = some y ↔ ∃ r, x.1 = a ++ r ∧ y = (b ++ r, x.2) := by
  unfold movedP movedS
  constructor
  · intro h
    split at h
    · rename_i hp
      obtain ⟨r, hr⟩ := List.isPrefixOf_iff_prefix.1 hp
      refine ⟨r, hr.symm, ?_⟩
      rw [← hr] at h
      simp at h
      exact h.symm
    · simp at h
  · rintro ⟨r, h1, rfl⟩
    rw [h1, if_pos (prefix_app a r)]; simp
theorem mem_moved (a b : Bs) (t : List Pr) (y : Pr) : y ∈ movedT a b t ↔ ∃ r, (a ++ r, y.2) ∈ t ∧ y.1 = b ++ r := by
  unfold movedT
  rw [List.mem_filterMap]
  constructor
  · rintro ⟨x, hx, hm⟩
    obtain ⟨r, h1, rfl⟩ := movedP_some.1 hm
    exact ⟨r, by rw [← h1]; exact hx, rfl⟩
  · rintro ⟨r, h1, h2⟩
    exact ⟨_, h1, movedP_some.2 ⟨r, rfl, by rw [← h2]⟩⟩
theorem srt_moved (a b : Bs) {t : List Pr} (h : Srt t) : Srt (movedT a b t) := by
  unfold movedT Srt
  rw [List.pairwise_filterMap]
  refine List.Pairwise.imp ?_ h
  intro x y hxy u hu v hv
  obtain ⟨r, h1, rfl⟩ := movedP_some.1 hu
  obtain ⟨q, h2, rfl⟩ := movedP_some.1 hv
  rw [h1, h2, less_same] at hxy
  rw [less_same]; exact hxy
theorem moved_back (a b : Bs) {t : List Pr} (h : Srt t) : movedT b a (movedT a b t) = t.filter fun x => a.isPrefixOf x.1 := by
  refine Srt.unique (srt_moved _ _ (srt_moved _ _ h)) (srt_filter _ h) fun x => ?_
  rw [mem_moved, List.mem_filter]
  constructor
  · rintro ⟨r, h1, h2⟩
    obtain ⟨q, h3, h4⟩ := (mem_moved _ _ _ _).1 h1
    simp only at h3 h4
    have : r = q := List.append_cancel_left h4
    subst this
    rw [← h2] at h3
    exact ⟨h3, by rw [h2]; exact prefix_app a r⟩
  · rintro ⟨h1, h2⟩
    obtain ⟨r, hr⟩ := List.isPrefixOf_iff_prefix.1 h2
    refine ⟨r, (mem_moved _ _ _ _).2 ⟨r, ?_, rfl⟩, hr.symm⟩
    simp only
    rw [hr]; exact h1
theorem range_prefix (p : Bs) (t : List Pr) : rangeS (p, preT p) t = t.filter fun x => p.isPrefixOf x.1 := by
  unfold rangeS; congr 1; funext x; rw [prefix_has]
theorem moved_map (a b : Bs) (t : List Pr) : movedT a b t = (t.filter fun x => a.isPrefixOf x.1).map fun x => (b ++ x.1.drop a.length, x.2) := by
  unfold movedT
  induction t with
  | nil => rfl
  | cons x t ih =>
    rw [List.filterMap_cons, List.filter_cons]
    cases h : a.isPrefixOf x.1 with
    | true =>
      have e : movedP a b x = some (b ++ x.1.drop a.length, x.2) := by unfold movedP movedS; rw [if_pos h]; rfl
      rw [e]; simp only [ih]; rfl
    | false =>
      have e : movedP a b x = none := by unfold movedP movedS; rw [if_neg (by rw [h]; simp)]; rfl
      rw [e]; simp only [ih]; rfl

/-- Whether a list is a table. -/
def validB : List Pr → Bool
  | [] => true
  | [_] => true
  | x :: y :: r => Op.bytesLess x.1 y.1 && validB (y :: r)
theorem validB_iff : ∀ t : List Pr, validB t = true ↔ Srt t
  | [] => by simp [validB, srt_nil]
  | [x] => by simp [validB, Srt]
  | x :: y :: r => by
    rw [validB, Bool.and_eq_true, validB_iff (y :: r), srt_cons (x := x)]
    constructor
    · rintro ⟨h1, h2⟩
      refine ⟨fun z hz => ?_, h2⟩
      rcases List.mem_cons.1 hz with rfl | hz
      · exact h1
      · exact less_trans _ _ _ h1 ((srt_cons.1 h2).1 z hz)
    · rintro ⟨h1, h2⟩
      exact ⟨h1 y (by simp), h2⟩
theorem validB_bad {t : List Pr} (i : Nat) (h : i + 1 < t.length) (hb : Op.bytesLess (t[i]'(by omega)).1 t[i + 1].1 = false) : validB t = false := by
  cases e : validB t with
  | false => rfl
  | true =>
    have := (List.pairwise_iff_getElem.1 ((validB_iff t).1 e)) i (i + 1) (by omega) h (by omega)
    rw [hb] at this; cases this
theorem validB_take {t : List Pr} (i : Nat) (h : i + 1 < t.length) (hv : Srt (t.take (i + 1))) (hb : Op.bytesLess (t[i]'(by omega)).1 t[i + 1].1 = true) : Srt (t.take (i + 2)) := by
  have e : t.take (i + 2) = t.take (i + 1) ++ [t[i + 1]] := by rw [List.take_add_one, List.getElem?_eq_getElem h]; rfl
  unfold Srt
  rw [e, List.pairwise_append]
  refine ⟨hv, List.pairwise_singleton _ _, fun x hx y hy => ?_⟩
  simp only [List.mem_singleton] at hy
  subst hy
  have e2 : t.take (i + 1) = t.take i ++ [t[i]'(by omega)] := by rw [List.take_add_one, List.getElem?_eq_getElem (by omega)]; rfl
  rw [e2] at hx hv
  rcases List.mem_append.1 hx with hx | hx
  · exact less_trans _ _ _ ((List.pairwise_append.1 hv).2.2 x hx _ (by simp)) hb
  · simp only [List.mem_singleton] at hx; subst hx; exact hb

/-- The reference's Put: from the front, with the mark. -/
def putR (p : Pr) : Bool → List Pr → List Pr
  | d, [] => if d then [] else [p]
  | d, x :: r => (if !d && !Op.bytesLess x.1 p.1 then [p] else []) ++ (if x.1 == p.1 then [] else [x]) ++ putR p (d || !Op.bytesLess x.1 p.1) r
theorem putR_true (p : Pr) : ∀ t, putR p true t = delS p.1 t
  | [] => rfl
  | x :: r => by
    rw [putR, Bool.true_or, putR_true p r]
    unfold delS
    rw [List.filter_cons]
    cases x.1 == p.1 <;> rfl
theorem putR_eq (p : Pr) : ∀ {t : List Pr}, Srt t → putR p false t = putS p t
  | [], _ => rfl
  | x :: r, h => by
    obtain ⟨h1, h2⟩ := srt_cons.1 h
    rw [putR]
    cases e : Op.bytesLess x.1 p.1 with
    | true =>
      rw [Bool.not_true, Bool.and_false, Bool.or_false, putR_eq p h2, show (x.1 == p.1) = false from by simpa using less_ne e]
      unfold putS
      rw [List.filter_cons, List.filter_cons, e, less_asymm e]; rfl
    | false =>
      rw [Bool.not_false, Bool.and_true, Bool.or_true, putR_true]
      unfold putS delS
      have hn : (x :: r).filter (fun y => Op.bytesLess y.1 p.1) = [] := by
        rw [List.filter_eq_nil_iff]; intro y hy
        rcases List.mem_cons.1 hy with rfl | hy
        · rw [e]; simp
        · have := h1 y hy
          cases e2 : Op.bytesLess y.1 p.1 with
          | false => simp
          | true => rw [less_trans _ _ _ this e2] at e; cases e
      rw [hn, List.filter_cons]
      have hr : r.filter (fun y => !(y.1 == p.1)) = r.filter fun y => Op.bytesLess p.1 y.1 := by
        refine List.filter_congr fun y hy => ?_
        rw [le_less_trans e (h1 y hy)]
        have := less_ne (le_less_trans e (h1 y hy))
        simp; exact fun e' => this e'.symm
      rw [hr]
      cases e2 : Op.bytesLess p.1 x.1 with
      | true =>
        rw [show (x.1 == p.1) = false from by simpa using fun e' => less_ne e2 e'.symm]; rfl
      | false => rw [less_total _ _ e e2]; simp

theorem table_ex : putS ([120], [53], 0) [([120], [49], 0), ([122], [51], 0)] = [([120], [53], 0), ([122], [51], 0)] := by decide +kernel
end Go.Proofs.YtdckiaokldkfmaaGreat
