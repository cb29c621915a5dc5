/-
  More plain facts on spans: prefixes, single keys, meeting, covering, parts, moving. No program.
-/
import Derived.Test.YtdckiaokldkfmaaGreatZS
import Derived.Lib.Strings
namespace Go.Proofs.YtdckiaokldkfmaaGreat

/-- Where the keys that begin with a text end. -/
def preH : Bs → Option Bs
  | [] => none
  | c :: r => match preH r with
    | some h => some (c :: h)
    | none => if c = 255 then none else some [c + 1]
def preT (p : Bs) : Bs := (preH p).getD []
theorem preH_ne {p h : Bs} (e : preH p = some h) : h ≠ [] := by
  cases p with
  | nil => cases e
  | cons c r =>
    unfold preH at e
    split at e
    · cases e; simp
    · split at e
      · cases e
      · cases e; simp
theorem less_cons (a b : UInt8) (l m : Bs) : Op.bytesLess (a :: l) (b :: m) = (decide (a < b) || (a == b && Op.bytesLess l m)) := rfl
theorem u8_255 (d : UInt8) : ¬ (255 : UInt8) < d := by
  intro h
  have h1 : (255 : UInt8).toNat < d.toNat := h
  have h2 := d.toNat_lt
  have h3 : (255 : UInt8).toNat = 255 := rfl
  omega
theorem u8_succ {c d : UInt8} (hc : ¬ c = 255) : d < c + 1 ↔ d ≤ c := by
  have h0 : c.toNat ≠ 255 := fun h => hc (UInt8.toNat_inj.1 (by rw [h]; rfl))
  have h1 := c.toNat_lt
  have h2 : (c + 1).toNat = c.toNat + 1 := by rw [UInt8.toNat_add]; simp; omega
  rw [UInt8.lt_iff_toNat_lt, UInt8.le_iff_toNat_le, h2]; omega
def lessO (k : Bs) : Option Bs → Bool
  | none => true
  | some h => Op.bytesLess k h
theorem preH_cons (c : UInt8) (r : Bs) : preH (c :: r) = (match preH r with | some h => some (c :: h) | none => if c = 255 then none else some [c + 1]) := rfl
theorem less_nil (l : Bs) : Op.bytesLess l [] = false := by cases l <;> rfl
theorem preH_iff : ∀ p k : Bs, (!Op.bytesLess k p && lessO k (preH p)) = p.isPrefixOf k
  | [], k => by cases k <;> rfl
  | c :: r, [] => by simp [Op.bytesLess]
  | c :: r, d :: k => by
    have ih := preH_iff r k
    rw [List.isPrefixOf_cons_cons, ← ih, preH_cons]
    clear ih
    generalize preH r = q
    cases q with
    | some h =>
      simp only [less_cons, lessO]
      by_cases h1 : d < c
      · have h2 : ¬ c = d := by rintro rfl; exact UInt8.lt_irrefl _ h1
        simp [h1, h2]
      · by_cases h2 : d = c
        · subst h2; simp [UInt8.lt_irrefl]
        · have h3 : (c == d) = false := by simpa using (fun e => h2 e.symm : ¬ c = d)
          have h4 : (d == c) = false := by simpa using h2
          simp [h1, h3, h4]
    | none =>
      by_cases hc : c = 255
      · subst hc
        simp only [less_cons, ↓reduceIte, lessO]
        by_cases h2 : d = 255
        · subst h2; simp [UInt8.lt_irrefl]
        · have h1 : d < 255 := by
            rcases UInt8.le_total d 255 with h | h
            · exact UInt8.lt_of_le_of_ne h h2
            · exact absurd (UInt8.lt_of_le_of_ne h (fun e => h2 e.symm)) (u8_255 d)
          have h3 : ¬ (255 : UInt8) = d := fun e => h2 e.symm
          simp [h1, h3]
      · simp only [if_neg hc, less_cons, less_nil, lessO]
        have hs := u8_succ (d := d) hc
        by_cases h1 : d < c
        · have h2 : ¬ c = d := by rintro rfl; exact UInt8.lt_irrefl _ h1
          simp [h1, h2]
        · by_cases h2 : d = c
          · subst h2; simp [UInt8.lt_irrefl, hs]
          · have h3 : ¬ c = d := fun e => h2 e.symm
            have h4 : ¬ d < c + 1 := fun h => h1 (UInt8.lt_of_le_of_ne (hs.1 h) h2)
            have h5 : (c == d) = false := by simpa using h3
            have h6 : (d == c) = false := by simpa using h2
            simp [h1, h4, h5, h6]
/-- A prefix has the keys that begin with it. -/
theorem prefix_has (p k : Bs) : hasB (p, preT p) k = p.isPrefixOf k := by
  rw [← preH_iff]
  unfold hasB preT
  cases h : preH p with
  | none => simp [lessO]
  | some t =>
    have : t.isEmpty = false := by simpa using preH_ne h
    simp [this, lessO]
theorem preH_full (m : Nat) : preH (List.replicate m 255) = none := by
  induction m with
  | zero => rfl
  | succ m ih => rw [List.replicate_succ, preH, ih]; simp
theorem preH_app (a : Bs) (c : UInt8) (m : Nat) (hc : ¬ c = 255) : preH (a ++ c :: List.replicate m 255) = some (a ++ [c + 1]) := by
  induction a with
  | nil => rw [List.nil_append, preH, preH_full]; simp [hc]
  | cons x a ih => rw [List.cons_append, preH, ih]; rfl
theorem prefix_self (p : Bs) : p.isPrefixOf p = true := by induction p with
  | nil => rfl
  | cons a r ih => simp
theorem prefix_nonempty (p : Bs) : emptyB (p, preT p) = false := by
  refine has_nonempty (k := p) ((hasB_iff _ _).1 ?_)
  rw [prefix_has]; exact prefix_self p

/-- A span of one key has it alone. -/
theorem one_has (p k : Bs) : hasB (p, p ++ [0]) k = (k == p) := by
  have : ∀ p k : Bs, (!Op.bytesLess k p && Op.bytesLess k (p ++ [0])) = (k == p) := by
    intro p
    induction p with
    | nil =>
      intro k
      cases k with
      | nil => rfl
      | cons a k =>
        have : ¬ a < 0 := by intro h; have : a.toNat < (0 : UInt8).toNat := h; exact absurd this (by simp)
        simp [less_cons, less_nil, this, Op.bytesLess]
    | cons c p ih =>
      intro k
      cases k with
      | nil => simp [Op.bytesLess]
      | cons a k =>
        have ih := ih k
        rw [List.cons_append, less_cons, less_cons]
        show _ = (a == c && k == p)
        rw [← ih]
        by_cases h1 : a < c
        · have h2 : ¬ a = c := by rintro rfl; exact UInt8.lt_irrefl _ h1
          simp [h1, h2]
        · by_cases h2 : a = c
          · subst h2; simp [UInt8.lt_irrefl]
          · have h3 : (a == c) = false := by simpa using h2
            simp [h1, h3]
  unfold hasB
  rw [← this p k]
  have h0 : (p ++ [(0 : UInt8)]).isEmpty = false := by simp
  simp only [h0, Bool.false_or]
theorem one_nonempty (p : Bs) : emptyB (p, p ++ [0]) = false := by
  refine has_nonempty (k := p) ((hasB_iff _ _).1 ?_)
  rw [one_has]; simp

/-- Where two spans meet. -/
def noneS : Sp := ([97], [97])
def meetS (a b : Sp) : Sp :=
  let s : Sp := (if ltP (keyP a.1) (keyP b.1) then b.1 else a.1, if ltP (hiP b.2) (hiP a.2) then b.2 else a.2)
  if emptyB s then noneS else s
theorem not_has_empty {s : Sp} (h : emptyB s = true) (k : Bs) : ¬ HasS s k := fun hk => by rw [has_nonempty hk] at h; cases h
theorem noneS_empty : emptyB noneS = true := by decide
theorem meet_has (a b : Sp) (k : Bs) : HasS (meetS a b) k ↔ HasS a k ∧ HasS b k := by
  have key : HasS (if ltP (keyP a.1) (keyP b.1) then b.1 else a.1, if ltP (hiP b.2) (hiP a.2) then b.2 else a.2) k ↔ HasS a k ∧ HasS b k := by
    unfold HasS
    by_cases h1 : ltP (keyP a.1) (keyP b.1) = true
    · have h1' := (ltP_iff _ _).1 h1
      by_cases h2 : ltP (hiP b.2) (hiP a.2) = true
      · have h2' := (ltP_iff _ _).1 h2
        rw [if_pos h1, if_pos h2]; grind
      · have h2' := (ltP_false _ _).1 (by simpa using h2)
        rw [if_pos h1, if_neg h2]; grind
    · have h1' := (ltP_false _ _).1 (by simpa using h1)
      by_cases h2 : ltP (hiP b.2) (hiP a.2) = true
      · have h2' := (ltP_iff _ _).1 h2
        rw [if_neg h1, if_pos h2]; grind
      · have h2' := (ltP_false _ _).1 (by simpa using h2)
        rw [if_neg h1, if_neg h2]; grind
  unfold meetS
  simp only
  by_cases he : emptyB (if ltP (keyP a.1) (keyP b.1) then b.1 else a.1, if ltP (hiP b.2) (hiP a.2) then b.2 else a.2) = true
  · rw [if_pos he, ← key]
    exact ⟨fun h => absurd h (not_has_empty noneS_empty k), fun h => absurd h (not_has_empty he k)⟩
  · rw [if_neg he]; exact key
theorem meet_hasB (a b : Sp) (k : Bs) : hasB (meetS a b) k = (hasB a k && hasB b k) := by
  rw [Bool.eq_iff_iff, hasB_iff, meet_has, Bool.and_eq_true, hasB_iff, hasB_iff]
theorem meet_comm (a b : Sp) : meetS a b = meetS b a := by
  have e1 : (if ltP (keyP a.1) (keyP b.1) then b.1 else a.1) = (if ltP (keyP b.1) (keyP a.1) then a.1 else b.1) := by
    by_cases h1 : ltP (keyP a.1) (keyP b.1) = true
    · have h2 : ¬ ltP (keyP b.1) (keyP a.1) = true := by
        have := (ltP_iff _ _).1 h1
        intro h; have := (ltP_iff _ _).1 h; grind
      rw [if_pos h1, if_neg h2]
    · by_cases h2 : ltP (keyP b.1) (keyP a.1) = true
      · rw [if_neg h1, if_pos h2]
      · rw [if_neg h1, if_neg h2]
        exact keyP_inj (ltP_total _ _ (by simpa using h1) (by simpa using h2))
  have e2 : (if ltP (hiP b.2) (hiP a.2) then b.2 else a.2) = (if ltP (hiP a.2) (hiP b.2) then a.2 else b.2) := by
    by_cases h1 : ltP (hiP b.2) (hiP a.2) = true
    · have h2 : ¬ ltP (hiP a.2) (hiP b.2) = true := by
        have := (ltP_iff _ _).1 h1
        intro h; have := (ltP_iff _ _).1 h; grind
      rw [if_pos h1, if_neg h2]
    · by_cases h2 : ltP (hiP a.2) (hiP b.2) = true
      · rw [if_neg h1, if_pos h2]
      · rw [if_neg h1, if_neg h2]
        exact hiP_inj (ltP_total _ _ (by simpa using h2) (by simpa using h1))
  unfold meetS
  rw [e1, e2]
theorem meet_none {a b : Sp} (h : emptyB (meetS a b) = true) : meetS a b = noneS := by
  by_cases he : emptyB (if ltP (keyP a.1) (keyP b.1) then b.1 else a.1, if ltP (hiP b.2) (hiP a.2) then b.2 else a.2) = true
  · unfold meetS; simp only; rw [if_pos he]
  · unfold meetS at h; simp only at h; rw [if_neg he] at h; exact absurd h he

/-- Covering. -/
def coversB (a b : Sp) : Bool := emptyB b || (!ltP (keyP b.1) (keyP a.1) && !ltP (hiP a.2) (hiP b.2))
theorem covers_has {a b : Sp} (h : coversB a b = true) {k : Bs} (hk : hasB b k = true) : hasB a k = true := by
  rw [hasB_iff] at *
  unfold coversB at h
  rw [has_nonempty hk] at h
  simp only [Bool.false_or, Bool.and_eq_true, Bool.not_eq_true'] at h
  obtain ⟨h1, h2⟩ := h
  have h1 := (ltP_false _ _).1 h1
  have h2 := (ltP_false _ _).1 h2
  obtain ⟨k1, k2⟩ := hk
  exact ⟨by grind, by grind⟩
theorem covers_self (a : Sp) : coversB a a = true := by unfold coversB; rw [ltP_irrefl, ltP_irrefl]; simp
theorem covers_not {a b : Sp} (h : coversB a b = false) : emptyB b = false ∧ (hasB a b.1 = false ∨ (a.2 ≠ [] ∧ hasB b a.2 = true)) := by
  unfold coversB at h
  simp only [Bool.or_eq_false_iff, Bool.and_eq_false_iff, Bool.not_eq_false'] at h
  obtain ⟨he, h⟩ := h
  refine ⟨he, ?_⟩
  have hb := (emptyB_no b).1 he
  by_cases ha : hasB a b.1 = true
  · right
    have ha' := (hasB_iff _ _).1 ha
    rcases h with h | h
    · have := (ltP_iff _ _).1 h
      have := ha'.1
      grind
    · have h := (ltP_iff _ _).1 h
      have hne : a.2 ≠ [] := by intro e; rw [e] at h; exact top_max _ h
      refine ⟨hne, (hasB_iff _ _).2 ⟨?_, ?_⟩⟩
      · have := ha'.2
        rw [hiP_ne hne] at this
        grind
      · rw [hiP_ne hne] at h; exact h
  · left; simpa using ha

/-- Moving. -/
theorem prefix_app (p k : Bs) : p.isPrefixOf (p ++ k) = true := by induction p with
  | nil => rfl
  | cons a r ih => simp
theorem less_same (p l m : Bs) : Op.bytesLess (p ++ l) (p ++ m) = Op.bytesLess l m := by
  induction p with
  | nil => rfl
  | cons a p ih => rw [List.cons_append, List.cons_append, less_cons, ih]; simp
def movedS (k a b : Bs) : Option Bs := if a.isPrefixOf k then some (b ++ k.drop a.length) else none
theorem moved_app (a b k : Bs) : movedS (a ++ k) a b = some (b ++ k) := by unfold movedS; rw [if_pos (prefix_app a k)]; simp

end Go.Proofs.YtdckiaokldkfmaaGreat
