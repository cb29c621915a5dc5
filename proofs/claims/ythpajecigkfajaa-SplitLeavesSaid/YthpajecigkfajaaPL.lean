/-
  Plain functions on lists of bytes that say what package span computes, and facts on them. No program. More plain facts on spans: prefixes, single keys, meeting, covering, parts, moving. No program. Plain functions on lists of pairs that say what package table computes, and facts on them. No program. Plain facts on tables: unions, what is put and found, spans. Plain messages: what package msg computes, and facts on it. No program. Plain facts on messages: what they change, what they depend on, when they may be exchanged. No program.
-/
import Derived.WalkKit
import Derived.Lib.Strings
import Derived.Lib.Bytealg
namespace Go.Proofs.Ythpajecigkfajaa
abbrev Bs := List UInt8
/-- A string of a list. -/
def Str (l : Bs) : ByteArray := ⟨l.toArray⟩

theorem less_irrefl : ∀ a : Bs, Op.bytesLess a a = false
  | [] => rfl
  | a :: x => by simp [Op.bytesLess, less_irrefl x]
theorem less_trans : ∀ a b c : Bs, Op.bytesLess a b = true → Op.bytesLess b c = true → Op.bytesLess a c = true
  | _, [], c, h, _ => by cases ‹List UInt8› <;> simp [Op.bytesLess] at h
  | _, _ :: _, [], _, h => by simp [Op.bytesLess] at h
  | [], _ :: _, _ :: _, _, _ => rfl
  | a :: x, b :: y, c :: z, h1, h2 => by
    simp only [Op.bytesLess, Bool.or_eq_true, decide_eq_true_eq, Bool.and_eq_true, beq_iff_eq] at *
    rcases h1 with h1 | ⟨rfl, h1⟩
    · rcases h2 with h2 | ⟨rfl, h2⟩
      · exact .inl (UInt8.lt_trans h1 h2)
      · exact .inl h1
    · rcases h2 with h2 | ⟨rfl, h2⟩
      · exact .inl h2
      · exact .inr ⟨rfl, less_trans x y z h1 h2⟩
theorem less_total : ∀ a b : Bs, Op.bytesLess a b = false → Op.bytesLess b a = false → a = b
  | [], [], _, _ => rfl
  | [], _ :: _, h, _ => by simp [Op.bytesLess] at h
  | _ :: _, [], _, h => by simp [Op.bytesLess] at h
  | a :: x, b :: y, h1, h2 => by
    simp only [Op.bytesLess, Bool.or_eq_false_iff, decide_eq_false_iff_not, Bool.and_eq_false_iff, beq_eq_false_iff_ne, ne_eq] at *
    have e : a = b := UInt8.le_antisymm (by simpa using h2.1) (by simpa using h1.1)
    subst e
    rw [less_total x y (by simpa using h1.2) (by simpa using h2.2)]

/-- A place between keys: a key, or the top. -/
def Pt := Option Bs
def ltP : Pt → Pt → Bool
  | some a, some b => Op.bytesLess a b
  | some _, none => true
  | none, _ => false
instance : LT Pt := ⟨fun a b => ltP a b = true⟩
instance : LE Pt := ⟨fun a b => ltP b a = false⟩
theorem ltP_irrefl (a : Pt) : ltP a a = false := by cases a with
  | none => rfl
  | some a => exact less_irrefl a
theorem ltP_trans (a b c : Pt) (h : ltP a b = true) (k : ltP b c = true) : ltP a c = true := by
  cases a with
  | none => simp [ltP] at h
  | some a => cases b with
    | none => simp [ltP] at k
    | some b => cases c with
      | none => rfl
      | some c => exact less_trans a b c h k
theorem ltP_total (a b : Pt) (h : ltP a b = false) (k : ltP b a = false) : a = b := by
  cases a with
  | none => cases b with
    | none => rfl
    | some b => simp [ltP] at k
  | some a => cases b with
    | none => simp [ltP] at h
    | some b => rw [less_total a b h k]
instance : Std.IsLinearOrder Pt where
  le_refl := ltP_irrefl
  le_trans a b c h k := by
    show ltP c a = false
    have h : ltP b a = false := h
    have k : ltP c b = false := k
    cases e : ltP c a with
    | false => rfl
    | true =>
      cases e2 : ltP a b with
      | true => rw [ltP_trans c a b e e2] at k; cases k
      | false => rw [ltP_total a b e2 h] at e; rw [e] at k; cases k
  le_antisymm a b h k := ltP_total a b k h
  le_total a b := by
    show ltP b a = false ∨ ltP a b = false
    cases e : ltP b a with
    | false => exact .inl rfl
    | true => cases e2 : ltP a b with
      | false => exact .inr rfl
      | true => have := ltP_trans a b a e2 e; rw [ltP_irrefl] at this; cases this
instance : Std.LawfulOrderLT Pt where
  lt_iff a b := by
    show ltP a b = true ↔ ltP b a = false ∧ ¬ ltP a b = false
    constructor
    · intro h
      refine ⟨?_, by simp [h]⟩
      cases e2 : ltP b a with
      | false => rfl
      | true => have := ltP_trans a b a h e2; rw [ltP_irrefl] at this; cases this
    · rintro ⟨_, h⟩; simpa using h
theorem ltP_iff (a b : Pt) : ltP a b = true ↔ a < b := Iff.rfl
theorem ltP_false (a b : Pt) : ltP a b = false ↔ b ≤ a := Iff.rfl

/-- A key as a place; the end of a span as a place. -/
def keyP (k : Bs) : Pt := some k
def topP : Pt := none
def hiP (h : Bs) : Pt := if h = [] then topP else keyP h
theorem keyP_inj {a b : Bs} (h : keyP a = keyP b) : a = b := by unfold keyP at h; exact Option.some.inj h
theorem keyP_top (k : Bs) : keyP k < topP := rfl
theorem keyP_nil (k : Bs) : keyP [] ≤ keyP k := by show ltP (keyP k) (keyP []) = false; cases k <;> rfl
theorem hiP_nil : hiP [] = topP := rfl
theorem hiP_ne {h : Bs} (hh : h ≠ []) : hiP h = keyP h := by unfold hiP; rw [if_neg hh]
theorem top_max (p : Pt) : ¬ topP < p := by intro h; cases (show ltP none p = true from h)
theorem hiP_inj {a b : Bs} (h : hiP a = hiP b) : a = b := by
  by_cases ha : a = []
  · by_cases hb : b = []
    · rw [ha, hb]
    · rw [ha, hiP_nil, hiP_ne hb] at h; cases h
  · by_cases hb : b = []
    · rw [hb, hiP_nil, hiP_ne ha] at h; cases h
    · rw [hiP_ne ha, hiP_ne hb] at h; exact keyP_inj h

/-- A span: where it begins and ends. -/
abbrev Sp := Bs × Bs
def HasS (s : Sp) (k : Bs) : Prop := keyP s.1 ≤ keyP k ∧ keyP k < hiP s.2
def hasB (s : Sp) (k : Bs) : Bool := !Op.bytesLess k s.1 && (s.2.isEmpty || Op.bytesLess k s.2)
def emptyB (s : Sp) : Bool := !ltP (keyP s.1) (hiP s.2)
theorem emptyB_iff (s : Sp) : emptyB s = true ↔ hiP s.2 ≤ keyP s.1 := by unfold emptyB; rw [Bool.not_eq_true']; exact Iff.rfl
theorem emptyB_no (s : Sp) : emptyB s = false ↔ keyP s.1 < hiP s.2 := by unfold emptyB; rw [Bool.not_eq_false']; exact Iff.rfl
theorem hasB_iff (s : Sp) (k : Bs) : hasB s k = true ↔ HasS s k := by
  unfold hasB HasS
  rw [Bool.and_eq_true, Bool.not_eq_true', Bool.or_eq_true]
  refine and_congr Iff.rfl ?_
  cases h : s.2 with
  | nil => simp [hiP_nil]; exact keyP_top k
  | cons a r => rw [hiP_ne (by simp)]; simp; exact Iff.rfl
theorem has_lo {s : Sp} (h : emptyB s = false) : HasS s s.1 := ⟨by grind, (emptyB_no s).1 h⟩
theorem has_nonempty {s : Sp} {k : Bs} (h : HasS s k) : emptyB s = false := by
  rw [emptyB_no]; obtain ⟨h1, h2⟩ := h; grind
/-- A list of spans has a key. -/
def InL (l : List Sp) (k : Bs) : Prop := ∃ s ∈ l, HasS s k
def inB (l : List Sp) (k : Bs) : Bool := l.any fun s => hasB s k
theorem inB_iff (l : List Sp) (k : Bs) : inB l k = true ↔ InL l k := by
  unfold inB InL; rw [List.any_eq_true]; simp only [hasB_iff]
theorem InL_nil (k : Bs) : ¬ InL [] k := by rintro ⟨s, hs, _⟩; cases hs
theorem InL_cons (s : Sp) (l : List Sp) (k : Bs) : InL (s :: l) k ↔ HasS s k ∨ InL l k := by simp [InL]
theorem InL_append (l m : List Sp) (k : Bs) : InL (l ++ m) k ↔ InL l k ∨ InL m k := by
  unfold InL; simp only [List.mem_append]
  constructor
  · rintro ⟨s, h | h, k⟩
    · exact .inl ⟨s, h, k⟩
    · exact .inr ⟨s, h, k⟩
  · rintro (⟨s, h, k⟩ | ⟨s, h, k⟩)
    · exact ⟨s, .inl h, k⟩
    · exact ⟨s, .inr h, k⟩

/-- A normal list. -/
def Nrm : List Sp → Prop
  | [] => True
  | s :: r => emptyB s = false ∧ (∀ t ∈ r, hiP s.2 < keyP t.1) ∧ Nrm r

theorem Nrm.ne {l : List Sp} (h : Nrm l) : ∀ s ∈ l, emptyB s = false := by
  induction l with
  | nil => simp
  | cons a r ih =>
    intro s hs
    rcases List.mem_cons.1 hs with rfl | hs
    · exact h.1
    · exact ih h.2.2 s hs

/-- A normal list is told by its keys. -/
theorem Nrm.unique : ∀ {a b : List Sp}, Nrm a → Nrm b → (∀ k, InL a k ↔ InL b k) → a = b
  | [], [], _, _, _ => rfl
  | [], t :: r, _, hb, h => absurd ((h t.1).2 ⟨t, by simp, has_lo hb.1⟩) (InL_nil _)
  | s :: r, [], ha, _, h => absurd ((h s.1).1 ⟨s, by simp, has_lo ha.1⟩) (InL_nil _)
  | s :: a, t :: b, ha, hb, h => by
    have low : ∀ {x : Sp} {l : List Sp}, Nrm (x :: l) → ∀ k, InL (x :: l) k → keyP x.1 ≤ keyP k := by
      intro x l hx k hk
      rw [InL_cons] at hk
      rcases hk with hk | ⟨y, hy, hk⟩
      · exact hk.1
      · have h1 := hx.2.1 y hy
        have h2 := (emptyB_no x).1 hx.1
        have h3 := hk.1
        grind
    have l1 := low hb s.1 ((h s.1).1 ⟨s, by simp, has_lo ha.1⟩)
    have l2 := low ha t.1 ((h t.1).2 ⟨t, by simp, has_lo hb.1⟩)
    have e1 : s.1 = t.1 := keyP_inj (by grind)
    have up : ∀ {x y : Sp} {l m : List Sp}, Nrm (x :: l) → Nrm (y :: m) → x.1 = y.1 → (∀ k, InL (y :: m) k → InL (x :: l) k) → ¬ hiP x.2 < hiP y.2 := by
      intro x y l m hx hy e hk hlt
      have hx2 : x.2 ≠ [] := by intro e2; rw [e2] at hlt; exact top_max _ hlt
      rw [hiP_ne hx2] at hlt
      have hx1 := (emptyB_no x).1 hx.1
      rw [hiP_ne hx2] at hx1
      have hin : InL (y :: m) x.2 := ⟨y, by simp, by rw [← e]; grind, hlt⟩
      have := hk _ hin
      rw [InL_cons] at this
      rcases this with ⟨_, h2⟩ | ⟨z, hz, h2, _⟩
      · rw [hiP_ne hx2] at h2; grind
      · have := hx.2.1 z hz
        rw [hiP_ne hx2] at this
        grind
    have u1 := up ha hb e1 (fun k => (h k).2)
    have u2 := up hb ha e1.symm (fun k => (h k).1)
    have e2 : s.2 = t.2 := hiP_inj (by grind)
    have e : s = t := by obtain ⟨s1, s2⟩ := s; obtain ⟨t1, t2⟩ := t; simp at e1 e2; rw [e1, e2]
    subst e
    have tail : ∀ {x : Sp} {l m : List Sp}, Nrm (x :: l) → (∀ k, InL (x :: l) k → InL (x :: m) k) → ∀ k, InL l k → InL m k := by
      intro x l m hx hk k hl
      have := hk k ((InL_cons _ _ _).2 (.inr hl))
      rw [InL_cons] at this
      rcases this with h1 | h1
      · obtain ⟨y, hy, h2⟩ := hl
        have h3 := hx.2.1 y hy
        have h4 := h1.2
        have h5 := h2.1
        grind
      · exact h1
    rw [Nrm.unique ha.2.2 hb.2.2 (fun k => ⟨tail ha (fun k => (h k).1) k, tail hb (fun k => (h k).2) k⟩)]

/-! ### Ends of spans, and the sweep over them -/
/-- An end: its key, whether it is the top, what it adds, and to which list. -/
abbrev Ev := Bs × Bool × Int × Int
def ptE (e : Ev) : Pt := if e.2.1 then topP else keyP e.1
def cmpE (a b : Ev) : Int := if a.2.1 != b.2.1 then (if a.2.1 then 1 else -1) else Lib.compareBytes a.1 b.1
def ltE (a b : Ev) : Bool := decide (cmpE a b < 0)

theorem cmpB_lt (a b : Bs) : decide (Lib.compareBytes a b < 0) = Op.bytesLess a b := by
  induction a generalizing b with
  | nil => cases b <;> simp [Lib.compareBytes, Op.bytesLess]
  | cons x a ih =>
    cases b with
    | nil => simp [Lib.compareBytes, Op.bytesLess]
    | cons y b =>
      simp only [Lib.compareBytes, Op.bytesLess]
      by_cases h1 : x < y
      · simp [h1]
      · by_cases h2 : y < x
        · have : ¬ x = y := by rintro rfl; exact h1 h2
          simp [h1, h2, this]
        · have : x = y := UInt8.le_antisymm (by simpa using h2) (by simpa using h1)
          subst this
          simp [ih]
theorem cmpB_gt (a b : Bs) : decide (0 < Lib.compareBytes a b) = Op.bytesLess b a := by
  induction a generalizing b with
  | nil => cases b <;> simp [Lib.compareBytes, Op.bytesLess]
  | cons x a ih =>
    cases b with
    | nil => simp [Lib.compareBytes, Op.bytesLess]
    | cons y b =>
      simp only [Lib.compareBytes, Op.bytesLess]
      by_cases h1 : x < y
      · have h3 : ¬ y < x := fun h => UInt8.lt_irrefl _ (UInt8.lt_trans h1 h)
        have h4 : ¬ y = x := by rintro rfl; exact UInt8.lt_irrefl _ h1
        simp [h1, h3, h4]
      · by_cases h2 : y < x
        · simp [h1, h2]
        · have : x = y := UInt8.le_antisymm (by simpa using h2) (by simpa using h1)
          subst this
          simp [ih]
/-- A top has no key. -/
def WfE (e : Ev) : Prop := e.2.1 = true → e.1 = []
theorem ltE_wf {a b : Ev} (ha : WfE a) (hb : WfE b) : ltE a b = ltP (ptE a) (ptE b) := by
  obtain ⟨ka, ta, _⟩ := a
  obtain ⟨kb, tb, _⟩ := b
  unfold ltE cmpE ptE
  cases ta <;> cases tb
  · show decide (Lib.compareBytes ka kb < 0) = Op.bytesLess ka kb; exact cmpB_lt _ _
  · rfl
  · rfl
  · have h1 : ka = [] := ha rfl
    have h2 : kb = [] := hb rfl
    subst h1 h2
    rfl
theorem cmpE_pos {a b : Ev} (ha : WfE a) (hb : WfE b) : decide (0 < cmpE a b) = ltP (ptE b) (ptE a) := by
  obtain ⟨ka, ta, _⟩ := a
  obtain ⟨kb, tb, _⟩ := b
  unfold cmpE ptE
  cases ta <;> cases tb
  · show decide (0 < Lib.compareBytes ka kb) = Op.bytesLess kb ka; exact cmpB_gt _ _
  · rfl
  · rfl
  · have h1 : ka = [] := ha rfl
    have h2 : kb = [] := hb rfl
    subst h1 h2
    rfl
theorem cmpE_zero {a b : Ev} (ha : WfE a) (hb : WfE b) : cmpE a b = 0 ↔ ptE a = ptE b := by
  have h1 := ltE_wf ha hb
  have h2 := cmpE_pos ha hb
  unfold ltE at h1
  constructor
  · intro h
    rw [h] at h1 h2
    exact ltP_total _ _ h1.symm h2.symm
  · intro h
    rw [h, ltP_irrefl] at h1 h2
    simp at h1 h2
    omega
/-- 'Less' of ends, whatever they are. -/
theorem ltE_lex (a b : Ev) : ltE a b = if a.2.1 != b.2.1 then b.2.1 else Op.bytesLess a.1 b.1 := by
  obtain ⟨ka, ta, _⟩ := a
  obtain ⟨kb, tb, _⟩ := b
  unfold ltE cmpE
  cases ta <;> cases tb <;> simp
  · have := cmpB_lt ka kb; simpa using this
  · have := cmpB_lt ka kb; simpa using this
theorem ltE_irrefl (a : Ev) : ltE a a = false := by rw [ltE_lex]; simp [less_irrefl]
theorem ltE_trans (a b c : Ev) (h : ltE a b = true) (k : ltE b c = true) : ltE a c = true := by
  rw [ltE_lex] at *
  obtain ⟨ka, ta, _⟩ := a
  obtain ⟨kb, tb, _⟩ := b
  obtain ⟨kc, tc, _⟩ := c
  cases ta <;> cases tb <;> cases tc <;> simp at h k ⊢
  · exact less_trans _ _ _ h k
  · exact less_trans _ _ _ h k
theorem less_ntrans (a b c : Bs) (h : Op.bytesLess a b = false) (k : Op.bytesLess b c = false) : Op.bytesLess a c = false := by
  have h' : keyP b ≤ keyP a := h
  have k' : keyP c ≤ keyP b := k
  show keyP c ≤ keyP a
  grind
theorem ltE_ntrans (a b c : Ev) (h : ltE a b = false) (k : ltE b c = false) : ltE a c = false := by
  rw [ltE_lex] at *
  obtain ⟨ka, ta, _⟩ := a
  obtain ⟨kb, tb, _⟩ := b
  obtain ⟨kc, tc, _⟩ := c
  cases ta <;> cases tb <;> cases tc <;> simp at h k ⊢
  · exact less_ntrans _ _ _ h k
  · exact less_ntrans _ _ _ h k

/-- Sorted: no later one is less. -/
def SrtE : List Ev → Prop
  | [] => True
  | e :: r => (∀ f ∈ r, ltE f e = false) ∧ SrtE r

/-- The next end is at the same place. -/
def sameNext (e : Ev) : List Ev → Bool
  | [] => false
  | f :: _ => decide (cmpE e f = 0)
/-- What is open behind an end. -/
def openI (i : Int) (c : Int) (e : Ev) : Int := if e.2.2.2 = i then c + e.2.2.1 else c
def nowB (c0 c1 : Int) : Bool := decide (0 < c0) && decide (c1 = 0)
/-- The sweep. -/
def sweep (c0 c1 : Int) (ins : Bool) (lo : Bs) : List Ev → List Sp
  | [] => []
  | e :: r =>
    if sameNext e r then sweep (openI 0 c0 e) (openI 1 c1 e) ins lo r
    else
      let now := nowB (openI 0 c0 e) (openI 1 c1 e)
      let lo' := if now && !ins then e.1 else lo
      (if ins && !now then [(lo', e.1)] else []) ++ sweep (openI 0 c0 e) (openI 1 c1 e) now lo' r

/-- What the ends up to a key add. -/
def cov (i : Int) (k : Bs) : List Ev → Int
  | [] => 0
  | e :: r => (if e.2.2.2 = i ∧ ltP (keyP k) (ptE e) = false then e.2.2.1 else 0) + cov i k r
def tot (i : Int) : List Ev → Int
  | [] => 0
  | e :: r => (if e.2.2.2 = i then e.2.2.1 else 0) + tot i r

theorem cov_far (i : Int) (k : Bs) : ∀ r : List Ev, (∀ f ∈ r, keyP k < ptE f) → cov i k r = 0
  | [], _ => rfl
  | e :: r, h => by
    have h1 : ltP (keyP k) (ptE e) = true := h e (by simp)
    rw [cov, cov_far i k r (fun f hf => h f (by simp [hf])), h1]; simp

open Classical in
/-- What the sweep gives: a normal list with the keys at which the counts say so. -/
theorem sweep_spec : ∀ (evs : List Ev) (c0 c1 : Int) (ins : Bool) (lo : Bs), (∀ e ∈ evs, WfE e) → SrtE evs → c0 + tot 0 evs = 0 →
    (ins = true → ∀ e ∈ evs, keyP lo < ptE e) → (evs = [] → ins = false) →
    Nrm (sweep c0 c1 ins lo evs) ∧
    (∀ s ∈ sweep c0 c1 ins lo evs, (ins = true ∧ s.1 = lo) ∨ (∀ e, evs.head? = some e → ptE e ≤ keyP s.1)) ∧
    (ins = false → ∀ s ∈ sweep c0 c1 ins lo evs, ∀ e, evs.head? = some e → ptE e ≤ keyP s.1) ∧
    (∀ k, InL (sweep c0 c1 ins lo evs) k ↔ (if (∃ e, evs.head? = some e ∧ ptE e ≤ keyP k) then 0 < c0 + cov 0 k evs ∧ c1 + cov 1 k evs = 0 else ins = true ∧ keyP lo ≤ keyP k))
  | [], c0, c1, ins, lo, _, _, _, _, he => by
    refine ⟨trivial, by simp [sweep], by simp [sweep], fun k => ?_⟩
    rw [if_neg (by simp), he rfl]
    simp [sweep, InL_nil]
  | e :: r, c0, c1, ins, lo, hw, hs, ht, hl, _ => by
    have we : WfE e := hw e (by simp)
    have hwr : ∀ f ∈ r, WfE f := fun f hf => hw f (by simp [hf])
    have ht' : openI 0 c0 e + tot 0 r = 0 := by unfold openI; rw [tot] at ht; split <;> simp_all <;> omega
    have ge : ∀ f ∈ r, ptE e ≤ ptE f := fun f hf => by have := hs.1 f hf; rw [ltE_wf (hwr f hf) we] at this; exact this
    have covc : ∀ i c k, ptE e ≤ keyP k → openI i c e + cov i k r = c + cov i k (e :: r) := by
      intro i c k hk
      have hk' : ltP (keyP k) (ptE e) = false := hk
      unfold openI; rw [cov, hk']
      by_cases h : e.2.2.2 = i <;> simp [h] <;> omega
    by_cases hsn : sameNext e r = true
    · -- the next one is at the same place
      cases r with
      | nil => cases hsn
      | cons f r' =>
        have hp : ptE e = ptE f := (cmpE_zero we (hwr f (by simp))).1 (by simpa [sameNext] using hsn)
        have hl' : ins = true → ∀ g ∈ f :: r', keyP lo < ptE g := fun h g hg => hl h g (by simp [hg])
        obtain ⟨n1, n2, n3, n4⟩ := sweep_spec (f :: r') (openI 0 c0 e) (openI 1 c1 e) ins lo hwr hs.2 ht' hl' (by simp)
        have hd : sweep c0 c1 ins lo (e :: f :: r') = sweep (openI 0 c0 e) (openI 1 c1 e) ins lo (f :: r') := by rw [sweep, if_pos hsn]
        rw [hd]
        refine ⟨n1, fun s h => ?_, fun hi s h g hg => ?_, fun k => ?_⟩
        · rcases n2 s h with h1 | h1
          · exact .inl h1
          · refine .inr fun g hg => ?_
            have h2 := h1 f rfl
            simp at hg; subst hg; rw [hp]; exact h2
        · have h2 := n3 hi s h f rfl
          simp at hg; subst hg; rw [hp]; exact h2
        · rw [n4 k]
          simp only [List.head?_cons, Option.some.injEq, exists_eq_left']
          rw [← hp]
          by_cases hk : ptE e ≤ keyP k
          · rw [if_pos hk, if_pos hk, covc 0 c0 k hk, covc 1 c1 k hk]
          · rw [if_neg hk, if_neg hk]
    · -- the next one is elsewhere
      have hgt : ∀ f ∈ r, ptE e < ptE f := by
        cases r with
        | nil => intro f hf; cases hf
        | cons g r' =>
          intro f hf
          have hne : ¬ ptE e = ptE g := fun h => hsn (by simpa [sameNext] using (cmpE_zero we (hwr g (by simp))).2 h)
          have h1 := ge g (by simp)
          have h2 : ptE g ≤ ptE f := by
            rcases List.mem_cons.1 hf with rfl | hf'
            · grind
            · have := hs.2.1 f hf'; rw [ltE_wf (hwr f hf) (hwr g (by simp))] at this; exact this
          grind
      have etop : ∀ f ∈ r, e.2.1 = false := by
        intro f hf
        cases h : e.2.1 with
        | false => rfl
        | true =>
          have := hgt f hf
          unfold ptE at this
          rw [if_pos h] at this
          exact absurd this (top_max _)
      generalize hd0 : openI 0 c0 e = d0 at *
      generalize hd1 : openI 1 c1 e = d1 at *
      have hd : sweep c0 c1 ins lo (e :: r) = (if ins && !(nowB d0 d1) then [(if nowB d0 d1 && !ins then e.1 else lo, e.1)] else []) ++ sweep d0 d1 (nowB d0 d1) (if nowB d0 d1 && !ins then e.1 else lo) r := by
        rw [sweep, if_neg hsn, hd0, hd1]
      have nowr : nowB d0 d1 = true → r ≠ [] := by
        rintro h rfl
        simp [nowB, tot] at h ht'
        omega
      have nowtop : nowB d0 d1 = true → ptE e = keyP e.1 := by
        intro h
        have hr := nowr h
        obtain ⟨f, hf⟩ := List.exists_mem_of_ne_nil r hr
        unfold ptE; rw [etop f hf]; rfl
      -- the head of the rest lies behind
      have headgt : ∀ f, r.head? = some f → ptE e < ptE f := fun f hf => hgt f (List.mem_of_mem_head? (by rw [hf]; exact rfl))
      have headle : ∀ k, ¬ (∃ f, r.head? = some f ∧ ptE f ≤ keyP k) → ptE e ≤ keyP k → cov 0 k r = 0 ∧ cov 1 k r = 0 := by
        intro k hk _
        have : ∀ f ∈ r, keyP k < ptE f := by
          cases r with
          | nil => intro f hf; cases hf
          | cons g r' =>
            intro f hf
            have h1 : ¬ ptE g ≤ keyP k := fun h => hk ⟨g, rfl, h⟩
            rcases List.mem_cons.1 hf with rfl | hf'
            · grind
            · have := hs.2.1 f hf'; rw [ltE_wf (hwr f hf) (hwr g (by simp))] at this
              have : ptE g ≤ ptE f := this
              grind
        exact ⟨cov_far _ _ _ this, cov_far _ _ _ this⟩
      have nowk : ∀ k, ptE e ≤ keyP k → ¬ (∃ f, r.head? = some f ∧ ptE f ≤ keyP k) → ((0 < c0 + cov 0 k (e :: r) ∧ c1 + cov 1 k (e :: r) = 0) ↔ nowB d0 d1 = true) := by
        intro k hk hn
        obtain ⟨z0, z1⟩ := headle k hn hk
        have a0 := covc 0 c0 k hk
        have a1 := covc 1 c1 k hk
        rw [hd0] at a0
        rw [hd1] at a1
        rw [← a0, ← a1, z0, z1]
        simp [nowB]
      have farther : ∀ k, ¬ ptE e ≤ keyP k → ¬ (∃ f, r.head? = some f ∧ ptE f ≤ keyP k) := by
        rintro k hk ⟨f, hf, h⟩
        have := headgt f hf
        grind
      have wantr : ∀ k, ptE e ≤ keyP k → ((0 < d0 + cov 0 k r ∧ d1 + cov 1 k r = 0) ↔ (0 < c0 + cov 0 k (e :: r) ∧ c1 + cov 1 k (e :: r) = 0)) := by
        intro k hk
        have a0 := covc 0 c0 k hk
        have a1 := covc 1 c1 k hk
        rw [hd0] at a0
        rw [hd1] at a1
        rw [a0, a1]
      rw [hd]
      simp only [List.head?_cons, Option.some.injEq, exists_eq_left', forall_eq']
      cases hnow : nowB d0 d1 with
      | true =>
        have hpe := nowtop hnow
        have hrne := nowr hnow
        cases hins : ins with
        | true =>
          -- it goes on
          obtain ⟨n1, n2, n3, n4⟩ := sweep_spec r d0 d1 true lo hwr hs.2 ht' (fun _ g hg => hl hins g (by simp [hg])) (fun h => absurd h hrne)
          simp only [Bool.not_true, Bool.and_false, Bool.false_eq_true, ↓reduceIte, List.nil_append]
          refine ⟨n1, fun s h => ?_, by simp, fun k => ?_⟩
          · rcases n2 s h with h1 | h1
            · exact .inl ⟨trivial, h1.2⟩
            · refine .inr ?_
              obtain ⟨g, r', hr⟩ := List.exists_cons_of_ne_nil hrne
              have h2 := h1 g (by rw [hr]; rfl)
              have h3 := headgt g (by rw [hr]; rfl)
              grind
          · rw [n4 k]
            by_cases hk : ptE e ≤ keyP k
            · rw [if_pos hk]
              by_cases hh : ∃ f, r.head? = some f ∧ ptE f ≤ keyP k
              · rw [if_pos hh]; exact wantr k hk
              · rw [if_neg hh, nowk k hk hh, hnow]
                have := hl hins e (by simp)
                simp only [true_and, iff_true]
                grind
            · rw [if_neg hk, if_neg (farther k hk)]; simp
        | false =>
          -- it begins
          obtain ⟨n1, n2, n3, n4⟩ := sweep_spec r d0 d1 true e.1 hwr hs.2 ht' (fun _ g hg => by rw [← hpe]; exact hgt g hg) (fun h => absurd h hrne)
          simp only [Bool.false_and, Bool.not_false, Bool.and_true, Bool.false_eq_true, ↓reduceIte, List.nil_append]
          have key : ∀ s ∈ sweep d0 d1 true e.1 r, ptE e ≤ keyP s.1 := by
            intro s h
            rcases n2 s h with h1 | h1
            · rw [h1.2, hpe]; grind
            · obtain ⟨g, r', hr⟩ := List.exists_cons_of_ne_nil hrne
              have h2 := h1 g (by rw [hr]; rfl)
              have h3 := headgt g (by rw [hr]; rfl)
              grind
          refine ⟨n1, fun s h => .inr (key s h), fun _ => key, fun k => ?_⟩
          rw [n4 k]
          by_cases hk : ptE e ≤ keyP k
          · rw [if_pos hk]
            by_cases hh : ∃ f, r.head? = some f ∧ ptE f ≤ keyP k
            · rw [if_pos hh]; exact wantr k hk
            · rw [if_neg hh, nowk k hk hh, hnow]
              simp only [true_and, iff_true]
              rw [← hpe]; exact hk
          · rw [if_neg hk, if_neg (farther k hk)]
            simp only [true_and, false_and, iff_false]
            rw [← hpe]; exact hk
      | false =>
        obtain ⟨n1, n2, n3, n4⟩ := sweep_spec r d0 d1 false lo hwr hs.2 ht' (fun h => by cases h) (fun _ => rfl)
        have key : ∀ s ∈ sweep d0 d1 false lo r, ptE e < keyP s.1 := by
          intro s h
          cases r with
          | nil => simp [sweep] at h
          | cons g r' =>
            have h2 := n3 rfl s h g rfl
            have h3 := headgt g rfl
            grind
        cases hins : ins with
        | true =>
          -- it ends
          have hlo := hl hins e (by simp)
          have hpt : hiP e.1 = ptE e := by
            unfold ptE
            cases htp : e.2.1 with
            | true => rw [we htp]; rfl
            | false =>
              rw [if_neg (by simp)]
              refine hiP_ne ?_
              intro h0
              unfold ptE at hlo
              rw [htp, if_neg (by simp), h0] at hlo
              have := keyP_nil lo
              grind
          simp only [Bool.not_false, Bool.not_true, Bool.and_self, Bool.false_eq_true, ↓reduceIte, List.cons_append, List.nil_append]
          refine ⟨⟨?_, ?_, n1⟩, ?_, by simp, fun k => ?_⟩
          · rw [emptyB_no]; show keyP lo < hiP e.1; rw [hpt]; exact hlo
          · intro t h; show hiP e.1 < keyP t.1; rw [hpt]; exact key t h
          · intro s h
            rcases List.mem_cons.1 h with rfl | h
            · exact .inl ⟨trivial, rfl⟩
            · refine .inr ?_
              have := key s h
              grind
          · rw [InL_cons, n4 k]
            unfold HasS
            show (keyP lo ≤ keyP k ∧ keyP k < hiP e.1 ∨ _) ↔ _
            rw [hpt]
            by_cases hk : ptE e ≤ keyP k
            · rw [if_pos hk]
              have hk2 : ¬ keyP k < ptE e := by grind
              by_cases hh : ∃ f, r.head? = some f ∧ ptE f ≤ keyP k
              · rw [if_pos hh, ← wantr k hk]; simp [hk2]
              · rw [if_neg hh, nowk k hk hh, hnow]; simp [hk2]
            · rw [if_neg hk, if_neg (farther k hk)]
              have hk2 : keyP k < ptE e := by grind
              simp [hk2]
        | false =>
          simp only [Bool.not_false, Bool.and_true, Bool.false_eq_true, ↓reduceIte, List.nil_append]
          have key' : ∀ s ∈ sweep d0 d1 false lo r, ptE e ≤ keyP s.1 := fun s h => by have := key s h; grind
          refine ⟨n1, fun s h => .inr (key' s h), fun _ => key', fun k => ?_⟩
          rw [n4 k]
          by_cases hk : ptE e ≤ keyP k
          · rw [if_pos hk]
            by_cases hh : ∃ f, r.head? = some f ∧ ptE f ≤ keyP k
            · rw [if_pos hh]; exact wantr k hk
            · rw [if_neg hh, nowk k hk hh, hnow]; simp
          · rw [if_neg hk, if_neg (farther k hk)]; simp

/-- The sweep gives at most a span for two ends. -/
theorem sweep_length : ∀ (evs : List Ev) (c0 c1 : Int) (ins : Bool) (lo : Bs), 2 * (sweep c0 c1 ins lo evs).length ≤ evs.length + (if ins then 1 else 0)
  | [], _, _, _, _ => by simp [sweep]
  | e :: r, c0, c1, ins, lo => by
    rw [sweep]
    split
    · have := sweep_length r (openI 0 c0 e) (openI 1 c1 e) ins lo
      simp only [List.length_cons]; omega
    · generalize nowB (openI 0 c0 e) (openI 1 c1 e) = now
      have := sweep_length r (openI 0 c0 e) (openI 1 c1 e) now (if now && !ins then e.1 else lo)
      cases now <;> cases ins <;> simp at this ⊢ <;> omega

/-! ### The ends of lists -/
def evs (i : Int) (l : List Sp) : List Ev := l.flatMap fun s => if emptyB s then [] else [(s.1, false, 1, i), (s.2, s.2.isEmpty, -1, i)]
theorem evs_cons (i : Int) (s : Sp) (l : List Sp) : evs i (s :: l) = (if emptyB s then [] else [(s.1, false, 1, i), (s.2, s.2.isEmpty, -1, i)]) ++ evs i l := rfl
theorem evs_append (i : Int) (l m : List Sp) : evs i (l ++ m) = evs i l ++ evs i m := by unfold evs; rw [List.flatMap_append]
theorem evs_length (i : Int) (l : List Sp) : (evs i l).length ≤ 2 * l.length := by
  induction l with
  | nil => exact Nat.le_refl _
  | cons s l ih => rw [evs_cons, List.length_append, List.length_cons]; split <;> simp <;> omega
theorem evs_wf (i : Int) (l : List Sp) : ∀ e ∈ evs i l, WfE e := by
  intro e he
  unfold evs at he
  rw [List.mem_flatMap] at he
  obtain ⟨s, _, he⟩ := he
  split at he
  · cases he
  · simp at he
    rcases he with rfl | rfl
    · intro h; cases h
    · intro h; simpa using h
theorem cov_append (i : Int) (k : Bs) (a b : List Ev) : cov i k (a ++ b) = cov i k a + cov i k b := by
  induction a with
  | nil => simp [cov]
  | cons e a ih => rw [List.cons_append, cov, cov, ih]; omega
theorem tot_append (i : Int) (a b : List Ev) : tot i (a ++ b) = tot i a + tot i b := by
  induction a with
  | nil => simp [tot]
  | cons e a ih => rw [List.cons_append, tot, tot, ih]; omega
theorem cov_perm (i : Int) (k : Bs) {a b : List Ev} (h : a.Perm b) : cov i k a = cov i k b := by
  induction h with
  | nil => rfl
  | cons x _ ih => rw [cov, cov, ih]
  | swap x y l => simp only [cov]; omega
  | trans _ _ h1 h2 => rw [h1, h2]
theorem tot_perm (i : Int) {a b : List Ev} (h : a.Perm b) : tot i a = tot i b := by
  induction h with
  | nil => rfl
  | cons x _ ih => rw [tot, tot, ih]
  | swap x y l => simp only [tot]; omega
  | trans _ _ h1 h2 => rw [h1, h2]
/-- How many spans have a key. -/
def cnt (k : Bs) (l : List Sp) : Int := ((l.filter fun s => hasB s k).length : Nat)
theorem cnt_pos (k : Bs) (l : List Sp) : 0 < cnt k l ↔ InL l k := by
  unfold cnt
  rw [show ((0 : Int) < ((l.filter fun s => hasB s k).length : Nat)) ↔ 0 < (l.filter fun s => hasB s k).length by omega, List.length_pos_iff_exists_mem]
  unfold InL
  simp only [List.mem_filter, hasB_iff]
theorem cnt_zero (k : Bs) (l : List Sp) : cnt k l = 0 ↔ ¬ InL l k := by
  rw [← cnt_pos]
  have : 0 ≤ cnt k l := by unfold cnt; omega
  omega
theorem ptE_hi (h : Bs) (s i : Int) : ptE (h, h.isEmpty, s, i) = hiP h := by
  unfold ptE hiP
  cases h <;> simp
theorem cov_evs (i j : Int) (k : Bs) (l : List Sp) : cov i k (evs j l) = if j = i then cnt k l else 0 := by
  induction l with
  | nil => simp [evs, cov, cnt]
  | cons s l ih =>
    rw [evs_cons, cov_append, ih]
    have hc : cnt k (s :: l) = (if hasB s k then 1 else 0) + cnt k l := by
      unfold cnt; rw [List.filter_cons]; split <;> simp <;> omega
    rw [hc]
    by_cases hij : j = i
    · subst hij
      rw [if_pos rfl, if_pos rfl]
      congr 1
      have hx := hasB_iff s k
      by_cases he : emptyB s = true
      · have : hasB s k = false := by
          rw [Bool.eq_false_iff]; intro h
          have := has_nonempty (hx.1 h)
          rw [this] at he; cases he
        simp [he, this, cov]
      · have he' : emptyB s = false := by simpa using he
        have hlt := (emptyB_no s).1 he'
        rw [if_neg he]
        simp only [cov, ptE_hi, true_and, Int.add_zero]
        have e1 : ptE (s.1, false, 1, j) = keyP s.1 := rfl
        rw [e1]
        unfold HasS at hx
        by_cases h1 : ltP (keyP k) (keyP s.1) = false
        · by_cases h2 : ltP (keyP k) (hiP s.2) = false
          · have : hasB s k = false := by
              rw [Bool.eq_false_iff]; intro h
              have := (hx.1 h).2
              rw [show keyP k < hiP s.2 ↔ ltP (keyP k) (hiP s.2) = true from Iff.rfl, h2] at this; cases this
            simp [h1, h2, this]
          · have : hasB s k = true := hx.2 ⟨h1, (ltP_iff _ _).1 (by simpa using h2)⟩
            simp [h1, h2, this]
        · have h2 : ¬ ltP (keyP k) (hiP s.2) = false := by
            intro h2
            have a1 : ¬ keyP s.1 ≤ keyP k := h1
            have a2 : hiP s.2 ≤ keyP k := h2
            grind
          have : hasB s k = false := by
            rw [Bool.eq_false_iff]; intro h
            exact h1 (hx.1 h).1
          simp [h1, h2, this]
    · rw [if_neg hij, if_neg hij]
      split
      · simp [cov]
      · simp [cov, hij]
theorem tot_evs (i j : Int) (l : List Sp) : tot i (evs j l) = 0 := by
  induction l with
  | nil => rfl
  | cons s l ih =>
    rw [evs_cons, tot_append, ih]
    split
    · rfl
    · simp only [tot]; split <;> simp

/-- The sweep over sorted ends of two lists: the normal list of the keys of the first that the second has not. -/
theorem sweep_minus (l m : List Sp) (all : List Ev) (hp : all.Perm (evs 0 l ++ evs 1 m)) (hs : SrtE all) :
    Nrm (sweep 0 0 false [] all) ∧ ∀ k, InL (sweep 0 0 false [] all) k ↔ InL l k ∧ ¬ InL m k := by
  have hw : ∀ e ∈ all, WfE e := fun e he => by
    rcases List.mem_append.1 (hp.mem_iff.1 he) with h | h
    · exact evs_wf _ _ e h
    · exact evs_wf _ _ e h
  have ht : (0 : Int) + tot 0 all = 0 := by rw [tot_perm 0 hp, tot_append, tot_evs, tot_evs]; rfl
  obtain ⟨h1, _, _, h4⟩ := sweep_spec all 0 0 false [] hw hs ht (fun h => by cases h) (fun _ => rfl)
  refine ⟨h1, fun k => ?_⟩
  rw [h4 k]
  have c0 : cov 0 k all = cnt k l := by rw [cov_perm 0 k hp, cov_append, cov_evs, cov_evs]; simp
  have c1 : cov 1 k all = cnt k m := by rw [cov_perm 1 k hp, cov_append, cov_evs, cov_evs]; simp
  have hx : (0 < (0 : Int) + cov 0 k all ∧ (0 : Int) + cov 1 k all = 0) ↔ (InL l k ∧ ¬ InL m k) := by
    rw [c0, c1, ← cnt_pos, ← cnt_zero]; omega
  by_cases hh : ∃ e, all.head? = some e ∧ ptE e ≤ keyP k
  · rw [if_pos hh]; exact hx
  · rw [if_neg hh, ← hx]
    have far : ∀ f ∈ all, keyP k < ptE f := by
      cases all with
      | nil => intro f hf; cases hf
      | cons g r =>
        intro f hf
        have h1 : ¬ ptE g ≤ keyP k := fun h => hh ⟨g, rfl, h⟩
        rcases List.mem_cons.1 hf with rfl | hf'
        · grind
        · have := hs.1 f hf'; rw [ltE_wf (hw f hf) (hw g (by simp))] at this
          have : ptE g ≤ ptE f := this
          grind
    rw [cov_far 0 k all far]
    simp

/-! ### Sorting, so that there is one list -/
def insE (e : Ev) : List Ev → List Ev
  | [] => [e]
  | f :: r => if ltE f e then f :: insE e r else e :: f :: r
def srt : List Ev → List Ev
  | [] => []
  | e :: r => insE e (srt r)
theorem insE_perm (e : Ev) : ∀ r, (insE e r).Perm (e :: r)
  | [] => List.Perm.refl _
  | f :: r => by
    rw [insE]; split
    · exact ((insE_perm e r).cons f).trans (List.Perm.swap e f r)
    · exact List.Perm.refl _
theorem srt_perm : ∀ r, (srt r).Perm r
  | [] => List.Perm.refl _
  | e :: r => (insE_perm e (srt r)).trans ((srt_perm r).cons e)
theorem insE_srt (e : Ev) : ∀ r, SrtE r → SrtE (insE e r)
  | [], _ => ⟨(fun f hf => by cases hf), trivial⟩
  | f :: r, h => by
    rw [insE]
    cases hlt : ltE f e with
    | true =>
      simp only [↓reduceIte]
      refine ⟨fun g hg => ?_, insE_srt e r h.2⟩
      rcases List.mem_cons.1 ((insE_perm e r).mem_iff.1 hg) with rfl | hg
      · cases h2 : ltE g f with
        | false => rfl
        | true => have := ltE_trans _ _ _ hlt h2; rw [ltE_irrefl] at this; cases this
      · exact h.1 g hg
    | false =>
      simp only [Bool.false_eq_true, ↓reduceIte]
      refine ⟨fun g hg => ?_, h⟩
      rcases List.mem_cons.1 hg with rfl | hg
      · exact hlt
      · exact ltE_ntrans _ _ _ (h.1 g hg) hlt
theorem srt_srt : ∀ r, SrtE (srt r)
  | [] => trivial
  | e :: r => insE_srt e _ (srt_srt r)

/-- What Minus and Norm compute. -/
def minusS (l m : List Sp) : List Sp := sweep 0 0 false [] (srt (evs 0 l ++ evs 1 m))
def normS (l : List Sp) : List Sp := minusS l []
theorem minus_nrm (l m : List Sp) : Nrm (minusS l m) := (sweep_minus l m _ (srt_perm _) (srt_srt _)).1
theorem minus_in (l m : List Sp) (k : Bs) : InL (minusS l m) k ↔ InL l k ∧ ¬ InL m k := (sweep_minus l m _ (srt_perm _) (srt_srt _)).2 k
theorem norm_nrm (l : List Sp) : Nrm (normS l) := minus_nrm l []
theorem norm_in (l : List Sp) (k : Bs) : InL (normS l) k ↔ InL l k := by unfold normS; rw [minus_in]; simp [InL_nil]
/-- However the ends were sorted. -/
theorem sweep_eq (l m : List Sp) (all : List Ev) (hp : all.Perm (evs 0 l ++ evs 1 m)) (hs : SrtE all) : sweep 0 0 false [] all = minusS l m := by
  obtain ⟨h1, h2⟩ := sweep_minus l m all hp hs
  exact Nrm.unique h1 (minus_nrm l m) fun k => by rw [h2 k, minus_in]
theorem minus_of {r l m : List Sp} (h : Nrm r) (hk : ∀ k, InL r k ↔ InL l k ∧ ¬ InL m k) : minusS l m = r :=
  Nrm.unique (minus_nrm l m) h fun k => by rw [minus_in, hk k]
theorem norm_of {r l : List Sp} (h : Nrm r) (hk : ∀ k, InL r k ↔ InL l k) : normS l = r :=
  Nrm.unique (norm_nrm l) h fun k => by rw [norm_in, hk k]
theorem minus_length (l m : List Sp) : (minusS l m).length ≤ l.length + m.length := by
  have h1 := sweep_length (srt (evs 0 l ++ evs 1 m)) 0 0 false []
  have h2 := (srt_perm (evs 0 l ++ evs 1 m)).length_eq
  have h3 := evs_length 0 l
  have h4 := evs_length 1 m
  rw [List.length_append] at h2
  simp only [Bool.false_eq_true, ↓reduceIte] at h1
  unfold minusS
  omega
theorem norm_length (l : List Sp) : (normS l).length ≤ l.length := by have := minus_length l []; simpa [normS] using this

theorem norm_ex : normS [([99], [100]), ([97], [99]), ([120], [98])] = [([97], [100])] := by decide +kernel
theorem minus_ex : minusS [([], [])] [([98], [99])] = [([], [98]), ([99], [])] := by decide +kernel

end Go.Proofs.Ythpajecigkfajaa
namespace Go.Proofs.Ythpajecigkfajaa

/-- Where the keys that begin with a text end. -/
def preH : Bs → Option Bs
  | [] => none
  | c :: r => match preH r with
    | some h => some (c :: h)
    | none => if c = 255 then none else some [c + 1]
def preT (p : Bs) : Bs := (preH p).getD []
theorem preH_ne {p h : Bs} (e : preH p = some h) : h ≠ [] := by
  cases p with
  | nil => cases e
  | cons c r =>
    unfold preH at e
    split at e
    · cases e; simp
    · split at e
      · cases e
      · cases e; simp
theorem less_cons (a b : UInt8) (l m : Bs) : Op.bytesLess (a :: l) (b :: m) = (decide (a < b) || (a == b && Op.bytesLess l m)) := rfl
theorem u8_255 (d : UInt8) : ¬ (255 : UInt8) < d := by
  intro h
  have h1 : (255 : UInt8).toNat < d.toNat := h
  have h2 := d.toNat_lt
  have h3 : (255 : UInt8).toNat = 255 := rfl
  omega
theorem u8_succ {c d : UInt8} (hc : ¬ c = 255) : d < c + 1 ↔ d ≤ c := by
  have h0 : c.toNat ≠ 255 := fun h => hc (UInt8.toNat_inj.1 (by rw [h]; rfl))
  have h1 := c.toNat_lt
  have h2 : (c + 1).toNat = c.toNat + 1 := by rw [UInt8.toNat_add]; simp; omega
  rw [UInt8.lt_iff_toNat_lt, UInt8.le_iff_toNat_le, h2]; omega
def lessO (k : Bs) : Option Bs → Bool
  | none => true
  | some h => Op.bytesLess k h
theorem preH_cons (c : UInt8) (r : Bs) : preH (c :: r) = (match preH r with | some h => some (c :: h) | none => if c = 255 then none else some [c + 1]) := rfl
theorem less_nil (l : Bs) : Op.bytesLess l [] = false := by cases l <;> rfl
theorem preH_iff : ∀ p k : Bs, (!Op.bytesLess k p && lessO k (preH p)) = p.isPrefixOf k
  | [], k => by cases k <;> rfl
  | c :: r, [] => by simp [Op.bytesLess]
  | c :: r, d :: k => by
    have ih := preH_iff r k
    rw [List.isPrefixOf_cons_cons, ← ih, preH_cons]
    clear ih
    generalize preH r = q
    cases q with
    | some h =>
      simp only [less_cons, lessO]
      by_cases h1 : d < c
      · have h2 : ¬ c = d := by rintro rfl; exact UInt8.lt_irrefl _ h1
        simp [h1, h2]
      · by_cases h2 : d = c
        · subst h2; simp [UInt8.lt_irrefl]
        · have h3 : (c == d) = false := by simpa using (fun e => h2 e.symm : ¬ c = d)
          have h4 : (d == c) = false := by simpa using h2
          simp [h1, h3, h4]
    | none =>
      by_cases hc : c = 255
      · subst hc
        simp only [less_cons, ↓reduceIte, lessO]
        by_cases h2 : d = 255
        · subst h2; simp [UInt8.lt_irrefl]
        · have h1 : d < 255 := by
            rcases UInt8.le_total d 255 with h | h
            · exact UInt8.lt_of_le_of_ne h h2
            · exact absurd (UInt8.lt_of_le_of_ne h (fun e => h2 e.symm)) (u8_255 d)
          have h3 : ¬ (255 : UInt8) = d := fun e => h2 e.symm
          simp [h1, h3]
      · simp only [if_neg hc, less_cons, less_nil, lessO]
        have hs := u8_succ (d := d) hc
        by_cases h1 : d < c
        · have h2 : ¬ c = d := by rintro rfl; exact UInt8.lt_irrefl _ h1
          simp [h1, h2]
        · by_cases h2 : d = c
          · subst h2; simp [UInt8.lt_irrefl, hs]
          · have h3 : ¬ c = d := fun e => h2 e.symm
            have h4 : ¬ d < c + 1 := fun h => h1 (UInt8.lt_of_le_of_ne (hs.1 h) h2)
            have h5 : (c == d) = false := by simpa using h3
            have h6 : (d == c) = false := by simpa using h2
            simp [h1, h4, h5, h6]
/-- A prefix has the keys that begin with it. -/
theorem prefix_has (p k : Bs) : hasB (p, preT p) k = p.isPrefixOf k := by
  rw [← preH_iff]
  unfold hasB preT
  cases h : preH p with
  | none => simp [lessO]
  | some t =>
    have : t.isEmpty = false := by simpa using preH_ne h
    simp [this, lessO]
theorem preH_full (m : Nat) : preH (List.replicate m 255) = none := by
  induction m with
  | zero => rfl
  | succ m ih => rw [List.replicate_succ, preH, ih]; simp
theorem preH_app (a : Bs) (c : UInt8) (m : Nat) (hc : ¬ c = 255) : preH (a ++ c :: List.replicate m 255) = some (a ++ [c + 1]) := by
  induction a with
  | nil => rw [List.nil_append, preH, preH_full]; simp [hc]
  | cons x a ih => rw [List.cons_append, preH, ih]; rfl
theorem prefix_self (p : Bs) : p.isPrefixOf p = true := by induction p with
  | nil => rfl
  | cons a r ih => simp
theorem prefix_nonempty (p : Bs) : emptyB (p, preT p) = false := by
  refine has_nonempty (k := p) ((hasB_iff _ _).1 ?_)
  rw [prefix_has]; exact prefix_self p

/-- A span of one key has it alone. -/
theorem one_has (p k : Bs) : hasB (p, p ++ [0]) k = (k == p) := by
  have : ∀ p k : Bs, (!Op.bytesLess k p && Op.bytesLess k (p ++ [0])) = (k == p) := by
    intro p
    induction p with
    | nil =>
      intro k
      cases k with
      | nil => rfl
      | cons a k =>
        have : ¬ a < 0 := by intro h; have : a.toNat < (0 : UInt8).toNat := h; exact absurd this (by simp)
        simp [less_cons, less_nil, this, Op.bytesLess]
    | cons c p ih =>
      intro k
      cases k with
      | nil => simp [Op.bytesLess]
      | cons a k =>
        have ih := ih k
        rw [List.cons_append, less_cons, less_cons]
        show _ = (a == c && k == p)
        rw [← ih]
        by_cases h1 : a < c
        · have h2 : ¬ a = c := by rintro rfl; exact UInt8.lt_irrefl _ h1
          simp [h1, h2]
        · by_cases h2 : a = c
          · subst h2; simp [UInt8.lt_irrefl]
          · have h3 : (a == c) = false := by simpa using h2
            simp [h1, h3]
  unfold hasB
  rw [← this p k]
  have h0 : (p ++ [(0 : UInt8)]).isEmpty = false := by simp
  simp only [h0, Bool.false_or]
theorem one_nonempty (p : Bs) : emptyB (p, p ++ [0]) = false := by
  refine has_nonempty (k := p) ((hasB_iff _ _).1 ?_)
  rw [one_has]; simp

/-- Where two spans meet. -/
def noneS : Sp := ([97], [97])
def meetS (a b : Sp) : Sp :=
  let s : Sp := (if ltP (keyP a.1) (keyP b.1) then b.1 else a.1, if ltP (hiP b.2) (hiP a.2) then b.2 else a.2)
  if emptyB s then noneS else s
theorem not_has_empty {s : Sp} (h : emptyB s = true) (k : Bs) : ¬ HasS s k := fun hk => by rw [has_nonempty hk] at h; cases h
theorem noneS_empty : emptyB noneS = true := by decide
theorem meet_has (a b : Sp) (k : Bs) : HasS (meetS a b) k ↔ HasS a k ∧ HasS b k := by
  have key : HasS (if ltP (keyP a.1) (keyP b.1) then b.1 else a.1, if ltP (hiP b.2) (hiP a.2) then b.2 else a.2) k ↔ HasS a k ∧ HasS b k := by
    unfold HasS
    by_cases h1 : ltP (keyP a.1) (keyP b.1) = true
    · have h1' := (ltP_iff _ _).1 h1
      by_cases h2 : ltP (hiP b.2) (hiP a.2) = true
      · have h2' := (ltP_iff _ _).1 h2
        rw [if_pos h1, if_pos h2]; grind
      · have h2' := (ltP_false _ _).1 (by simpa using h2)
        rw [if_pos h1, if_neg h2]; grind
    · have h1' := (ltP_false _ _).1 (by simpa using h1)
      by_cases h2 : ltP (hiP b.2) (hiP a.2) = true
      · have h2' := (ltP_iff _ _).1 h2
        rw [if_neg h1, if_pos h2]; grind
      · have h2' := (ltP_false _ _).1 (by simpa using h2)
        rw [if_neg h1, if_neg h2]; grind
  unfold meetS
  simp only
  by_cases he : emptyB (if ltP (keyP a.1) (keyP b.1) then b.1 else a.1, if ltP (hiP b.2) (hiP a.2) then b.2 else a.2) = true
  · rw [if_pos he, ← key]
    exact ⟨fun h => absurd h (not_has_empty noneS_empty k), fun h => absurd h (not_has_empty he k)⟩
  · rw [if_neg he]; exact key
theorem meet_hasB (a b : Sp) (k : Bs) : hasB (meetS a b) k = (hasB a k && hasB b k) := by
  rw [Bool.eq_iff_iff, hasB_iff, meet_has, Bool.and_eq_true, hasB_iff, hasB_iff]
theorem meet_comm (a b : Sp) : meetS a b = meetS b a := by
  have e1 : (if ltP (keyP a.1) (keyP b.1) then b.1 else a.1) = (if ltP (keyP b.1) (keyP a.1) then a.1 else b.1) := by
    by_cases h1 : ltP (keyP a.1) (keyP b.1) = true
    · have h2 : ¬ ltP (keyP b.1) (keyP a.1) = true := by
        have := (ltP_iff _ _).1 h1
        intro h; have := (ltP_iff _ _).1 h; grind
      rw [if_pos h1, if_neg h2]
    · by_cases h2 : ltP (keyP b.1) (keyP a.1) = true
      · rw [if_neg h1, if_pos h2]
      · rw [if_neg h1, if_neg h2]
        exact keyP_inj (ltP_total _ _ (by simpa using h1) (by simpa using h2))
  have e2 : (if ltP (hiP b.2) (hiP a.2) then b.2 else a.2) = (if ltP (hiP a.2) (hiP b.2) then a.2 else b.2) := by
    by_cases h1 : ltP (hiP b.2) (hiP a.2) = true
    · have h2 : ¬ ltP (hiP a.2) (hiP b.2) = true := by
        have := (ltP_iff _ _).1 h1
        intro h; have := (ltP_iff _ _).1 h; grind
      rw [if_pos h1, if_neg h2]
    · by_cases h2 : ltP (hiP a.2) (hiP b.2) = true
      · rw [if_neg h1, if_pos h2]
      · rw [if_neg h1, if_neg h2]
        exact hiP_inj (ltP_total _ _ (by simpa using h2) (by simpa using h1))
  unfold meetS
  rw [e1, e2]
theorem meet_none {a b : Sp} (h : emptyB (meetS a b) = true) : meetS a b = noneS := by
  by_cases he : emptyB (if ltP (keyP a.1) (keyP b.1) then b.1 else a.1, if ltP (hiP b.2) (hiP a.2) then b.2 else a.2) = true
  · unfold meetS; simp only; rw [if_pos he]
  · unfold meetS at h; simp only at h; rw [if_neg he] at h; exact absurd h he

/-- Covering. -/
def coversB (a b : Sp) : Bool := emptyB b || (!ltP (keyP b.1) (keyP a.1) && !ltP (hiP a.2) (hiP b.2))
theorem covers_has {a b : Sp} (h : coversB a b = true) {k : Bs} (hk : hasB b k = true) : hasB a k = true := by
  rw [hasB_iff] at *
  unfold coversB at h
  rw [has_nonempty hk] at h
  simp only [Bool.false_or, Bool.and_eq_true, Bool.not_eq_true'] at h
  obtain ⟨h1, h2⟩ := h
  have h1 := (ltP_false _ _).1 h1
  have h2 := (ltP_false _ _).1 h2
  obtain ⟨k1, k2⟩ := hk
  exact ⟨by grind, by grind⟩
theorem covers_self (a : Sp) : coversB a a = true := by unfold coversB; rw [ltP_irrefl, ltP_irrefl]; simp
theorem covers_not {a b : Sp} (h : coversB a b = false) : emptyB b = false ∧ (hasB a b.1 = false ∨ (a.2 ≠ [] ∧ hasB b a.2 = true)) := by
  unfold coversB at h
  simp only [Bool.or_eq_false_iff, Bool.and_eq_false_iff, Bool.not_eq_false'] at h
  obtain ⟨he, h⟩ := h
  refine ⟨he, ?_⟩
  have hb := (emptyB_no b).1 he
  by_cases ha : hasB a b.1 = true
  · right
    have ha' := (hasB_iff _ _).1 ha
    rcases h with h | h
    · have := (ltP_iff _ _).1 h
      have := ha'.1
      grind
    · have h := (ltP_iff _ _).1 h
      have hne : a.2 ≠ [] := by intro e; rw [e] at h; exact top_max _ h
      refine ⟨hne, (hasB_iff _ _).2 ⟨?_, ?_⟩⟩
      · have := ha'.2
        rw [hiP_ne hne] at this
        grind
      · rw [hiP_ne hne] at h; exact h
  · left; simpa using ha

/-- Moving. -/
theorem prefix_app (p k : Bs) : p.isPrefixOf (p ++ k) = true := by induction p with
  | nil => rfl
  | cons a r ih => simp
theorem less_same (p l m : Bs) : Op.bytesLess (p ++ l) (p ++ m) = Op.bytesLess l m := by
  induction p with
  | nil => rfl
  | cons a p ih => rw [List.cons_append, List.cons_append, less_cons, ih]; simp
def movedS (k a b : Bs) : Option Bs := if a.isPrefixOf k then some (b ++ k.drop a.length) else none
theorem moved_app (a b k : Bs) : movedS (a ++ k) a b = some (b ++ k) := by unfold movedS; rw [if_pos (prefix_app a k)]; simp

end Go.Proofs.Ythpajecigkfajaa
namespace Go.Proofs.Ythpajecigkfajaa

/-- A pair: key, value, stamp. -/
abbrev Pr := Bs × Bs × Int
/-- In the order of keys. -/
def Srt (t : List Pr) : Prop := t.Pairwise (fun x y => Op.bytesLess x.1 y.1 = true)
def ltK (k : Bs) (x : Pr) : Bool := Op.bytesLess x.1 k
def rangeS (s : Sp) (t : List Pr) : List Pr := t.filter fun x => hasB s x.1
def dropS (s : Sp) (t : List Pr) : List Pr := t.filter fun x => !hasB s x.1
def delS (k : Bs) (t : List Pr) : List Pr := t.filter fun x => !(x.1 == k)
def putS (p : Pr) (t : List Pr) : List Pr := t.filter (fun x => Op.bytesLess x.1 p.1) ++ p :: t.filter (fun x => Op.bytesLess p.1 x.1)
def findS (k : Bs) (t : List Pr) : Option Pr := t.find? fun x => x.1 == k
def unionS (a b : List Pr) : List Pr := b.foldl (fun t p => putS p t) a
def movedP (a b : Bs) (x : Pr) : Option Pr := (movedS x.1 a b).map fun k => (k, x.2)
def movedT (a b : Bs) (t : List Pr) : List Pr := t.filterMap (movedP a b)

theorem srt_nil : Srt [] := List.Pairwise.nil
theorem srt_cons {x : Pr} {t : List Pr} : Srt (x :: t) ↔ (∀ y ∈ t, Op.bytesLess x.1 y.1 = true) ∧ Srt t := List.pairwise_cons
theorem srt_filter {t : List Pr} (f : Pr → Bool) (h : Srt t) : Srt (t.filter f) := h.filter f
theorem srt_key {t : List Pr} (h : Srt t) : ∀ x ∈ t, ∀ y ∈ t, x.1 = y.1 → x = y := by
  induction t with
  | nil => intro x hx; cases hx
  | cons z t ih =>
    obtain ⟨h1, h2⟩ := srt_cons.1 h
    intro x hx y hy e
    rcases List.mem_cons.1 hx with ex | hx
    · rcases List.mem_cons.1 hy with ey | hy
      · rw [ex, ey]
      · have := h1 y hy; rw [← ex, e, less_irrefl] at this; cases this
    · rcases List.mem_cons.1 hy with ey | hy
      · have := h1 x hx; rw [← ey, e, less_irrefl] at this; cases this
      · exact ih h2 x hx y hy e
/-- Tables with the same pairs are equal. -/
theorem Srt.unique : ∀ {a b : List Pr}, Srt a → Srt b → (∀ x, x ∈ a ↔ x ∈ b) → a = b
  | [], [], _, _, _ => rfl
  | [], y :: b, _, _, h => by have := (h y).2 (by simp); cases this
  | x :: a, [], _, _, h => by have := (h x).1 (by simp); cases this
  | x :: a, y :: b, ha, hb, h => by
    obtain ⟨h1, h2⟩ := srt_cons.1 ha
    obtain ⟨k1, k2⟩ := srt_cons.1 hb
    have e : x = y := by
      rcases List.mem_cons.1 ((h x).1 (by simp)) with e | hx
      · exact e
      · rcases List.mem_cons.1 ((h y).2 (by simp)) with e | hy
        · exact e.symm
        · have := less_trans _ _ _ (k1 x hx) (h1 y hy); rw [less_irrefl] at this; cases this
    subst e
    have : a = b := by
      refine Srt.unique h2 k2 fun z => ?_
      have hz := h z
      simp only [List.mem_cons] at hz
      constructor
      · intro hm
        rcases hz.1 (.inr hm) with e | e
        · subst e; have := h1 z hm; rw [less_irrefl] at this; cases this
        · exact e
      · intro hm
        rcases hz.2 (.inr hm) with e | e
        · subst e; have := k1 z hm; rw [less_irrefl] at this; cases this
        · exact e
    rw [this]

theorem less_asymm {a b : Bs} (h : Op.bytesLess a b = true) : Op.bytesLess b a = false := by
  cases e : Op.bytesLess b a with
  | false => rfl
  | true => have := less_trans a b a h e; rw [less_irrefl] at this; cases this
theorem less_ne {a b : Bs} (h : Op.bytesLess a b = true) : a ≠ b := by
  rintro rfl; rw [less_irrefl] at h; cases h
theorem ne_less {a b : Bs} (h : a ≠ b) : Op.bytesLess a b = true ∨ Op.bytesLess b a = true := by
  cases e : Op.bytesLess a b with
  | true => exact .inl rfl
  | false => cases e2 : Op.bytesLess b a with
    | true => exact .inr rfl
    | false => exact absurd (less_total a b e e2) h
theorem less_le_trans {a b c : Bs} (h : Op.bytesLess a b = true) (k : Op.bytesLess c b = false) : Op.bytesLess a c = true := by
  cases e : Op.bytesLess b c with
  | true => exact less_trans a b c h e
  | false => rw [less_total b c e k] at h; exact h
theorem le_less_trans {a b c : Bs} (h : Op.bytesLess b a = false) (k : Op.bytesLess b c = true) : Op.bytesLess a c = true := by
  cases e : Op.bytesLess a b with
  | true => exact less_trans a b c e k
  | false => rw [less_total a b e h]; exact k

theorem mem_range (s : Sp) (t : List Pr) (x : Pr) : x ∈ rangeS s t ↔ x ∈ t ∧ hasB s x.1 = true := by unfold rangeS; exact List.mem_filter
theorem mem_drop (s : Sp) (t : List Pr) (x : Pr) : x ∈ dropS s t ↔ x ∈ t ∧ hasB s x.1 = false := by unfold dropS; rw [List.mem_filter]; simp
theorem mem_del (k : Bs) (t : List Pr) (x : Pr) : x ∈ delS k t ↔ x ∈ t ∧ x.1 ≠ k := by unfold delS; rw [List.mem_filter]; simp
theorem srt_range (s : Sp) {t : List Pr} (h : Srt t) : Srt (rangeS s t) := srt_filter _ h
theorem srt_drop (s : Sp) {t : List Pr} (h : Srt t) : Srt (dropS s t) := srt_filter _ h
theorem srt_del (k : Bs) {t : List Pr} (h : Srt t) : Srt (delS k t) := srt_filter _ h
theorem mem_put (p : Pr) (t : List Pr) (x : Pr) : x ∈ putS p t ↔ x = p ∨ (x ∈ t ∧ x.1 ≠ p.1) := by
  unfold putS
  simp only [List.mem_append, List.mem_filter, List.mem_cons]
  constructor
  · rintro (⟨h1, h2⟩ | h | ⟨h1, h2⟩)
    · exact .inr ⟨h1, less_ne h2⟩
    · exact .inl h
    · exact .inr ⟨h1, fun e => less_ne h2 e.symm⟩
  · rintro (h | ⟨h1, h2⟩)
    · exact .inr (.inl h)
    · rcases ne_less h2 with h | h
      · exact .inl ⟨h1, h⟩
      · exact .inr (.inr ⟨h1, h⟩)
theorem srt_put (p : Pr) {t : List Pr} (h : Srt t) : Srt (putS p t) := by
  unfold putS Srt
  rw [List.pairwise_append]
  refine ⟨srt_filter _ h, srt_cons.2 ⟨fun y hy => (List.mem_filter.1 hy).2, srt_filter _ h⟩, fun x hx y hy => ?_⟩
  have hx2 := (List.mem_filter.1 hx).2
  rcases List.mem_cons.1 hy with rfl | hy
  · exact hx2
  · exact less_trans _ _ _ hx2 (List.mem_filter.1 hy).2
theorem put_length (p : Pr) (t : List Pr) : (putS p t).length ≤ t.length + 1 := by
  induction t with
  | nil => simp [putS]
  | cons x t ih =>
    unfold putS at *
    simp only [List.length_append, List.length_cons, List.filter_cons] at *
    cases h1 : Op.bytesLess x.1 p.1 with
    | true => rw [less_asymm h1]; simp; omega
    | false => cases h2 : Op.bytesLess p.1 x.1 <;> simp <;> omega
theorem union_nil (a : List Pr) : unionS a [] = a := rfl
theorem union_snoc (a b : List Pr) (p : Pr) : unionS a (b ++ [p]) = putS p (unionS a b) := by simp [unionS]
theorem union_cons (a b : List Pr) (p : Pr) : unionS a (p :: b) = unionS (putS p a) b := rfl
theorem srt_union {a : List Pr} (h : Srt a) : ∀ b, Srt (unionS a b) := by
  intro b
  induction b generalizing a with
  | nil => exact h
  | cons p b ih => exact ih (srt_put p h)
theorem mem_union (a : List Pr) {b : List Pr} (hb : Srt b) (x : Pr) : x ∈ unionS a b ↔ x ∈ b ∨ (x ∈ a ∧ ∀ y ∈ b, y.1 ≠ x.1) := by
  induction b generalizing a with
  | nil => simp [unionS]
  | cons p b ih =>
    obtain ⟨h1, h2⟩ := srt_cons.1 hb
    rw [union_cons, ih _ h2, mem_put, List.mem_cons]
    constructor
    · rintro (h | ⟨rfl | ⟨h3, h4⟩, h5⟩)
      · exact .inl (.inr h)
      · exact .inl (.inl rfl)
      · refine .inr ⟨h3, fun y hy => ?_⟩
        rcases List.mem_cons.1 hy with rfl | hy
        · exact fun e => h4 e.symm
        · exact h5 y hy
    · rintro ((rfl | h) | ⟨h3, h4⟩)
      · exact .inr ⟨.inl rfl, fun y hy e => less_ne (h1 y hy) e.symm⟩
      · exact .inl h
      · exact .inr ⟨.inr ⟨h3, fun e => h4 p (by simp) e.symm⟩, fun y hy => h4 y (by simp [hy])⟩
theorem union_length (a b : List Pr) : (unionS a b).length ≤ a.length + b.length := by
  induction b generalizing a with
  | nil => simp [unionS]
  | cons p b ih => rw [union_cons]; have := ih (putS p a); have := put_length p a; simp; omega

/-- Merging from both fronts. -/
def mergeS : List Pr → List Pr → List Pr
  | [], b => b
  | x :: a, [] => x :: a
  | x :: a, y :: b => if Op.bytesLess x.1 y.1 then x :: mergeS a (y :: b) else if x.1 == y.1 then mergeS a (y :: b) else y :: mergeS (x :: a) b
termination_by a b => a.length + b.length
theorem merge_nil (a : List Pr) : mergeS a [] = a := by cases a <;> simp [mergeS]
theorem merge_nil' (b : List Pr) : mergeS [] b = b := by simp [mergeS]
theorem mem_merge_or : ∀ (a b : List Pr) (x : Pr), x ∈ mergeS a b → x ∈ a ∨ x ∈ b
  | [], b, x, h => .inr (by simpa [mergeS] using h)
  | y :: a, [], x, h => .inl (by simpa [mergeS] using h)
  | y :: a, z :: b, x, h => by
    rw [mergeS] at h
    split at h
    · rcases List.mem_cons.1 h with rfl | h
      · exact .inl (by simp)
      · rcases mem_merge_or a (z :: b) x h with h | h
        · exact .inl (by simp [h])
        · exact .inr h
    · split at h
      · rcases mem_merge_or a (z :: b) x h with h | h
        · exact .inl (by simp [h])
        · exact .inr h
      · rcases List.mem_cons.1 h with rfl | h
        · exact .inr (by simp)
        · rcases mem_merge_or (y :: a) b x h with h | h
          · exact .inl h
          · exact .inr (by simp [h])
termination_by a b => a.length + b.length
theorem merge_spec : ∀ (a b : List Pr), Srt a → Srt b → Srt (mergeS a b) ∧ ∀ x, x ∈ mergeS a b ↔ x ∈ b ∨ (x ∈ a ∧ ∀ y ∈ b, y.1 ≠ x.1)
  | [], b, _, hb => by rw [merge_nil']; exact ⟨hb, fun x => by simp⟩
  | x :: a, [], ha, _ => by rw [merge_nil]; exact ⟨ha, fun x => by simp⟩
  | x :: a, y :: b, ha, hb => by
    obtain ⟨a1, a2⟩ := srt_cons.1 ha
    obtain ⟨b1, b2⟩ := srt_cons.1 hb
    rw [mergeS]
    cases h1 : Op.bytesLess x.1 y.1 with
    | true =>
      obtain ⟨s, m⟩ := merge_spec a (y :: b) a2 hb
      simp only [↓reduceIte]
      refine ⟨srt_cons.2 ⟨fun z hz => ?_, s⟩, fun z => ?_⟩
      · rcases mem_merge_or _ _ _ hz with h | h
        · exact a1 z h
        · rcases List.mem_cons.1 h with rfl | h
          · exact h1
          · exact less_trans _ _ _ h1 (b1 z h)
      · rw [List.mem_cons, m]
        constructor
        · rintro (rfl | h | ⟨h2, h3⟩)
          · refine .inr ⟨by simp, fun w hw => ?_⟩
            rcases List.mem_cons.1 hw with rfl | hw
            · exact fun e => less_ne h1 e.symm
            · exact fun e => less_ne (less_trans _ _ _ h1 (b1 w hw)) e.symm
          · exact .inl h
          · exact .inr ⟨by simp [h2], h3⟩
        · rintro (h | ⟨h2, h3⟩)
          · exact .inr (.inl h)
          · rcases List.mem_cons.1 h2 with rfl | h2
            · exact .inl rfl
            · exact .inr (.inr ⟨h2, h3⟩)
    | false =>
      simp only [Bool.false_eq_true, ↓reduceIte]
      by_cases h2 : x.1 = y.1
      · obtain ⟨s, m⟩ := merge_spec a (y :: b) a2 hb
        rw [if_pos (by simpa using h2)]
        refine ⟨s, fun z => ?_⟩
        rw [m]
        constructor
        · rintro (h | ⟨h3, h4⟩)
          · exact .inl h
          · exact .inr ⟨by simp [h3], h4⟩
        · rintro (h | ⟨h3, h4⟩)
          · exact .inl h
          · rcases List.mem_cons.1 h3 with rfl | h3
            · exact absurd h2.symm (h4 y (by simp))
            · exact .inr ⟨h3, h4⟩
      · obtain ⟨s, m⟩ := merge_spec (x :: a) b ha b2
        rw [if_neg (by simpa using h2)]
        have h3 : Op.bytesLess y.1 x.1 = true := by
          rcases ne_less h2 with h | h
          · rw [h1] at h; cases h
          · exact h
        refine ⟨srt_cons.2 ⟨fun z hz => ?_, s⟩, fun z => ?_⟩
        · rcases mem_merge_or _ _ _ hz with h | h
          · rcases List.mem_cons.1 h with rfl | h
            · exact h3
            · exact less_trans _ _ _ h3 (a1 z h)
          · exact b1 z h
        · rw [List.mem_cons, m]
          constructor
          · rintro (rfl | h | ⟨h4, h5⟩)
            · exact .inl (by simp)
            · exact .inl (by simp [h])
            · refine .inr ⟨h4, fun w hw => ?_⟩
              rcases List.mem_cons.1 hw with rfl | hw
              · rcases List.mem_cons.1 h4 with rfl | h4
                · exact less_ne h3
                · exact less_ne (less_trans _ _ _ h3 (a1 z h4))
              · exact h5 w hw
          · rintro (h | ⟨h4, h5⟩)
            · rcases List.mem_cons.1 h with rfl | h
              · exact .inl rfl
              · exact .inr (.inl h)
            · exact .inr (.inr ⟨h4, fun w hw => h5 w (by simp [hw])⟩)
termination_by a b => a.length + b.length
theorem merge_eq {a b : List Pr} (ha : Srt a) (hb : Srt b) : mergeS a b = unionS a b :=
  Srt.unique (merge_spec a b ha hb).1 (srt_union ha b) fun x => by rw [(merge_spec a b ha hb).2, mem_union a hb]

/-- Where a key stands. -/
def placeS (t : List Pr) (k : Bs) : Nat := t.countP (ltK k)
theorem place_le (t : List Pr) (k : Bs) : placeS t k ≤ t.length := List.countP_le_length
theorem place_zero {t : List Pr} {k : Bs} (h : ∀ y ∈ t, ltK k y = false) : placeS t k = 0 := by
  unfold placeS; rw [List.countP_eq_zero]; intro y hy; rw [h y hy]; simp
theorem place_cut {t : List Pr} (h : Srt t) (k : Bs) : t.take (placeS t k) = t.filter (ltK k) ∧ t.drop (placeS t k) = t.filter (fun x => !ltK k x) := by
  induction t with
  | nil => simp [placeS]
  | cons x t ih =>
    obtain ⟨h1, h2⟩ := srt_cons.1 h
    cases e : ltK k x with
    | true =>
      have ec : placeS (x :: t) k = placeS t k + 1 := by unfold placeS; rw [List.countP_cons, e]; rfl
      rw [ec, List.take_succ_cons, List.drop_succ_cons, List.filter_cons, List.filter_cons, e]
      obtain ⟨i1, i2⟩ := ih h2
      exact ⟨by rw [i1]; rfl, by rw [i2]; rfl⟩
    | false =>
      have hz : ∀ y ∈ t, ltK k y = false := by
        intro y hy
        cases e2 : ltK k y with
        | false => rfl
        | true => have := less_trans _ _ _ (h1 y hy) e2; unfold ltK at e; rw [e] at this; cases this
      have ha : ∀ y ∈ x :: t, ltK k y = false := by
        intro y hy
        rcases List.mem_cons.1 hy with rfl | hy
        · exact e
        · exact hz y hy
      rw [place_zero ha, List.take_zero, List.drop_zero]
      constructor
      · symm; rw [List.filter_eq_nil_iff]; intro y hy; rw [ha y hy]; simp
      · symm; rw [List.filter_eq_self]; intro y hy; rw [ha y hy]; rfl
theorem place_mono {t : List Pr} {k m : Bs} (h : Op.bytesLess m k = false) : placeS t k ≤ placeS t m := by
  unfold placeS
  refine List.countP_mono_left fun x _ hx => ?_
  exact less_le_trans hx h
/-- Of a table, the search's test stays true. -/
theorem place_test {t : List Pr} (h : Srt t) (k : Bs) (i j : Nat) (hij : i ≤ j) (hj : j < t.length) (hi : (!Op.bytesLess (t[i]'(by omega)).1 k) = true) : (!Op.bytesLess t[j].1 k) = true := by
  rcases Nat.eq_or_lt_of_le hij with rfl | hlt
  · exact hi
  · have h1 := (List.pairwise_iff_getElem.1 h) i j (by omega) hj hlt
    rw [Bool.not_eq_true'] at *
    cases e : Op.bytesLess t[j].1 k with
    | false => rfl
    | true => have := less_trans _ _ _ h1 e; rw [hi] at this; cases this
theorem place_count (t : List Pr) (k : Bs) : (List.range t.length).countP (fun i => !(!Op.bytesLess (t[i]?.getD ([], [], 0)).1 k)) = placeS t k := by
  have h : t = (List.range t.length).map (fun i => t[i]?.getD ([], [], 0)) := by
    apply List.ext_getElem
    · simp
    · intro i h1 h2; simp [h1]
  unfold placeS
  conv => rhs; rw [h]
  rw [List.countP_map]
  congr 1
  funext i
  simp [ltK]

/-- The borders of a span. -/
def lowS (t : List Pr) (s : Sp) : Nat := if emptyB s then 0 else placeS t s.1
def highS (t : List Pr) (s : Sp) : Nat := if emptyB s then 0 else if s.2 = [] then t.length else placeS t s.2
theorem span_le {s : Sp} (h : emptyB s = false) (h2 : s.2 ≠ []) : Op.bytesLess s.1 s.2 = true := by
  have := (emptyB_no s).1 h; rw [hiP_ne h2] at this; exact this
theorem borders_le (t : List Pr) (s : Sp) : lowS t s ≤ highS t s ∧ highS t s ≤ t.length := by
  unfold lowS highS
  cases h : emptyB s with
  | true => simp
  | false =>
    simp only [Bool.false_eq_true, ↓reduceIte]
    by_cases h2 : s.2 = []
    · rw [if_pos h2]; exact ⟨place_le _ _, Nat.le_refl _⟩
    · rw [if_neg h2]; exact ⟨place_mono (less_asymm (span_le h h2)), place_le _ _⟩
theorem has_empty {s : Sp} (h : emptyB s = true) (k : Bs) : hasB s k = false := by
  cases e : hasB s k with
  | false => rfl
  | true => exact absurd ((hasB_iff s k).1 e) (not_has_empty h k)
theorem take_part {α : Type} (t : List α) (a b : Nat) (h : a ≤ b) : (t.take b).drop a ++ t.drop b = t.drop a := by
  rw [List.drop_take]
  have : t.drop b = (t.drop a).drop (b - a) := by rw [List.drop_drop]; congr 1; omega
  rw [this, List.take_append_drop]
theorem borders_cut {t : List Pr} (h : Srt t) (s : Sp) : (t.take (highS t s)).drop (lowS t s) = rangeS s t ∧ t.take (lowS t s) ++ t.drop (highS t s) = dropS s t := by
  unfold lowS highS rangeS dropS
  cases he : emptyB s with
  | true =>
    simp only [↓reduceIte, List.take_zero, List.drop_nil, List.nil_append, List.drop_zero]
    constructor
    · symm; rw [List.filter_eq_nil_iff]; intro x _; rw [has_empty he]; simp
    · symm; rw [List.filter_eq_self]; intro x _; rw [has_empty he]; rfl
  | false =>
    simp only [Bool.false_eq_true, ↓reduceIte]
    obtain ⟨c1, c2⟩ := place_cut h s.1
    by_cases h2 : s.2 = []
    · rw [if_pos h2, List.take_length, List.drop_length, List.append_nil, c1, c2]
      have hh : ∀ k, hasB s k = !Op.bytesLess k s.1 := fun k => by unfold hasB; rw [h2]; simp
      constructor
      · congr 1; funext x; rw [hh]; rfl
      · congr 1; funext x; rw [hh]; simp [ltK]
    · rw [if_neg h2]
      obtain ⟨d1, d2⟩ := place_cut h s.2
      have hlt := span_le he h2
      have hh : ∀ k, hasB s k = (!Op.bytesLess k s.1 && Op.bytesLess k s.2) := fun k => by
        unfold hasB; rw [show s.2.isEmpty = false from by simpa using h2]; rfl
      constructor
      · rw [d1]
        have e : placeS t s.1 = placeS (t.filter (ltK s.2)) s.1 := by
          unfold placeS
          rw [List.countP_filter]
          refine List.countP_congr fun x _ => ?_
          simp only [ltK, Bool.and_eq_true]
          exact ⟨fun hx => ⟨hx, less_trans _ _ _ hx hlt⟩, fun hx => hx.1⟩
        rw [e, (place_cut (srt_filter _ h) s.1).2, List.filter_filter]
        congr 1; funext x; rw [hh]; rfl
      · rw [c1, d2]
        refine Srt.unique ?_ (srt_filter _ h) fun x => ?_
        · unfold Srt
          rw [List.pairwise_append]
          refine ⟨srt_filter _ h, srt_filter _ h, fun x hx y hy => ?_⟩
          have hx2 := (List.mem_filter.1 hx).2
          have hy2 := (List.mem_filter.1 hy).2
          simp only [ltK, Bool.not_eq_true'] at hx2 hy2
          exact less_le_trans (less_trans _ _ _ hx2 hlt) hy2
        · rw [List.mem_append, List.mem_filter, List.mem_filter, List.mem_filter, hh]
          simp only [ltK, Bool.not_and, Bool.not_not, Bool.or_eq_true, Bool.not_eq_true']
          constructor
          · rintro (⟨a, b⟩ | ⟨a, b⟩)
            · exact ⟨a, .inl b⟩
            · exact ⟨a, .inr b⟩
          · rintro ⟨a, b | b⟩
            · exact .inl ⟨a, b⟩
            · exact .inr ⟨a, b⟩

/-- The span of one key. -/
def oneS (k : Bs) : Sp := (k, k ++ [0])
theorem drop_one (k : Bs) (t : List Pr) : dropS (oneS k) t = delS k t := by
  unfold dropS delS; congr 1; funext x; rw [show oneS k = (k, k ++ [0]) from rfl, one_has]
theorem put_cut {t : List Pr} (h : Srt t) (p : Pr) : t.take (lowS t (oneS p.1)) ++ p :: t.drop (highS t (oneS p.1)) = putS p t := by
  have hne : emptyB (oneS p.1) = false := one_nonempty p.1
  have h2 : (oneS p.1).2 ≠ [] := by simp [oneS]
  unfold lowS highS putS
  rw [hne]
  simp only [Bool.false_eq_true, ↓reduceIte]
  rw [if_neg h2, (place_cut h _).1, (place_cut h _).2]
  congr 1
  congr 1
  refine List.filter_congr fun x _ => ?_
  have ho := one_has p.1 x.1
  unfold hasB at ho
  rw [show (p.1 ++ [0] : Bs).isEmpty = false from by simp, Bool.false_or] at ho
  show (!Op.bytesLess x.1 (p.1 ++ [0])) = Op.bytesLess p.1 x.1
  cases e1 : Op.bytesLess x.1 p.1 with
  | true =>
    rw [less_asymm e1, show Op.bytesLess x.1 (p.1 ++ [0]) = true from less_trans _ _ _ e1 (span_le hne h2)]; rfl
  | false =>
    rw [e1] at ho
    simp only [Bool.not_false, Bool.true_and] at ho
    rw [ho]
    cases e2 : Op.bytesLess p.1 x.1 with
    | true => have := less_ne e2; simp; exact fun e => this e.symm
    | false => rw [less_total _ _ e1 e2]; simp
/-- Finding. -/
theorem find_at {t : List Pr} (h : Srt t) (k : Bs) : findS k t = (match t[placeS t k]? with | some x => if x.1 = k then some x else none | none => none) := by
  induction t with
  | nil => rfl
  | cons x t ih =>
    obtain ⟨h1, h2⟩ := srt_cons.1 h
    unfold findS
    rw [List.find?_cons]
    cases e : ltK k x with
    | true =>
      have ec : placeS (x :: t) k = placeS t k + 1 := by unfold placeS; rw [List.countP_cons, e]; rfl
      rw [ec, List.getElem?_cons_succ, ← ih h2, show (x.1 == k) = false from by simpa using less_ne e]; rfl
    | false =>
      have ha : ∀ y ∈ x :: t, ltK k y = false := by
        intro y hy
        rcases List.mem_cons.1 hy with rfl | hy
        · exact e
        · cases e2 : ltK k y with
          | false => rfl
          | true => have := less_trans _ _ _ (h1 y hy) e2; unfold ltK at e; rw [e] at this; cases this
      rw [place_zero ha, List.getElem?_cons_zero]
      by_cases hk : x.1 = k
      · simp [hk]
      · rw [show (x.1 == k) = false from by simpa using hk]
        simp only [hk, ↓reduceIte]
        rw [List.find?_eq_none]
        intro y hy
        have hl := h1 y hy
        have hx : Op.bytesLess k x.1 = true := by
          rcases ne_less hk with h | h
          · unfold ltK at e; rw [e] at h; cases h
          · exact h
        simpa using fun e' => less_ne (less_trans _ _ _ hx hl) e'.symm
theorem find_some {t : List Pr} (h : Srt t) (k : Bs) (x : Pr) : findS k t = some x ↔ x ∈ t ∧ x.1 = k := by
  unfold findS
  constructor
  · intro e
    have h1 := List.find?_some e
    exact ⟨List.mem_of_find?_eq_some e, by simpa using h1⟩
  · rintro ⟨hx, rfl⟩
    cases e : t.find? fun y => y.1 == x.1 with
    | none => rw [List.find?_eq_none] at e; have := e x hx; simp at this
    | some y =>
      have h1 := List.find?_some e
      have h2 := List.mem_of_find?_eq_some e
      rw [srt_key h y h2 x hx (by simpa using h1)]
theorem find_none (t : List Pr) (k : Bs) : findS k t = none ↔ ∀ x ∈ t, x.1 ≠ k := by
  unfold findS; rw [List.find?_eq_none]; simp

/-- Moving. -/
theorem movedP_some {a b : Bs} {x y : Pr} : movedP a b x = some y ↔ ∃ r, x.1 = a ++ r ∧ y = (b ++ r, x.2) := by
  unfold movedP movedS
  constructor
  · intro h
    split at h
    · rename_i hp
      obtain ⟨r, hr⟩ := List.isPrefixOf_iff_prefix.1 hp
      refine ⟨r, hr.symm, ?_⟩
      rw [← hr] at h
      simp at h
      exact h.symm
    · simp at h
  · rintro ⟨r, h1, rfl⟩
    rw [h1, if_pos (prefix_app a r)]; simp
theorem mem_moved (a b : Bs) (t : List Pr) (y : Pr) : y ∈ movedT a b t ↔ ∃ r, (a ++ r, y.2) ∈ t ∧ y.1 = b ++ r := by
  unfold movedT
  rw [List.mem_filterMap]
  constructor
  · rintro ⟨x, hx, hm⟩
    obtain ⟨r, h1, rfl⟩ := movedP_some.1 hm
    exact ⟨r, by rw [← h1]; exact hx, rfl⟩
  · rintro ⟨r, h1, h2⟩
    exact ⟨_, h1, movedP_some.2 ⟨r, rfl, by rw [← h2]⟩⟩
theorem srt_moved (a b : Bs) {t : List Pr} (h : Srt t) : Srt (movedT a b t) := by
  unfold movedT Srt
  rw [List.pairwise_filterMap]
  refine List.Pairwise.imp ?_ h
  intro x y hxy u hu v hv
  obtain ⟨r, h1, rfl⟩ := movedP_some.1 hu
  obtain ⟨q, h2, rfl⟩ := movedP_some.1 hv
  rw [h1, h2, less_same] at hxy
  rw [less_same]; exact hxy
theorem moved_back (a b : Bs) {t : List Pr} (h : Srt t) : movedT b a (movedT a b t) = t.filter fun x => a.isPrefixOf x.1 := by
  refine Srt.unique (srt_moved _ _ (srt_moved _ _ h)) (srt_filter _ h) fun x => ?_
  rw [mem_moved, List.mem_filter]
  constructor
  · rintro ⟨r, h1, h2⟩
    obtain ⟨q, h3, h4⟩ := (mem_moved _ _ _ _).1 h1
    simp only at h3 h4
    have : r = q := List.append_cancel_left h4
    subst this
    rw [← h2] at h3
    exact ⟨h3, by rw [h2]; exact prefix_app a r⟩
  · rintro ⟨h1, h2⟩
    obtain ⟨r, hr⟩ := List.isPrefixOf_iff_prefix.1 h2
    refine ⟨r, (mem_moved _ _ _ _).2 ⟨r, ?_, rfl⟩, hr.symm⟩
    simp only
    rw [hr]; exact h1
theorem range_prefix (p : Bs) (t : List Pr) : rangeS (p, preT p) t = t.filter fun x => p.isPrefixOf x.1 := by
  unfold rangeS; congr 1; funext x; rw [prefix_has]
theorem moved_map (a b : Bs) (t : List Pr) : movedT a b t = (t.filter fun x => a.isPrefixOf x.1).map fun x => (b ++ x.1.drop a.length, x.2) := by
  unfold movedT
  induction t with
  | nil => rfl
  | cons x t ih =>
    rw [List.filterMap_cons, List.filter_cons]
    cases h : a.isPrefixOf x.1 with
    | true =>
      have e : movedP a b x = some (b ++ x.1.drop a.length, x.2) := by unfold movedP movedS; rw [if_pos h]; rfl
      rw [e]; simp only [ih]; rfl
    | false =>
      have e : movedP a b x = none := by unfold movedP movedS; rw [if_neg (by rw [h]; simp)]; rfl
      rw [e]; simp only [ih]; rfl

/-- Whether a list is a table. -/
def validB : List Pr → Bool
  | [] => true
  | [_] => true
  | x :: y :: r => Op.bytesLess x.1 y.1 && validB (y :: r)
theorem validB_iff : ∀ t : List Pr, validB t = true ↔ Srt t
  | [] => by simp [validB, srt_nil]
  | [x] => by simp [validB, Srt]
  | x :: y :: r => by
    rw [validB, Bool.and_eq_true, validB_iff (y :: r), srt_cons (x := x)]
    constructor
    · rintro ⟨h1, h2⟩
      refine ⟨fun z hz => ?_, h2⟩
      rcases List.mem_cons.1 hz with rfl | hz
      · exact h1
      · exact less_trans _ _ _ h1 ((srt_cons.1 h2).1 z hz)
    · rintro ⟨h1, h2⟩
      exact ⟨h1 y (by simp), h2⟩
theorem validB_bad {t : List Pr} (i : Nat) (h : i + 1 < t.length) (hb : Op.bytesLess (t[i]'(by omega)).1 t[i + 1].1 = false) : validB t = false := by
  cases e : validB t with
  | false => rfl
  | true =>
    have := (List.pairwise_iff_getElem.1 ((validB_iff t).1 e)) i (i + 1) (by omega) h (by omega)
    rw [hb] at this; cases this
theorem validB_take {t : List Pr} (i : Nat) (h : i + 1 < t.length) (hv : Srt (t.take (i + 1))) (hb : Op.bytesLess (t[i]'(by omega)).1 t[i + 1].1 = true) : Srt (t.take (i + 2)) := by
  have e : t.take (i + 2) = t.take (i + 1) ++ [t[i + 1]] := by rw [List.take_add_one, List.getElem?_eq_getElem h]; rfl
  unfold Srt
  rw [e, List.pairwise_append]
  refine ⟨hv, List.pairwise_singleton _ _, fun x hx y hy => ?_⟩
  simp only [List.mem_singleton] at hy
  subst hy
  have e2 : t.take (i + 1) = t.take i ++ [t[i]'(by omega)] := by rw [List.take_add_one, List.getElem?_eq_getElem (by omega)]; rfl
  rw [e2] at hx hv
  rcases List.mem_append.1 hx with hx | hx
  · exact less_trans _ _ _ ((List.pairwise_append.1 hv).2.2 x hx _ (by simp)) hb
  · simp only [List.mem_singleton] at hx; subst hx; exact hb

/-- The reference's Put: from the front, with the mark. -/
def putR (p : Pr) : Bool → List Pr → List Pr
  | d, [] => if d then [] else [p]
  | d, x :: r => (if !d && !Op.bytesLess x.1 p.1 then [p] else []) ++ (if x.1 == p.1 then [] else [x]) ++ putR p (d || !Op.bytesLess x.1 p.1) r
theorem putR_true (p : Pr) : ∀ t, putR p true t = delS p.1 t
  | [] => rfl
  | x :: r => by
    rw [putR, Bool.true_or, putR_true p r]
    unfold delS
    rw [List.filter_cons]
    cases x.1 == p.1 <;> rfl
theorem putR_eq (p : Pr) : ∀ {t : List Pr}, Srt t → putR p false t = putS p t
  | [], _ => rfl
  | x :: r, h => by
    obtain ⟨h1, h2⟩ := srt_cons.1 h
    rw [putR]
    cases e : Op.bytesLess x.1 p.1 with
    | true =>
      rw [Bool.not_true, Bool.and_false, Bool.or_false, putR_eq p h2, show (x.1 == p.1) = false from by simpa using less_ne e]
      unfold putS
      rw [List.filter_cons, List.filter_cons, e, less_asymm e]; rfl
    | false =>
      rw [Bool.not_false, Bool.and_true, Bool.or_true, putR_true]
      unfold putS delS
      have hn : (x :: r).filter (fun y => Op.bytesLess y.1 p.1) = [] := by
        rw [List.filter_eq_nil_iff]; intro y hy
        rcases List.mem_cons.1 hy with rfl | hy
        · rw [e]; simp
        · have := h1 y hy
          cases e2 : Op.bytesLess y.1 p.1 with
          | false => simp
          | true => rw [less_trans _ _ _ this e2] at e; cases e
      rw [hn, List.filter_cons]
      have hr : r.filter (fun y => !(y.1 == p.1)) = r.filter fun y => Op.bytesLess p.1 y.1 := by
        refine List.filter_congr fun y hy => ?_
        rw [le_less_trans e (h1 y hy)]
        have := less_ne (le_less_trans e (h1 y hy))
        simp; exact fun e' => this e'.symm
      rw [hr]
      cases e2 : Op.bytesLess p.1 x.1 with
      | true =>
        rw [show (x.1 == p.1) = false from by simpa using fun e' => less_ne e2 e'.symm]; rfl
      | false => rw [less_total _ _ e e2]; simp

theorem table_ex : putS ([120], [53], 0) [([120], [49], 0), ([122], [51], 0)] = [([120], [53], 0), ([122], [51], 0)] := by decide +kernel
end Go.Proofs.Ythpajecigkfajaa
namespace Go.Proofs.Ythpajecigkfajaa
set_option linter.unusedVariables false

theorem srt_nodup {t : List Pr} (h : Srt t) : t.Nodup := by
  unfold List.Nodup
  exact List.Pairwise.imp (fun hab e => less_ne hab (congrArg Prod.fst e)) h
theorem srt_keys {t : List Pr} (h : Srt t) : (t.map (·.1)).Nodup := by
  unfold List.Nodup
  rw [List.pairwise_map]
  exact List.Pairwise.imp (fun hab e => less_ne hab e) h
theorem union_assoc {a b c : List Pr} (ha : Srt a) (hb : Srt b) (hc : Srt c) : unionS (unionS a b) c = unionS a (unionS b c) := by
  have hbc := srt_union hb c
  refine Srt.unique (srt_union (srt_union ha b) c) (srt_union ha _) fun x => ?_
  rw [mem_union _ hc, mem_union _ hb, mem_union _ hbc]
  constructor
  · rintro (h | ⟨h | ⟨h1, h2⟩, h3⟩)
    · exact .inl ((mem_union b hc x).2 (.inl h))
    · exact .inl ((mem_union b hc x).2 (.inr ⟨h, h3⟩))
    · refine .inr ⟨h1, fun y hy => ?_⟩
      rcases (mem_union b hc y).1 hy with h | ⟨h, -⟩
      · exact h3 y h
      · exact h2 y h
  · rintro (h | ⟨h1, h2⟩)
    · rcases (mem_union b hc x).1 h with h | ⟨h, h3⟩
      · exact .inl h
      · exact .inr ⟨.inl h, h3⟩
    · refine .inr ⟨.inr ⟨h1, fun y hy e => ?_⟩, fun y hy => h2 y ((mem_union b hc y).2 (.inl hy))⟩
      by_cases hk : ∃ z ∈ c, z.1 = y.1
      · obtain ⟨z, hz, ez⟩ := hk
        exact h2 z ((mem_union b hc z).2 (.inl hz)) (ez.trans e)
      · exact h2 y ((mem_union b hc y).2 (.inr ⟨hy, fun z hz ez => hk ⟨z, hz, ez⟩⟩)) e
theorem union_self {a : List Pr} (ha : Srt a) : unionS a a = a := by
  refine Srt.unique (srt_union ha a) ha fun x => ?_
  rw [mem_union a ha]
  constructor
  · rintro (h | ⟨h, -⟩) <;> exact h
  · exact .inl
theorem nil_union {a : List Pr} (ha : Srt a) : unionS [] a = a := by
  refine Srt.unique (srt_union srt_nil a) ha fun x => ?_
  rw [mem_union [] ha]
  constructor
  · rintro (h | ⟨h, -⟩)
    · exact h
    · cases h
  · exact .inl
/-- What only the second table has. -/
def restS (a b : List Pr) : List Pr := b.filter fun y => (findS y.1 a).isNone
theorem mem_rest (a b : List Pr) (x : Pr) : x ∈ restS a b ↔ x ∈ b ∧ ∀ y ∈ a, y.1 ≠ x.1 := by
  unfold restS
  rw [List.mem_filter, Option.isNone_iff_eq_none, find_none]
theorem srt_rest (a : List Pr) {b : List Pr} (hb : Srt b) : Srt (restS a b) := srt_filter _ hb
theorem rest_comm {a b : List Pr} (ha : Srt a) (hb : Srt b) : unionS a (restS a b) = unionS (restS a b) a := by
  have hr := srt_rest a hb
  refine Srt.unique (srt_union ha _) (srt_union hr _) fun x => ?_
  rw [mem_union a hr, mem_union _ ha]
  constructor
  · rintro (h | ⟨h1, h2⟩)
    · exact .inr ⟨h, ((mem_rest a b x).1 h).2⟩
    · exact .inl h1
  · rintro (h | ⟨h1, h2⟩)
    · exact .inr ⟨h, fun y hy e => ((mem_rest a b y).1 hy).2 x h e.symm⟩
    · exact .inl h1
theorem union_len {a b : List Pr} (ha : Srt a) (hb : Srt b) : (unionS a b).length = a.length + (restS a b).length := by
  have hr := srt_rest a hb
  have hp : ((unionS a b).map (·.1)).Perm (a.map (·.1) ++ (restS a b).map (·.1)) := by
    refine (List.perm_ext_iff_of_nodup (srt_keys (srt_union ha b)) ?_).2 fun k => ?_
    · rw [List.nodup_append]
      refine ⟨srt_keys ha, srt_keys hr, fun k hk k' hk' e => ?_⟩
      obtain ⟨x, hx, rfl⟩ := List.mem_map.1 hk
      obtain ⟨y, hy, rfl⟩ := List.mem_map.1 hk'
      exact ((mem_rest a b y).1 hy).2 x hx e
    · rw [List.mem_append, List.mem_map, List.mem_map, List.mem_map]
      constructor
      · rintro ⟨x, hx, rfl⟩
        rcases (mem_union a hb x).1 hx with h | ⟨h, -⟩
        · by_cases hk : ∃ y ∈ a, y.1 = x.1
          · exact .inl hk
          · exact .inr ⟨x, (mem_rest a b x).2 ⟨h, fun y hy e => hk ⟨y, hy, e⟩⟩, rfl⟩
        · exact .inl ⟨x, h, rfl⟩
      · rintro (⟨x, hx, rfl⟩ | ⟨x, hx, rfl⟩)
        · by_cases hk : ∃ y ∈ b, y.1 = x.1
          · obtain ⟨y, hy, e⟩ := hk
            exact ⟨y, (mem_union a hb y).2 (.inl hy), e⟩
          · exact ⟨x, (mem_union a hb x).2 (.inr ⟨hx, fun y hy e => hk ⟨y, hy, e⟩⟩), rfl⟩
        · exact ⟨x, (mem_union a hb x).2 (.inl ((mem_rest a b x).1 hx).1), rfl⟩
  have := hp.length_eq
  simpa using this
theorem rest_rest {a b : List Pr} : restS a (restS a b) = restS a b := by
  unfold restS
  rw [List.filter_filter]
  congr 1
  funext y
  simp
theorem rest_len {a b : List Pr} (ha : Srt a) (hb : Srt b) : (unionS a (restS a b)).length = a.length + (restS a b).length := by
  rw [union_len ha (srt_rest a hb), rest_rest]
theorem rest_take (a b : List Pr) (j : Nat) (h : j < b.length) : restS a (b.take (j + 1)) = restS a (b.take j) ++ if (findS b[j].1 a).isNone then [b[j]] else [] := by
  unfold restS
  rw [List.take_add_one, List.getElem?_eq_getElem h, List.filter_append]
  simp only [Option.toList, List.filter_cons, List.filter_nil]

/-- Putting, deleting, finding. -/
theorem put_find (p : Pr) {t : List Pr} (h : Srt t) : findS p.1 (putS p t) = some p := (find_some (srt_put p h) _ _).2 ⟨(mem_put _ _ _).2 (.inl rfl), rfl⟩
theorem del_find (k : Bs) (t : List Pr) : findS k (delS k t) = none := (find_none _ _).2 fun x hx => ((mem_del _ _ _).1 hx).2
theorem find_of {s t : List Pr} (hs : Srt s) (ht : Srt t) (k : Bs) (h : ∀ x : Pr, x.1 = k → (x ∈ s ↔ x ∈ t)) : findS k s = findS k t := by
  cases e : findS k t with
  | none => exact (find_none _ _).2 fun x hx e' => (find_none _ _).1 e x ((h x e').1 hx) e'
  | some y =>
    obtain ⟨h1, h2⟩ := (find_some ht _ _).1 e
    exact (find_some hs _ _).2 ⟨(h y h2).2 h1, h2⟩
theorem put_other (p : Pr) {t : List Pr} (h : Srt t) (k : Bs) (hk : k ≠ p.1) : findS k (putS p t) = findS k t :=
  find_of (srt_put p h) h k fun _ hx => by
    rw [mem_put]
    constructor
    · rintro (rfl | ⟨h1, -⟩)
      · exact absurd hx.symm hk
      · exact h1
    · exact fun h1 => .inr ⟨h1, fun e => hk (hx.symm.trans e)⟩
theorem del_other (d : Bs) {t : List Pr} (h : Srt t) (k : Bs) (hk : k ≠ d) : findS k (delS d t) = findS k t :=
  find_of (srt_del d h) h k fun _ hx => by
    rw [mem_del]
    exact ⟨fun h1 => h1.1, fun h1 => ⟨h1, fun e => hk (hx.symm.trans e)⟩⟩
theorem put_put_same {p q : Pr} {t : List Pr} (h : Srt t) (e : p.1 = q.1) : putS q (putS p t) = putS q t := by
  refine Srt.unique (srt_put q (srt_put p h)) (srt_put q h) fun x => ?_
  rw [mem_put, mem_put, mem_put]
  constructor
  · rintro (h1 | ⟨h1 | ⟨h1, -⟩, h2⟩)
    · exact .inl h1
    · exact absurd (h1 ▸ e) h2
    · exact .inr ⟨h1, h2⟩
  · rintro (h1 | ⟨h1, h2⟩)
    · exact .inl h1
    · exact .inr ⟨.inr ⟨h1, fun e2 => h2 (e2.trans e)⟩, h2⟩
theorem put_comm {p q : Pr} {t : List Pr} (h : Srt t) (e : p.1 ≠ q.1) : putS q (putS p t) = putS p (putS q t) := by
  refine Srt.unique (srt_put q (srt_put p h)) (srt_put p (srt_put q h)) fun x => ?_
  rw [mem_put, mem_put, mem_put, mem_put]
  constructor
  · rintro (rfl | ⟨rfl | ⟨h1, h3⟩, h2⟩)
    · exact .inr ⟨.inl rfl, fun e2 => e e2.symm⟩
    · exact .inl rfl
    · exact .inr ⟨.inr ⟨h1, h2⟩, h3⟩
  · rintro (rfl | ⟨rfl | ⟨h1, h3⟩, h2⟩)
    · exact .inr ⟨.inl rfl, e⟩
    · exact .inl rfl
    · exact .inr ⟨.inr ⟨h1, h2⟩, h3⟩
theorem del_put (p : Pr) {t : List Pr} (h : Srt t) : delS p.1 (putS p t) = delS p.1 t := by
  refine Srt.unique (srt_del _ (srt_put p h)) (srt_del _ h) fun x => ?_
  rw [mem_del, mem_del, mem_put]
  constructor
  · rintro ⟨rfl | ⟨h1, -⟩, h2⟩
    · exact absurd rfl h2
    · exact ⟨h1, h2⟩
  · rintro ⟨h1, h2⟩
    exact ⟨.inr ⟨h1, h2⟩, h2⟩

/-- Spans. -/
theorem range_drop_len (s : Sp) (t : List Pr) : (rangeS s t).length + (dropS s t).length = t.length := by
  unfold rangeS dropS
  induction t with
  | nil => rfl
  | cons x t ih =>
    rw [List.filter_cons, List.filter_cons]
    cases hasB s x.1 <;> simp <;> omega
theorem range_drop_union (s : Sp) {t : List Pr} (h : Srt t) : unionS (rangeS s t) (dropS s t) = t := by
  have hd := srt_drop s h
  refine Srt.unique (srt_union (srt_range s h) _) h fun x => ?_
  rw [mem_union _ hd, mem_drop, mem_range]
  constructor
  · rintro (⟨h1, -⟩ | ⟨⟨h1, -⟩, -⟩) <;> exact h1
  · intro hx
    cases e : hasB s x.1 with
    | false => exact .inl ⟨hx, rfl⟩
    | true =>
      refine .inr ⟨⟨hx, rfl⟩, fun y hy e2 => ?_⟩
      have := ((mem_drop s t y).1 hy).2
      rw [e2, e] at this; cases this
theorem range_of_drop (s : Sp) (t : List Pr) : rangeS s (dropS s t) = [] := by
  unfold rangeS dropS
  rw [List.filter_filter, List.filter_eq_nil_iff]
  intro x _
  simp
theorem range_range (s u : Sp) (t : List Pr) : rangeS u (rangeS s t) = rangeS s (rangeS u t) := by
  unfold rangeS; rw [List.filter_filter, List.filter_filter]; congr 1; funext x; rw [Bool.and_comm]
theorem drop_drop (s u : Sp) (t : List Pr) : dropS u (dropS s t) = dropS s (dropS u t) := by
  unfold dropS; rw [List.filter_filter, List.filter_filter]; congr 1; funext x; rw [Bool.and_comm]

end Go.Proofs.Ythpajecigkfajaa
namespace Go.Proofs.Ythpajecigkfajaa
set_option linter.unusedVariables false

/-- A message. -/
structure Ms where
  kind : Int
  key : Bs
  val : Bs
  lo : Bs
  hi : Bs
  src : Bs
  dst : Bs
  n : Int
def Ms.one (m : Ms) : Int × Bs × Bs × Int := (m.kind, m.key, m.val, m.n)
def Ms.two (m : Ms) : Bs × Bs × Bs × Bs := (m.lo, m.hi, m.src, m.dst)
theorem Ms.ext' {a b : Ms} (h : a.one = b.one) (k : a.two = b.two) : a = b := by
  cases a; cases b; simp [Ms.one] at h; simp [Ms.two] at k; simp [h, k]
instance : DecidableEq Ms := fun a b =>
  if h : a.one = b.one then (if k : a.two = b.two then .isTrue (Ms.ext' h k) else .isFalse fun e => k (by rw [e])) else .isFalse fun e => h (by rw [e])
/-- A message of a kind, without fields. -/
def zeroM (k : Int) : Ms := ⟨k, [], [], [], [], [], [], 0⟩
/-- A message without the fields of its kind. -/
def bareM (m : Ms) : Ms :=
  if m.kind = 1 then { m with key := [], val := [], n := 0 }
  else if m.kind = 2 then { m with key := [] }
  else if m.kind = 3 then { m with lo := [], hi := [] }
  else if m.kind = 4 then { m with src := [], dst := [] }
  else if m.kind = 5 then { m with src := [], dst := [] }
  else if m.kind = 6 then { m with lo := [], hi := [], n := 0 }
  else m
def keyB (k : Bs) : Bool := decide (1 ≤ k.length ∧ k.length ≤ 65535)
def stampB (n : Int) : Bool := decide (0 ≤ n ∧ n ≤ 1000000000)
def spanB (lo hi : Bs) : Bool := !emptyB (lo, hi) && (decide (lo.length ≤ 65535) && decide (hi.length ≤ 65535))
def frontB (p : Bs) : Bool := decide (1 ≤ p.length ∧ p.length ≤ 200)
def apartB (a b : Bs) : Bool := frontB a && (frontB b && (!b.isPrefixOf a && !a.isPrefixOf b))
/-- The fields of the kind are in their ranges. -/
def fitsB (m : Ms) : Bool :=
  if m.kind = 1 then keyB m.key && (decide (m.val.length ≤ 64) && stampB m.n)
  else if m.kind = 2 then keyB m.key
  else if m.kind = 3 then spanB m.lo m.hi
  else if m.kind = 4 then apartB m.src m.dst
  else if m.kind = 5 then apartB m.src m.dst
  else if m.kind = 6 then spanB m.lo m.hi && stampB m.n
  else false
def validM (m : Ms) : Bool := fitsB m && decide (bareM m = zeroM m.kind)

/-- Effects. -/
def stampP (s : Sp) (n : Int) (x : Pr) : Pr := if hasB s x.1 then (x.1, x.2.1, n) else x
def stampT (s : Sp) (n : Int) (t : List Pr) : List Pr := t.map (stampP s n)
def preS (p : Bs) : Sp := (p, preT p)
def cloneT (a b : Bs) (t : List Pr) : List Pr := unionS (dropS (preS b) t) (movedT a b t)
def moveT (a b : Bs) (t : List Pr) : List Pr := dropS (preS a) (cloneT a b t)
def applyS (m : Ms) (t : List Pr) : List Pr :=
  if m.kind = 1 then putS (m.key, m.val, m.n) t
  else if m.kind = 2 then delS m.key t
  else if m.kind = 3 then dropS (m.lo, m.hi) t
  else if m.kind = 4 then moveT m.src m.dst t
  else if m.kind = 5 then cloneT m.src m.dst t
  else if m.kind = 6 then stampT (m.lo, m.hi) m.n t
  else t
def allS (l : List Ms) (t : List Pr) : List Pr := l.foldl (fun t m => applyS m t) t
def readsS (m : Ms) : List Sp :=
  if m.kind = 4 then [preS m.src] else if m.kind = 5 then [preS m.src] else if m.kind = 6 then [(m.lo, m.hi)] else []
def writesS (m : Ms) : List Sp :=
  if m.kind = 1 then [oneS m.key] else if m.kind = 2 then [oneS m.key] else if m.kind = 3 then [(m.lo, m.hi)]
  else if m.kind = 4 then [preS m.src, preS m.dst] else if m.kind = 5 then [preS m.dst] else if m.kind = 6 then [(m.lo, m.hi)] else []
def killsS (m : Ms) : List Sp := if m.kind = 6 then [] else writesS m
def touchB (l m : List Sp) : Bool := l.any fun s => m.any fun o => !emptyB (meetS s o)
def distB (m o : Ms) : Bool := touchB (writesS m) (readsS o) || touchB (writesS m) (writesS o)
def freeB (m o : Ms) : Bool := !distB m o && !distB o m

/-- Bytes. -/
def numF (l : Bs) : Nat := l.foldl (fun n c => 256 * n + c.toNat) 0
def bytesN : Nat → Nat → Bs
  | 0, _ => []
  | k + 1, n => bytesN k (n / 256) ++ [(n % 256).toUInt8]
def textB (s : Bs) : Bs := bytesN 2 s.length ++ s
def fieldsT (m : Ms) : List Bs :=
  if m.kind = 1 then [m.key, m.val] else if m.kind = 2 then [m.key] else if m.kind = 3 then [m.lo, m.hi]
  else if m.kind = 4 then [m.src, m.dst] else if m.kind = 5 then [m.src, m.dst] else if m.kind = 6 then [m.lo, m.hi] else []
def fieldsN (m : Ms) : List Int := if m.kind = 1 then [m.n] else if m.kind = 6 then [m.n] else []
def bytesM (m : Ms) : Bs := if validM m then bytesN 1 m.kind.toNat ++ (fieldsT m).flatMap textB ++ (fieldsN m).flatMap (fun n => bytesN 4 n.toNat) else []

theorem kind_cases (m : Ms) (h : validM m = true) : m.kind = 1 ∨ m.kind = 2 ∨ m.kind = 3 ∨ m.kind = 4 ∨ m.kind = 5 ∨ m.kind = 6 := by
  unfold validM fitsB at h
  by_cases h1 : m.kind = 1
  · exact .inl h1
  by_cases h2 : m.kind = 2
  · exact .inr (.inl h2)
  by_cases h3 : m.kind = 3
  · exact .inr (.inr (.inl h3))
  by_cases h4 : m.kind = 4
  · exact .inr (.inr (.inr (.inl h4)))
  by_cases h5 : m.kind = 5
  · exact .inr (.inr (.inr (.inr (.inl h5))))
  by_cases h6 : m.kind = 6
  · exact .inr (.inr (.inr (.inr (.inr h6))))
  rw [if_neg h1, if_neg h2, if_neg h3, if_neg h4, if_neg h5, if_neg h6] at h
  simp at h

end Go.Proofs.Ythpajecigkfajaa
namespace Go.Proofs.Ythpajecigkfajaa
set_option linter.unusedVariables false

def withoutS (l : List Sp) (t : List Pr) : List Pr := t.filter fun x => !inB l x.1
def withinS (l : List Sp) (t : List Pr) : List Pr := t.filter fun x => inB l x.1
theorem mem_without (l : List Sp) (t : List Pr) (x : Pr) : x ∈ withoutS l t ↔ x ∈ t ∧ inB l x.1 = false := by unfold withoutS; rw [List.mem_filter]; simp
theorem mem_within (l : List Sp) (t : List Pr) (x : Pr) : x ∈ withinS l t ↔ x ∈ t ∧ inB l x.1 = true := by unfold withinS; rw [List.mem_filter]
theorem srt_without (l : List Sp) {t : List Pr} (h : Srt t) : Srt (withoutS l t) := srt_filter _ h
theorem srt_within (l : List Sp) {t : List Pr} (h : Srt t) : Srt (withinS l t) := srt_filter _ h
theorem inB_one (s : Sp) (k : Bs) : inB [s] k = hasB s k := by simp [inB]
theorem inB_two (s u : Sp) (k : Bs) : inB [s, u] k = (hasB s k || hasB u k) := by simp [inB]
theorem inB_nil (k : Bs) : inB [] k = false := rfl
theorem has_pre (p k : Bs) : hasB (preS p) k = p.isPrefixOf k := prefix_has p k
theorem has_one (k j : Bs) : hasB (oneS k) j = (j == k) := one_has k j

theorem mem_stamp (s : Sp) (n : Int) (t : List Pr) (x : Pr) : x ∈ stampT s n t ↔ ∃ y ∈ t, stampP s n y = x := by unfold stampT; rw [List.mem_map]
theorem stampP_key (s : Sp) (n : Int) (y : Pr) : (stampP s n y).1 = y.1 := by unfold stampP; split <;> rfl
theorem mem_clone (a b : Bs) {t : List Pr} (h : Srt t) (x : Pr) : x ∈ cloneT a b t ↔ x ∈ movedT a b t ∨ (x ∈ t ∧ b.isPrefixOf x.1 = false) := by
  unfold cloneT
  rw [mem_union _ (srt_moved a b h), mem_drop, has_pre]
  constructor
  · rintro (h1 | ⟨h1, _⟩)
    · exact .inl h1
    · exact .inr h1
  · rintro (h1 | h1)
    · exact .inl h1
    · refine .inr ⟨h1, fun y hy e => ?_⟩
      obtain ⟨r, _, e2⟩ := (mem_moved a b t y).1 hy
      rw [← e, e2, prefix_app] at h1
      exact absurd h1.2 (by simp)
theorem mem_move (a b : Bs) {t : List Pr} (h : Srt t) (x : Pr) : x ∈ moveT a b t ↔ (x ∈ movedT a b t ∨ (x ∈ t ∧ b.isPrefixOf x.1 = false)) ∧ a.isPrefixOf x.1 = false := by
  unfold moveT
  rw [mem_drop, has_pre, mem_clone a b h]
theorem moved_pre {a b : Bs} {t : List Pr} {x : Pr} (h : x ∈ movedT a b t) : b.isPrefixOf x.1 = true := by
  obtain ⟨r, _, e⟩ := (mem_moved a b t x).1 h
  rw [e, prefix_app]

theorem srt_stamp' (s : Sp) (n : Int) {l : List Pr} (h : Srt l) : Srt (stampT s n l) := by
  unfold stampT Srt
  rw [List.pairwise_map]
  refine List.Pairwise.imp (fun {x y} hxy => ?_) h
  rw [stampP_key, stampP_key]; exact hxy
theorem srt_apply' (m : Ms) {l : List Pr} (h : Srt l) : Srt (applyS m l) := by
  unfold applyS
  split
  · exact srt_put _ h
  split
  · exact srt_del _ h
  split
  · exact srt_drop _ h
  split
  · exact srt_drop _ (srt_union (srt_drop _ h) _)
  split
  · exact srt_union (srt_drop _ h) _
  split
  · exact srt_stamp' _ _ h
  exact h

/-- Outside of what a message writes nothing changes. -/
theorem apply_out (m : Ms) {t : List Pr} (ht : Srt t) (x : Pr) (hx : inB (writesS m) x.1 = false) : x ∈ applyS m t ↔ x ∈ t := by
  unfold writesS at hx
  unfold applyS
  by_cases h1 : m.kind = 1
  · rw [if_pos h1] at hx ⊢
    rw [inB_one, has_one] at hx
    rw [mem_put]
    have hne : x.1 ≠ m.key := by simpa using hx
    constructor
    · rintro (e | e)
      · rw [e] at hne; exact absurd rfl hne
      · exact e.1
    · exact fun e => .inr ⟨e, hne⟩
  rw [if_neg h1] at hx ⊢
  by_cases h2 : m.kind = 2
  · rw [if_pos h2] at hx ⊢
    rw [inB_one, has_one] at hx
    rw [mem_del]
    have hne : x.1 ≠ m.key := by simpa using hx
    exact ⟨fun e => e.1, fun e => ⟨e, hne⟩⟩
  rw [if_neg h2] at hx ⊢
  by_cases h3 : m.kind = 3
  · rw [if_pos h3] at hx ⊢
    rw [inB_one] at hx
    rw [mem_drop]
    exact ⟨fun e => e.1, fun e => ⟨e, hx⟩⟩
  rw [if_neg h3] at hx ⊢
  by_cases h4 : m.kind = 4
  · rw [if_pos h4] at hx ⊢
    rw [inB_two, has_pre, has_pre, Bool.or_eq_false_iff] at hx
    rw [mem_move _ _ ht]
    constructor
    · rintro ⟨e | e, _⟩
      · rw [moved_pre e] at hx; exact absurd hx.2 (by simp)
      · exact e.1
    · exact fun e => ⟨.inr ⟨e, hx.2⟩, hx.1⟩
  rw [if_neg h4] at hx ⊢
  by_cases h5 : m.kind = 5
  · rw [if_pos h5] at hx ⊢
    rw [inB_one, has_pre] at hx
    rw [mem_clone _ _ ht]
    constructor
    · rintro (e | e)
      · rw [moved_pre e] at hx; exact absurd hx (by simp)
      · exact e.1
    · exact fun e => .inr ⟨e, hx⟩
  rw [if_neg h5] at hx ⊢
  by_cases h6 : m.kind = 6
  · rw [if_pos h6] at hx ⊢
    rw [inB_one] at hx
    rw [mem_stamp]
    constructor
    · rintro ⟨y, hy, rfl⟩
      rw [stampP_key] at hx
      unfold stampP
      rw [hx]; exact hy
    · intro e
      refine ⟨x, e, ?_⟩
      unfold stampP
      rw [hx]; rfl
  rw [if_neg h6]
/-- Where a message writes, what comes depends on what it reads alone. -/
theorem apply_in (m : Ms) {s t : List Pr} (hs : Srt s) (ht : Srt t) (h : ∀ y : Pr, inB (readsS m) y.1 = true → (y ∈ s ↔ y ∈ t)) (x : Pr) (hx : inB (writesS m) x.1 = true) : x ∈ applyS m s ↔ x ∈ applyS m t := by
  unfold writesS at hx
  unfold readsS at h
  unfold applyS
  have moved : ∀ a b : Bs, (∀ y : Pr, a.isPrefixOf y.1 = true → (y ∈ s ↔ y ∈ t)) → (x ∈ movedT a b s ↔ x ∈ movedT a b t) := by
    intro a b hh
    rw [mem_moved, mem_moved]
    constructor
    · rintro ⟨r, h1, h2⟩; exact ⟨r, (hh _ (prefix_app a r)).1 h1, h2⟩
    · rintro ⟨r, h1, h2⟩; exact ⟨r, (hh _ (prefix_app a r)).2 h1, h2⟩
  by_cases h1 : m.kind = 1
  · rw [if_pos h1] at hx ⊢
    rw [if_pos h1]
    rw [inB_one, has_one] at hx
    have he : x.1 = m.key := by simpa using hx
    rw [mem_put, mem_put]
    simp [he]
  rw [if_neg h1] at hx ⊢
  rw [if_neg h1]
  by_cases h2 : m.kind = 2
  · rw [if_pos h2] at hx ⊢
    rw [if_pos h2]
    rw [inB_one, has_one] at hx
    have he : x.1 = m.key := by simpa using hx
    rw [mem_del, mem_del]
    simp [he]
  rw [if_neg h2] at hx ⊢
  rw [if_neg h2]
  by_cases h3 : m.kind = 3
  · rw [if_pos h3] at hx ⊢
    rw [if_pos h3]
    rw [inB_one] at hx
    rw [mem_drop, mem_drop]
    simp [hx]
  rw [if_neg h3] at hx ⊢
  rw [if_neg h3]
  by_cases h4 : m.kind = 4
  · rw [if_pos h4] at hx h ⊢
    rw [if_pos h4]
    rw [inB_two, has_pre, has_pre, Bool.or_eq_true] at hx
    have hh : ∀ y : Pr, m.src.isPrefixOf y.1 = true → (y ∈ s ↔ y ∈ t) := fun y hy => h y (by rw [inB_one, has_pre]; exact hy)
    rw [mem_move _ _ hs, mem_move _ _ ht, moved _ _ hh]
    cases e : m.dst.isPrefixOf x.1 with
    | true => simp
    | false =>
      have : m.src.isPrefixOf x.1 = true := by rcases hx with hx | hx; exact hx; rw [e] at hx; cases hx
      simp [this]
  rw [if_neg h4] at hx h ⊢
  rw [if_neg h4]
  by_cases h5 : m.kind = 5
  · rw [if_pos h5] at hx h ⊢
    rw [if_pos h5]
    rw [inB_one, has_pre] at hx
    have hh : ∀ y : Pr, m.src.isPrefixOf y.1 = true → (y ∈ s ↔ y ∈ t) := fun y hy => h y (by rw [inB_one, has_pre]; exact hy)
    rw [mem_clone _ _ hs, mem_clone _ _ ht, moved _ _ hh]
    simp [hx]
  rw [if_neg h5] at hx h ⊢
  rw [if_neg h5]
  by_cases h6 : m.kind = 6
  · rw [if_pos h6] at hx h ⊢
    rw [if_pos h6]
    rw [inB_one] at hx
    rw [mem_stamp, mem_stamp]
    constructor
    · rintro ⟨y, hy, rfl⟩
      rw [stampP_key] at hx
      exact ⟨y, (h y (by rw [inB_one]; exact hx)).1 hy, rfl⟩
    · rintro ⟨y, hy, rfl⟩
      rw [stampP_key] at hx
      exact ⟨y, (h y (by rw [inB_one]; exact hx)).2 hy, rfl⟩
  rw [if_neg h6] at hx
  cases hx

theorem touch_no {l m : List Sp} (h : touchB l m = false) {k : Bs} (h1 : inB l k = true) : inB m k = false := by
  cases h2 : inB m k with
  | false => rfl
  | true =>
    obtain ⟨s, hs, hs2⟩ := List.any_eq_true.1 h1
    obtain ⟨o, ho, ho2⟩ := List.any_eq_true.1 h2
    have hm : hasB (meetS s o) k = true := by rw [meet_hasB, hs2, ho2]; rfl
    have he := has_nonempty ((hasB_iff _ _).1 hm)
    have : touchB l m = true := List.any_eq_true.2 ⟨s, hs, List.any_eq_true.2 ⟨o, ho, by rw [he]; rfl⟩⟩
    rw [this] at h; cases h
theorem free_comm (m n : Ms) : freeB m n = freeB n m := by unfold freeB; rw [Bool.and_comm]
/-- Free messages may be exchanged. -/
theorem free_swap {m n : Ms} {t : List Pr} (ht : Srt t) (h : freeB m n = true) : applyS n (applyS m t) = applyS m (applyS n t) := by
  unfold freeB distB at h
  simp only [Bool.and_eq_true, Bool.not_eq_true', Bool.or_eq_false_iff] at h
  obtain ⟨⟨hmr, hmw⟩, hnr, hnw⟩ := h
  have sm := srt_apply' m ht
  have sn := srt_apply' n ht
  refine Srt.unique (srt_apply' n sm) (srt_apply' m sn) fun x => ?_
  by_cases e : inB (writesS n) x.1 = true
  · have e2 := touch_no hnw e
    rw [apply_out m sn x e2]
    refine apply_in n sm ht (fun y hy => apply_out m ht y ?_) x e
    cases e3 : inB (writesS m) y.1 with
    | false => rfl
    | true => rw [touch_no hmr e3] at hy; cases hy
  · have e := Bool.eq_false_iff.2 e
    rw [apply_out n sm x e]
    by_cases e2 : inB (writesS m) x.1 = true
    · refine (apply_in m sn ht (fun y hy => apply_out n ht y ?_) x e2).symm
      cases e3 : inB (writesS n) y.1 with
      | false => rfl
      | true => rw [touch_no hnr e3] at hy; cases hy
    · have e2 := Bool.eq_false_iff.2 e2
      rw [apply_out m ht x e2, apply_out m sn x e2, apply_out n ht x e]
/-- Outside of what it writes a message leaves the table as it is. -/
theorem without_apply (m : Ms) {t : List Pr} (ht : Srt t) : withoutS (writesS m) (applyS m t) = withoutS (writesS m) t := by
  refine Srt.unique (srt_without _ (srt_apply' m ht)) (srt_without _ ht) fun x => ?_
  rw [mem_without, mem_without]
  exact ⟨fun h => ⟨(apply_out m ht x h.2).1 h.1, h.2⟩, fun h => ⟨(apply_out m ht x h.2).2 h.1, h.2⟩⟩
theorem apply_len (m : Ms) (t : List Pr) : (applyS m t).length ≤ 2 * t.length + 1 := by
  have hd : ∀ s (u : List Pr), (dropS s u).length ≤ u.length := fun s u => List.length_filter_le _ _
  have hm : ∀ a b (u : List Pr), (movedT a b u).length ≤ u.length := fun a b u => List.length_filterMap_le _ _
  have hc : ∀ a b, (cloneT a b t).length ≤ 2 * t.length := fun a b => by
    have h1 := union_length (dropS (preS b) t) (movedT a b t)
    have h2 := hd (preS b) t
    have h3 := hm a b t
    unfold cloneT; omega
  unfold applyS
  split
  · have := put_length (m.key, m.val, m.n) t; omega
  split
  · have : (delS m.key t).length ≤ t.length := List.length_filter_le _ _
    omega
  split
  · have := hd (m.lo, m.hi) t; omega
  split
  · have h1 := hd (preS m.src) (cloneT m.src m.dst t)
    have h2 := hc m.src m.dst
    unfold moveT; omega
  split
  · have := hc m.src m.dst; omega
  split
  · unfold stampT; rw [List.length_map]; omega
  · omega
/-- Moved back. -/
theorem apart_pre {a b r : Bs} (h1 : b.isPrefixOf a = false) (h2 : a.isPrefixOf b = false) : a.isPrefixOf (b ++ r) = false := by
  induction a generalizing b with
  | nil => simp at h2
  | cons c a ih =>
    cases b with
    | nil => simp at h1
    | cons d b =>
      simp only [List.isPrefixOf, List.cons_append] at h1 h2 ⊢
      cases e : c == d with
      | false => simp
      | true =>
        have e' : d == c := by rw [beq_iff_eq] at e ⊢; exact e.symm
        rw [e, Bool.true_and] at h2
        rw [e', Bool.true_and] at h1
        rw [Bool.true_and]
        exact ih h1 h2
theorem pre_split {p k : Bs} (h : p.isPrefixOf k = true) : ∃ r, k = p ++ r := by
  obtain ⟨r, hr⟩ := List.isPrefixOf_iff_prefix.1 h
  exact ⟨r, hr.symm⟩
theorem move_back {a b : Bs} {t : List Pr} (ht : Srt t) (h1 : b.isPrefixOf a = false) (h2 : a.isPrefixOf b = false) : moveT b a (moveT a b t) = dropS (preS b) t := by
  have hu : Srt (moveT a b t) := srt_drop _ (srt_union (srt_drop _ ht) _)
  refine Srt.unique (srt_drop _ (srt_union (srt_drop _ hu) _)) (srt_drop _ ht) fun x => ?_
  show x ∈ moveT b a (moveT a b t) ↔ _
  rw [mem_move b a hu, mem_drop, has_pre]
  have key : x ∈ movedT b a (moveT a b t) ↔ x ∈ t ∧ a.isPrefixOf x.1 = true := by
    rw [mem_moved]
    constructor
    · rintro ⟨r, hr, e⟩
      rw [mem_move a b ht] at hr
      obtain ⟨hr | hr, _⟩ := hr
      · obtain ⟨q, hq, e2⟩ := (mem_moved _ _ _ _).1 hr
        have : r = q := List.append_cancel_left e2
        subst this
        refine ⟨?_, by rw [e, prefix_app]⟩
        have : x = (a ++ r, x.2) := Prod.ext e rfl
        rw [this]; exact hq
      · rw [prefix_app] at hr; exact absurd hr.2 (by simp)
    · rintro ⟨hx, hp⟩
      obtain ⟨r, e⟩ := pre_split hp
      refine ⟨r, ?_, e⟩
      rw [mem_move a b ht]
      refine ⟨.inl ((mem_moved _ _ _ _).2 ⟨r, ?_, rfl⟩), apart_pre h1 h2⟩
      have : x = (a ++ r, x.2) := Prod.ext e rfl
      rw [← this]; exact hx
  rw [key]
  constructor
  · rintro ⟨h | h, h3⟩
    · exact ⟨h.1, h3⟩
    · rw [mem_move a b ht] at h
      obtain ⟨⟨h | h, _⟩, h4⟩ := h
      · rw [moved_pre h] at h3; cases h3
      · exact ⟨h.1, h3⟩
  · rintro ⟨h, h3⟩
    refine ⟨?_, h3⟩
    cases e : a.isPrefixOf x.1 with
    | true => exact .inl ⟨h, rfl⟩
    | false =>
      refine .inr ⟨?_, rfl⟩
      rw [mem_move a b ht]
      exact ⟨.inr ⟨h, h3⟩, e⟩
theorem move_twice {a b : Bs} {t : List Pr} (ht : Srt t) (h1 : b.isPrefixOf a = false) (h2 : a.isPrefixOf b = false) : moveT a b (moveT a b t) = withoutS [preS a, preS b] t := by
  have hu : Srt (moveT a b t) := srt_drop _ (srt_union (srt_drop _ ht) _)
  refine Srt.unique (srt_drop _ (srt_union (srt_drop _ hu) _)) (srt_without _ ht) fun x => ?_
  show x ∈ moveT a b (moveT a b t) ↔ _
  rw [mem_move a b hu, mem_without, inB_two, has_pre, has_pre, Bool.or_eq_false_iff]
  have key : x ∉ movedT a b (moveT a b t) := by
    intro h
    obtain ⟨r, hr, e⟩ := (mem_moved _ _ _ _).1 h
    rw [mem_move a b ht] at hr
    rw [prefix_app] at hr; exact absurd hr.2 (by simp)
  rw [mem_move a b ht]
  constructor
  · rintro ⟨h | ⟨⟨h | h, _⟩, h3⟩, h4⟩
    · exact absurd h key
    · rw [moved_pre h] at h3; cases h3
    · exact ⟨h.1, h4, h3⟩
  · rintro ⟨h, h3, h4⟩
    exact ⟨.inr ⟨⟨.inr ⟨h, h4⟩, h3⟩, h4⟩, h3⟩

end Go.Proofs.Ythpajecigkfajaa
