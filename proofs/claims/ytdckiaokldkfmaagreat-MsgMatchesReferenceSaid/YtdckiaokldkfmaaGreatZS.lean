/-
  Plain functions on lists of bytes that say what package span computes, and facts on them. No program.
-/
import Derived.WalkKit
import Derived.Lib.Strings
import Derived.Lib.Bytealg
namespace Go.Proofs.YtdckiaokldkfmaaGreat
abbrev Bs := List UInt8
/-- A string of a list. -/
def Str (l : Bs) : ByteArray := ⟨l.toArray⟩

theorem less_irrefl : ∀ a : Bs, Op.bytesLess a a = false
  | [] => rfl
  | a :: x => by simp [Op.bytesLess, less_irrefl x]
theorem less_trans : ∀ a b c : Bs, Op.bytesLess a b = true → Op.bytesLess b c = true → Op.bytesLess a c = true
  | _, [], c, h, _ => by cases ‹List UInt8› <;> simp [Op.bytesLess] at h
  | _, _ :: _, [], _, h => by simp [Op.bytesLess] at h
  | [], _ :: _, _ :: _, _, _ => rfl
  | a :: x, b :: y, c :: z, h1, h2 => by
    simp only [Op.bytesLess, Bool.or_eq_true, decide_eq_true_eq, Bool.and_eq_true, beq_iff_eq] at *
    rcases h1 with h1 | ⟨rfl, h1⟩
    · rcases h2 with h2 | ⟨rfl, h2⟩
      · exact .inl (UInt8.lt_trans h1 h2)
      · exact .inl h1
    · rcases h2 with h2 | ⟨rfl, h2⟩
      · exact .inl h2
      · exact .inr ⟨rfl, less_trans x y z h1 h2⟩
theorem less_total : ∀ a b : Bs, Op.bytesLess a b = false → Op.bytesLess b a = false → a = b
  | [], [], _, _ => rfl
  | [], _ :: _, h, _ => by simp [Op.bytesLess] at h
  | _ :: _, [], _, h => by simp [Op.bytesLess] at h
  | a :: x, b :: y, h1, h2 => by
    simp only [Op.bytesLess, Bool.or_eq_false_iff, decide_eq_false_iff_not, Bool.and_eq_false_iff, beq_eq_false_iff_ne, ne_eq] at *
    have e : a = b := UInt8.le_antisymm (by simpa using h2.1) (by simpa using h1.1)
    subst e
    rw [less_total x y (by simpa using h1.2) (by simpa using h2.2)]

/-- A place between keys: a key, or the top. -/
def Pt := Option Bs
def ltP : Pt → Pt → Bool
  | some a, some b => Op.bytesLess a b
  | some _, none => true
  | none, _ => false
instance : LT Pt := ⟨fun a b => ltP a b = true⟩
instance : LE Pt := ⟨fun a b => ltP b a = false⟩
theorem ltP_irrefl (a : Pt) : ltP a a = false := by cases a with
  | none => rfl
  | some a => exact less_irrefl a
theorem ltP_trans (a b c : Pt) (h : ltP a b = true) (k : ltP b c = true) : ltP a c = true := by
  cases a with
  | none => simp [ltP] at h
  | some a => cases b with
    | none => simp [ltP] at k
    | some b => cases c with
      | none => rfl
      | some c => exact less_trans a b c h k
theorem ltP_total (a b : Pt) (h : ltP a b = false) (k : ltP b a = false) : a = b := by
  cases a with
  | none => cases b with
    | none => rfl
    | some b => simp [ltP] at k
  | some a => cases b with
    | none => simp [ltP] at h
    | some b => rw [less_total a b h k]
instance : Std.IsLinearOrder Pt where
  le_refl := ltP_irrefl
  le_trans a b c h k := by
    show ltP c a = false
    have h : ltP b a = false := h
    have k : ltP c b = false := k
    cases e : ltP c a with
    | false => rfl
    | true =>
      cases e2 : ltP a b with
      | true => rw [ltP_trans c a b e e2] at k; cases k
      | false => rw [ltP_total a b e2 h] at e; rw [e] at k; cases k
  le_antisymm a b h k := ltP_total a b k h
  le_total a b := by
    show ltP b a = false ∨ ltP a b = false
    cases e : ltP b a with
    | false => exact .inl rfl
    | true => cases e2 : ltP a b with
      | false => exact .inr rfl
      | true => have := ltP_trans a b a e2 e; rw [ltP_irrefl] at this; cases this
instance : Std.LawfulOrderLT Pt where
  lt_iff a b := by
    show ltP a b = true ↔ ltP b a = false ∧ ¬ ltP a b = false
    constructor
    · intro h
      refine ⟨?_, by simp [h]⟩
      cases e2 : ltP b a with
      | false => rfl
      | true => have := ltP_trans a b a h e2; rw [ltP_irrefl] at this; cases this
    · rintro ⟨_, h⟩; simpa using h
theorem ltP_iff (a b : Pt) : ltP a b = true ↔ a < b := Iff.rfl
theorem ltP_false (a b : Pt) : ltP a b = false ↔ b ≤ a := Iff.rfl

/-- A key as a place; the end of a span as a place. -/
def keyP (k : Bs) : Pt := some k
def topP : Pt := none
def hiP (h : Bs) : Pt := if h = [] then topP else keyP h
theorem keyP_inj {a b : Bs} (h : keyP a = keyP b) : a = b := by unfold keyP at h; exact Option.some.inj h
theorem keyP_top (k : Bs) : keyP k < topP := rfl
theorem keyP_nil (k : Bs) : keyP [] ≤ keyP k := by show ltP (keyP k) (keyP []) = false; cases k <;> rfl
theorem hiP_nil : hiP [] = topP := rfl
theorem hiP_ne {h : Bs} (hh : h ≠ []) : hiP h = keyP h := by unfold hiP; rw [if_neg hh]
theorem top_max (p : Pt) : ¬ topP < p := by intro h; cases (show ltP none p = true from h)
theorem hiP_inj {a b : Bs} (h : hiP a = hiP b) : a = b := by
  by_cases ha : a = []
  · by_cases hb : b = []
    · rw [ha, hb]
    · rw [ha, hiP_nil, hiP_ne hb] at h; cases h
  · by_cases hb : b = []
    · rw [hb, hiP_nil, hiP_ne ha] at h; cases h
    · rw [hiP_ne ha, hiP_ne hb] at h; exact keyP_inj h

/-- A span: where it begins and ends. -/
abbrev Sp := Bs × Bs
def HasS (s : Sp) (k : Bs) : Prop := keyP s.1 ≤ keyP k ∧ keyP k < hiP s.2
def hasB (s : Sp) (k : Bs) : Bool := !Op.bytesLess k s.1 && (s.2.isEmpty || Op.bytesLess k s.2)
def emptyB (s : Sp) : Bool := !ltP (keyP s.1) (hiP s.2)
theorem emptyB_iff (s : Sp) : emptyB s = true ↔ hiP s.2 ≤ keyP s.1 := by unfold emptyB; rw [Bool.not_eq_true']; exact Iff.rfl
theorem emptyB_no (s : Sp) : emptyB s = false ↔ keyP s.1 < hiP s.2 := by unfold emptyB; rw [Bool.not_eq_false']; exact Iff.rfl
theorem hasB_iff (s : Sp) (k : Bs) : hasB s k = true ↔ HasS s k := by
  unfold hasB HasS
  rw [Bool.and_eq_true, Bool.not_eq_true', Bool.or_eq_true]
  refine and_congr Iff.rfl ?_
  cases h : s.2 with
  | nil => simp [hiP_nil]; exact keyP_top k
  | cons a r => rw [hiP_ne (by simp)]; simp; exact Iff.rfl
theorem has_lo {s : Sp} (h : emptyB s = false) : HasS s s.1 := ⟨by grind, (emptyB_no s).1 h⟩
theorem has_nonempty {s : Sp} {k : Bs} (h : HasS s k) : emptyB s = false := by
  rw [emptyB_no]; obtain ⟨h1, h2⟩ := h; grind
/-- A list of spans has a key. -/
def InL (l : List Sp) (k : Bs) : Prop := ∃ s ∈ l, HasS s k
def inB (l : List Sp) (k : Bs) : Bool := l.any fun s => hasB s k
theorem inB_iff (l : List Sp) (k : Bs) : inB l k = true ↔ InL l k := by
  unfold inB InL; rw [List.any_eq_true]; simp only [hasB_iff]
theorem InL_nil (k : Bs) : ¬ InL [] k := by rintro ⟨s, hs, _⟩; cases hs
theorem InL_cons (s : Sp) (l : List Sp) (k : Bs) : InL (s :: l) k ↔ HasS s k ∨ InL l k := by simp [InL]
theorem InL_append (l m : List Sp) (k : Bs) : InL (l ++ m) k ↔ InL l k ∨ InL m k := by
  unfold InL; simp only [List.mem_append]
  constructor
  · rintro ⟨s, h | h, k⟩
    · exact .inl ⟨s, h, k⟩
    · exact .inr ⟨s, h, k⟩
  · rintro (⟨s, h, k⟩ | ⟨s, h, k⟩)
    · exact ⟨s, .inl h, k⟩
    · exact ⟨s, .inr h, k⟩

/-- A normal list. -/
def Nrm : List Sp → Prop
  | [] => True
  | s :: r => emptyB s = false ∧ (∀ t ∈ r, hiP s.2 < keyP t.1) ∧ Nrm r

theorem Nrm.ne {l : List Sp} (h : Nrm l) : ∀ s ∈ l, emptyB s = false := by
  induction l with
  | nil => simp
  | cons a r ih =>
    intro s hs
    rcases List.mem_cons.1 hs with rfl | hs
    · exact h.1
    · exact ih h.2.2 s hs

/-- A normal list is told by its keys. -/
theorem Nrm.unique : ∀ {a b : List Sp}, Nrm a → Nrm b → (∀ k, InL a k ↔ InL b k) → a = b
  | [], [], _, _, _ => rfl
  | [], t :: r, _, hb, h => absurd ((h t.1).2 ⟨t, by simp, has_lo hb.1⟩) (InL_nil _)
  | s :: r, [], ha, _, h => absurd ((h s.1).1 ⟨s, by simp, has_lo ha.1⟩) (InL_nil _)
  | s :: a, t :: b, ha, hb, h => by
    have low : ∀ {x : Sp} {l : List Sp}, Nrm (x :: l) → ∀ k, InL (x :: l) k → keyP x.1 ≤ keyP k := by
      intro x l hx k hk
      rw [InL_cons] at hk
      rcases hk with hk | ⟨y, hy, hk⟩
      · exact hk.1
      · have h1 := hx.2.1 y hy
        have h2 := (emptyB_no x).1 hx.1
        have h3 := hk.1
        grind
    have l1 := low hb s.1 ((h s.1).1 ⟨s, by simp, has_lo ha.1⟩)
    have l2 := low ha t.1 ((h t.1).2 ⟨t, by simp, has_lo hb.1⟩)
    have e1 : s.1 = t.1 := keyP_inj (by grind)
    have up : ∀ {x y : Sp} {l m : List Sp}, Nrm (x :: l) → Nrm (y :: m) → x.1 = y.1 → (∀ k, InL (y :: m) k → InL (x :: l) k) → ¬ hiP x.2 < hiP y.2 := by
      intro x y l m hx hy e hk hlt
      have hx2 : x.2 ≠ [] := by intro e2; rw [e2] at hlt; exact top_max _ hlt
      rw [hiP_ne hx2] at hlt
      have hx1 := (emptyB_no x).1 hx.1
      rw [hiP_ne hx2] at hx1
      have hin : InL (y :: m) x.2 := ⟨y, by simp, by rw [← e]; grind, hlt⟩
      have := hk _ hin
      rw [InL_cons] at this
      rcases this with ⟨_, h2⟩ | ⟨z, hz, h2, _⟩
      · rw [hiP_ne hx2] at h2; grind
      · have := hx.2.1 z hz
        rw [hiP_ne hx2] at this
        grind
    have u1 := up ha hb e1 (fun k => (h k).2)
    have u2 := up hb ha e1.symm (fun k => (h k).1)
    have e2 : s.2 = t.2 := hiP_inj (by grind)
    have e : s = t := by obtain ⟨s1, s2⟩ := s; obtain ⟨t1, t2⟩ := t; simp at e1 e2; rw [e1, e2]
    subst e
    have tail : ∀ {x : Sp} {l m : List Sp}, Nrm (x :: l) → (∀ k, InL (x :: l) k → InL (x :: m) k) → ∀ k, InL l k → InL m k := by
      intro x l m hx hk k hl
      have := hk k ((InL_cons _ _ _).2 (.inr hl))
      rw [InL_cons] at this
      rcases this with h1 | h1
      · obtain ⟨y, hy, h2⟩ := hl
        have h3 := hx.2.1 y hy
        have h4 := h1.2
        have h5 := h2.1
        grind
      · exact h1
    rw [Nrm.unique ha.2.2 hb.2.2 (fun k => ⟨tail ha (fun k => (h k).1) k, tail hb (fun k => (h k).2) k⟩)]

/-! ### Ends of spans, and the sweep over them -/
/-- An end: its key, whether it is the top, what it adds, and to which list. -/
abbrev Ev := Bs × Bool × Int × Int
def ptE (e : Ev) : Pt := if e.2.1 then topP else keyP e.1
def cmpE (a b : Ev) : Int := if a.2.1 != b.2.1 then (if a.2.1 then 1 else -1) else Lib.compareBytes a.1 b.1
def ltE (a b : Ev) : Bool := decide (cmpE a b < 0)

theorem cmpB_lt (a b : Bs) : decide (Lib.compareBytes a b < 0) = Op.bytesLess a b := by
  induction a generalizing b with
  | nil => cases b <;> simp [Lib.compareBytes, Op.bytesLess]
  | cons x a ih =>
    cases b with
    | nil => simp [Lib.compareBytes, Op.bytesLess]
    | cons y b =>
      simp only [Lib.compareBytes, Op.bytesLess]
      by_cases h1 : x < y
      · simp [h1]
      · by_cases h2 : y < x
        · have : ¬ x = y := by rintro rfl; exact h1 h2
          simp [h1, h2, this]
        · have : x = y := UInt8.le_antisymm (by simpa using h2) (by simpa using h1)
          subst this
          simp [ih]
theorem cmpB_gt (a b : Bs) : decide (0 < Lib.compareBytes a b) = Op.bytesLess b a := by
  induction a generalizing b with
  | nil => cases b <;> simp [Lib.compareBytes, Op.bytesLess]
  | cons x a ih =>
    cases b with
    | nil => simp [Lib.compareBytes, Op.bytesLess]
    | cons y b =>
      simp only [Lib.compareBytes, Op.bytesLess]
      by_cases h1 : x < y
      · have h3 : ¬ y < x := fun h => UInt8.lt_irrefl _ (UInt8.lt_trans h1 h)
        have h4 : ¬ y = x := by rintro rfl; exact UInt8.lt_irrefl _ h1
        simp [h1, h3, h4]
      · by_cases h2 : y < x
        · simp [h1, h2]
        · have : x = y := UInt8.le_antisymm (by simpa using h2) (by simpa using h1)
          subst this
          simp [ih]
/-- A top has no key. -/
def WfE (e : Ev) : Prop := e.2.1 = true → e.1 = []
theorem ltE_wf {a b : Ev} (ha : WfE a) (hb : WfE b) : ltE a b = ltP (ptE a) (ptE b) := by
  obtain ⟨ka, ta, _⟩ := a
  obtain ⟨kb, tb, _⟩ := b
  unfold ltE cmpE ptE
  cases ta <;> cases tb
  · show decide (Lib.compareBytes ka kb < 0) = Op.bytesLess ka kb; exact cmpB_lt _ _
  · rfl
  · rfl
  · have h1 : ka = [] := ha rfl
    have h2 : kb = [] := hb rfl
    subst h1 h2
    rfl
theorem cmpE_pos {a b : Ev} (ha : WfE a) (hb : WfE b) : decide (0 < cmpE a b) = ltP (ptE b) (ptE a) := by
  obtain ⟨ka, ta, _⟩ := a
  obtain ⟨kb, tb, _⟩ := b
  unfold cmpE ptE
  cases ta <;> cases tb
  · show decide (0 < Lib.compareBytes ka kb) = Op.bytesLess kb ka; exact cmpB_gt _ _
  · rfl
  · rfl
  · have h1 : ka = [] := ha rfl
    have h2 : kb = [] := hb rfl
    subst h1 h2
    rfl
theorem cmpE_zero {a b : Ev} (ha : WfE a) (hb : WfE b) : cmpE a b = 0 ↔ ptE a = ptE b := by
  have h1 := ltE_wf ha hb
  have h2 := cmpE_pos ha hb
  unfold ltE at h1
  constructor
  · intro h
    rw [h] at h1 h2
    exact ltP_total _ _ h1.symm h2.symm
  · intro h
    rw [h, ltP_irrefl] at h1 h2
    simp at h1 h2
    omega
/-- 'Less' of ends, whatever they are. -/
theorem ltE_lex (a b : Ev) : ltE a b = if a.2.1 != b.2.1 then b.2.1 else Op.bytesLess a.1 b.1 := by
  obtain ⟨ka, ta, _⟩ := a
  obtain ⟨kb, tb, _⟩ := b
  unfold ltE cmpE
  cases ta <;> cases tb <;> simp
  · have := cmpB_lt ka kb; simpa using this
  · have := cmpB_lt ka kb; simpa using this
theorem ltE_irrefl (a : Ev) : ltE a a = false := by rw [ltE_lex]; simp [less_irrefl]
theorem ltE_trans (a b c : Ev) (h : ltE a b = true) (k : ltE b c = true) : ltE a c = true := by
  rw [ltE_lex] at *
  obtain ⟨ka, ta, _⟩ := a
  obtain ⟨kb, tb, _⟩ := b
  obtain ⟨kc, tc, _⟩ := c
  cases ta <;> cases tb <;> cases tc <;> simp at h k ⊢
  · exact less_trans _ _ _ h k
  · exact less_trans _ _ _ h k
theorem less_ntrans (a b c : Bs) (h : Op.bytesLess a b = false) (k : Op.bytesLess b c = false) : Op.bytesLess a c = false := by
  have h' : keyP b ≤ keyP a := h
  have k' : keyP c ≤ keyP b := k
  show keyP c ≤ keyP a
  grind
theorem ltE_ntrans (a b c : Ev) (h : ltE a b = false) (k : ltE b c = false) : ltE a c = false := by
  rw [ltE_lex] at *
  obtain ⟨ka, ta, _⟩ := a
  obtain ⟨kb, tb, _⟩ := b
  obtain ⟨kc, tc, _⟩ := c
  cases ta <;> cases tb <;> cases tc <;> simp at h k ⊢
  · exact less_ntrans _ _ _ h k
  · exact less_ntrans _ _ _ h k

/-- Sorted: no later one is less. -/
def SrtE : List Ev → Prop
  | [] => True
  | e :: r => (∀ f ∈ r, ltE f e = false) ∧ SrtE r

/-- The next end is at the same place. -/
def sameNext (e : Ev) : List Ev → Bool
  | [] => false
  | f :: _ => decide (cmpE e f = 0)
/-- What is open behind an end. -/
def openI (i : Int) (c : Int) (e : Ev) : Int := if e.2.2.2 = i then c + e.2.2.1 else c
def nowB (c0 c1 : Int) : Bool := decide (0 < c0) && decide (c1 = 0)
/-- The sweep. -/
def sweep (c0 c1 : Int) (ins : Bool) (lo : Bs) : List Ev → List Sp
  | [] => []
  | e :: r =>
    if sameNext e r then sweep (openI 0 c0 e) (openI 1 c1 e) ins lo r
    else
      let now := nowB (openI 0 c0 e) (openI 1 c1 e)
      let lo' := if now && !ins then e.1 else lo
      (if ins && !now then [(lo', e.1)] else []) ++ sweep (openI 0 c0 e) (openI 1 c1 e) now lo' r

/-- What the ends up to a key add. -/
def cov (i : Int) (k : Bs) : List Ev → Int
  | [] => 0
  | e :: r => (if e.2.2.2 = i ∧ ltP (keyP k) (ptE e) = false then e.2.2.1 else 0) + cov i k r
def tot (i : Int) : List Ev → Int
  | [] => 0
  | e :: r => (if e.2.2.2 = i then e.2.2.1 else 0) + tot i r

theorem cov_far (i : Int) (k : Bs) : ∀ r : List Ev, (∀ f ∈ r, keyP k < ptE f) → cov i k r = 0
  | [], _ => rfl
  | e :: r, h => by
    have h1 : ltP (keyP k) (ptE e) = true := h e (by simp)
    rw [cov, cov_far i k r (fun f hf => h f (by simp [hf])), h1]; simp

open Classical in
/-- What the sweep gives: a normal list with the keys at which the counts say so. -/
theorem sweep_spec : ∀ (evs : List Ev) (c0 c1 : Int) (ins : Bool) (lo : Bs), (∀ e ∈ evs, WfE e) → SrtE evs → c0 + tot 0 evs = 0 →
    (ins = true → ∀ e ∈ evs, keyP lo < ptE e) → (evs = [] → ins = false) →
    Nrm (sweep c0 c1 ins lo evs) ∧
    (∀ s ∈ sweep c0 c1 ins lo evs, (ins = true ∧ s.1 = lo) ∨ (∀ e, evs.head? = some e → ptE e ≤ keyP s.1)) ∧
    (ins = false → ∀ s ∈ sweep c0 c1 ins lo evs, ∀ e, evs.head? = some e → ptE e ≤ keyP s.1) ∧
    (∀ k, InL (sweep c0 c1 ins lo evs) k ↔ (if (∃ e, evs.head? = some e ∧ ptE e ≤ keyP k) then 0 < c0 + cov 0 k evs ∧ c1 + cov 1 k evs = 0 else ins = true ∧ keyP lo ≤ keyP k))
  | [], c0, c1, ins, lo, _, _, _, _, he => by
    refine ⟨trivial, by simp [sweep], by simp [sweep], fun k => ?_⟩
    rw [if_neg (by simp), he rfl]
    simp [sweep, InL_nil]
  | e :: r, c0, c1, ins, lo, hw, hs, ht, hl, _ => by
    have we : WfE e := hw e (by simp)
    have hwr : ∀ f ∈ r, WfE f := fun f hf => hw f (by simp [hf])
    have ht' : openI 0 c0 e + tot 0 r = 0 := by unfold openI; rw [tot] at ht; split <;> simp_all <;> omega
    have ge : ∀ f ∈ r, ptE e ≤ ptE f := fun f hf => by have := hs.1 f hf; rw [ltE_wf (hwr f hf) we] at this; exact this
    have covc : ∀ i c k, ptE e ≤ keyP k → openI i c e + cov i k r = c + cov i k (e :: r) := by
      intro i c k hk
      have hk' : ltP (keyP k) (ptE e) = false := hk
      unfold openI; rw [cov, hk']
      by_cases h : e.2.2.2 = i <;> simp [h] <;> omega
    by_cases hsn : sameNext e r = true
    · -- the next one is at the same place
      cases r with
      | nil => cases hsn
      | cons f r' =>
        have hp : ptE e = ptE f := (cmpE_zero we (hwr f (by simp))).1 (by simpa [sameNext] using hsn)
        have hl' : ins = true → ∀ g ∈ f :: r', keyP lo < ptE g := fun h g hg => hl h g (by simp [hg])
        obtain ⟨n1, n2, n3, n4⟩ := sweep_spec (f :: r') (openI 0 c0 e) (openI 1 c1 e) ins lo hwr hs.2 ht' hl' (by simp)
        have hd : sweep c0 c1 ins lo (e :: f :: r') = sweep (openI 0 c0 e) (openI 1 c1 e) ins lo (f :: r') := by rw [sweep, if_pos hsn]
        rw [hd]
        refine ⟨n1, fun s h => ?_, fun hi s h g hg => ?_, fun k => ?_⟩
        · rcases n2 s h with h1 | h1
          · exact .inl h1
          · refine .inr fun g hg => ?_
            have h2 := h1 f rfl
            simp at hg; subst hg; rw [hp]; exact h2
        · have h2 := n3 hi s h f rfl
          simp at hg; subst hg; rw [hp]; exact h2
        · rw [n4 k]
          simp only [List.head?_cons, Option.some.injEq, exists_eq_left']
          rw [← hp]
          by_cases hk : ptE e ≤ keyP k
          · rw [if_pos hk, if_pos hk, covc 0 c0 k hk, covc 1 c1 k hk]
          · rw [if_neg hk, if_neg hk]
    · -- the next one is elsewhere
      have hgt : ∀ f ∈ r, ptE e < ptE f := by
        cases r with
        | nil => intro f hf; cases hf
        | cons g r' =>
          intro f hf
          have hne : ¬ ptE e = ptE g := fun h => hsn (by simpa [sameNext] using (cmpE_zero we (hwr g (by simp))).2 h)
          have h1 := ge g (by simp)
          have h2 : ptE g ≤ ptE f := by
            rcases List.mem_cons.1 hf with rfl | hf'
            · grind
            · have := hs.2.1 f hf'; rw [ltE_wf (hwr f hf) (hwr g (by simp))] at this; exact this
          grind
      have etop : ∀ f ∈ r, e.2.1 = false := by
        intro f hf
        cases h : e.2.1 with
        | false => rfl
        | true =>
          have := hgt f hf
          unfold ptE at this
          rw [if_pos h] at this
          exact absurd this (top_max _)
      generalize hd0 : openI 0 c0 e = d0 at *
      generalize hd1 : openI 1 c1 e = d1 at *
      have hd : sweep c0 c1 ins lo (e :: r) = (if ins && !(nowB d0 d1) then [(if nowB d0 d1 && !ins then e.1 else lo, e.1)] else []) ++ sweep d0 d1 (nowB d0 d1) (if nowB d0 d1 && !ins then e.1 else lo) r := by
        rw [sweep, if_neg hsn, hd0, hd1]
      have nowr : nowB d0 d1 = true → r ≠ [] := by
        rintro h rfl
        simp [nowB, tot] at h ht'
        omega
      have nowtop : nowB d0 d1 = true → ptE e = keyP e.1 := by
        intro h
        have hr := nowr h
        obtain ⟨f, hf⟩ := List.exists_mem_of_ne_nil r hr
        unfold ptE; rw [etop f hf]; rfl
      -- the head of the rest lies behind
      have headgt : ∀ f, r.head? = some f → ptE e < ptE f := fun f hf => hgt f (List.mem_of_mem_head? (by rw [hf]; exact rfl))
      have headle : ∀ k, ¬ (∃ f, r.head? = some f ∧ ptE f ≤ keyP k) → ptE e ≤ keyP k → cov 0 k r = 0 ∧ cov 1 k r = 0 := by
        intro k hk _
        have : ∀ f ∈ r, keyP k < ptE f := by
          cases r with
          | nil => intro f hf; cases hf
          | cons g r' =>
            intro f hf
            have h1 : ¬ ptE g ≤ keyP k := fun h => hk ⟨g, rfl, h⟩
            rcases List.mem_cons.1 hf with rfl | hf'
            · grind
            · have := hs.2.1 f hf'; rw [ltE_wf (hwr f hf) (hwr g (by simp))] at this
              have : ptE g ≤ ptE f := this
              grind
        exact ⟨cov_far _ _ _ this, cov_far _ _ _ this⟩
      have nowk : ∀ k, ptE e ≤ keyP k → ¬ (∃ f, r.head? = some f ∧ ptE f ≤ keyP k) → ((0 < c0 + cov 0 k (e :: r) ∧ c1 + cov 1 k (e :: r) = 0) ↔ nowB d0 d1 = true) := by
        intro k hk hn
        obtain ⟨z0, z1⟩ := headle k hn hk
        have a0 := covc 0 c0 k hk
        have a1 := covc 1 c1 k hk
        rw [hd0] at a0
        rw [hd1] at a1
        rw [← a0, ← a1, z0, z1]
        simp [nowB]
      have farther : ∀ k, ¬ ptE e ≤ keyP k → ¬ (∃ f, r.head? = some f ∧ ptE f ≤ keyP k) := by
        rintro k hk ⟨f, hf, h⟩
        have := headgt f hf
        grind
      have wantr : ∀ k, ptE e ≤ keyP k → ((0 < d0 + cov 0 k r ∧ d1 + cov 1 k r = 0) ↔ (0 < c0 + cov 0 k (e :: r) ∧ c1 + cov 1 k (e :: r) = 0)) := by
        intro k hk
        have a0 := covc 0 c0 k hk
        have a1 := covc 1 c1 k hk
        rw [hd0] at a0
        rw [hd1] at a1
        rw [a0, a1]
      rw [hd]
      simp only [List.head?_cons, Option.some.injEq, exists_eq_left', forall_eq']
      cases hnow : nowB d0 d1 with
      | true =>
        have hpe := nowtop hnow
        have hrne := nowr hnow
        cases hins : ins with
        | true =>
          -- it goes on
          obtain ⟨n1, n2, n3, n4⟩ := sweep_spec r d0 d1 true lo hwr hs.2 ht' (fun _ g hg => hl hins g (by simp [hg])) (fun h => absurd h hrne)
          simp only [Bool.not_true, Bool.and_false, Bool.false_eq_true, ↓reduceIte, List.nil_append]
          refine ⟨n1, fun s h => ?_, by simp, fun k => ?_⟩
          · rcases n2 s h with h1 | h1
            · exact .inl ⟨trivial, h1.2⟩
            · refine .inr ?_
              obtain ⟨g, r', hr⟩ := List.exists_cons_of_ne_nil hrne
              have h2 := h1 g (by rw [hr]; rfl)
              have h3 := headgt g (by rw [hr]; rfl)
              grind
          · rw [n4 k]
            by_cases hk : ptE e ≤ keyP k
            · rw [if_pos hk]
              by_cases hh : ∃ f, r.head? = some f ∧ ptE f ≤ keyP k
              · rw [if_pos hh]; exact wantr k hk
              · rw [if_neg hh, nowk k hk hh, hnow]
                have := hl hins e (by simp)
                simp only [true_and, iff_true]
                grind
            · rw [if_neg hk, if_neg (farther k hk)]; simp
        | false =>
          -- it begins
          obtain ⟨n1, n2, n3, n4⟩ := sweep_spec r d0 d1 true e.1 hwr hs.2 ht' (fun _ g hg => by rw [← hpe]; exact hgt g hg) (fun h => absurd h hrne)
          simp only [Bool.false_and, Bool.not_false, Bool.and_true, Bool.false_eq_true, ↓reduceIte, List.nil_append]
          have key : ∀ s ∈ sweep d0 d1 true e.1 r, ptE e ≤ keyP s.1 := by
            intro s h
            rcases n2 s h with h1 | h1
            · rw [h1.2, hpe]; grind
            · obtain ⟨g, r', hr⟩ := List.exists_cons_of_ne_nil hrne
              have h2 := h1 g (by rw [hr]; rfl)
              have h3 := headgt g (by rw [hr]; rfl)
              grind
          refine ⟨n1, fun s h => .inr (key s h), fun _ => key, fun k => ?_⟩
          rw [n4 k]
          by_cases hk : ptE e ≤ keyP k
          · rw [if_pos hk]
            by_cases hh : ∃ f, r.head? = some f ∧ ptE f ≤ keyP k
            · rw [if_pos hh]; exact wantr k hk
            · rw [if_neg hh, nowk k hk hh, hnow]
              simp only [true_and, iff_true]
              rw [← hpe]; exact hk
          · rw [if_neg hk, if_neg (farther k hk)]
            simp only [true_and, false_and, iff_false]
            rw [← hpe]; exact hk
      | false =>
        obtain ⟨n1, n2, n3, n4⟩ := sweep_spec r d0 d1 false lo hwr hs.2 ht' (fun h => by cases h) (fun _ => rfl)
        have key : ∀ s ∈ sweep d0 d1 false lo r, ptE e < keyP s.1 := by
          intro s h
          cases r with
          | nil => simp [sweep] at h
          | cons g r' =>
            have h2 := n3 rfl s h g rfl
            have h3 := headgt g rfl
            grind
        cases hins : ins with
        | true =>
          -- it ends
          have hlo := hl hins e (by simp)
          have hpt : hiP e.1 = ptE e := by
            unfold ptE
            cases htp : e.2.1 with
            | true => rw [we htp]; rfl
            | false =>
              rw [if_neg (by simp)]
              refine hiP_ne ?_
              intro h0
              unfold ptE at hlo
              rw [htp, if_neg (by simp), h0] at hlo
              have := keyP_nil lo
              grind
          simp only [Bool.not_false, Bool.not_true, Bool.and_self, Bool.false_eq_true, ↓reduceIte, List.cons_append, List.nil_append]
          refine ⟨⟨?_, ?_, n1⟩, ?_, by simp, fun k => ?_⟩
          · rw [emptyB_no]; show keyP lo < hiP e.1; rw [hpt]; exact hlo
          · intro t h; show hiP e.1 < keyP t.1; rw [hpt]; exact key t h
          · intro s h
            rcases List.mem_cons.1 h with rfl | h
            · exact .inl ⟨trivial, rfl⟩
            · refine .inr ?_
              have := key s h
              grind
          · rw [InL_cons, n4 k]
            unfold HasS
            show (keyP lo ≤ keyP k ∧ keyP k < hiP e.1 ∨ _) ↔ _
            rw [hpt]
            by_cases hk : ptE e ≤ keyP k
            · rw [if_pos hk]
              have hk2 : ¬ keyP k < ptE e := by grind
              by_cases hh : ∃ f, r.head? = some f ∧ ptE f ≤ keyP k
              · rw [if_pos hh, ← wantr k hk]; simp [hk2]
              · rw [if_neg hh, nowk k hk hh, hnow]; simp [hk2]
            · rw [if_neg hk, if_neg (farther k hk)]
              have hk2 : keyP k < ptE e := by grind
              simp [hk2]
        | false =>
          simp only [Bool.not_false, Bool.and_true, Bool.false_eq_true, ↓reduceIte, List.nil_append]
          have key' : ∀ s ∈ sweep d0 d1 false lo r, ptE e ≤ keyP s.1 := fun s h => by have := key s h; grind
          refine ⟨n1, fun s h => .inr (key' s h), fun _ => key', fun k => ?_⟩
          rw [n4 k]
          by_cases hk : ptE e ≤ keyP k
          · rw [if_pos hk]
            by_cases hh : ∃ f, r.head? = some f ∧ ptE f ≤ keyP k
            · rw [if_pos hh]; exact wantr k hk
            · rw [if_neg hh, nowk k hk hh, hnow]; simp
          · rw [if_neg hk, if_neg (farther k hk)]; simp

/-- The sweep gives at most a span for two ends. -/
theorem sweep_length : ∀ (evs : List Ev) (c0 c1 : Int) (ins : Bool) (lo : Bs), 2 * (sweep c0 c1 ins lo evs).length ≤ evs.length + (if ins then 1 else 0)
  | [], _, _, _, _ => by simp [sweep]
  | e :: r, c0, c1, ins, lo => by
    rw [sweep]
    split
    · have := sweep_length r (openI 0 c0 e) (openI 1 c1 e) ins lo
      simp only [List.length_cons]; omega
    · generalize nowB (openI 0 c0 e) (openI 1 c1 e) = now
      have := sweep_length r (openI 0 c0 e) (openI 1 c1 e) now (if now && !ins then e.1 else lo)
      cases now <;> cases ins <;> simp at this ⊢ <;> omega

/-! ### The ends of lists -/
def evs (i : Int) (l : List Sp) : List Ev := l.flatMap fun s => if emptyB s then [] else [(s.1, false, 1, i), (s.2, s.2.isEmpty, -1, i)]
theorem evs_cons (i : Int) (s : Sp) (l : List Sp) : evs i (s :: l) = (if emptyB s then [] else [(s.1, false, 1, i), (s.2, s.2.isEmpty, -1, i)]) ++ evs i l := rfl
theorem evs_append (i : Int) (l m : List Sp) : evs i (l ++ m) = evs i l ++ evs i m := by unfold evs; rw [List.flatMap_append]
theorem evs_length (i : Int) (l : List Sp) : (evs i l).length ≤ 2 * l.length := by
  induction l with
  | nil => exact Nat.le_refl _
  | cons s l ih => rw [evs_cons, List.length_append, List.length_cons]; split <;> simp <;> omega
theorem evs_wf (i : Int) (l : List Sp) : ∀ e ∈ evs i l, WfE e := by
  intro e he
  unfold evs at he
  rw [List.mem_flatMap] at he
  obtain ⟨s, _, he⟩ := he
  split at he
  · cases he
  · simp at he
    rcases he with rfl | rfl
    · intro h; cases h
    · intro h; simpa using h
theorem cov_append (i : Int) (k : Bs) (a b : List Ev) : cov i k (a ++ b) = cov i k a + cov i k b := by
  induction a with
  | nil => simp [cov]
  | cons e a ih => rw [List.cons_append, cov, cov, ih]; omega
theorem tot_append (i : Int) (a b : List Ev) : tot i (a ++ b) = tot i a + tot i b := by
  induction a with
  | nil => simp [tot]
  | cons e a ih => rw [List.cons_append, tot, tot, ih]; omega
theorem cov_perm (i : Int) (k : Bs) {a b : List Ev} (h : a.Perm b) : cov i k a = cov i k b := by
  induction h with
  | nil => rfl
  | cons x _ ih => rw [cov, cov, ih]
  | swap x y l => simp only [cov]; omega
  | trans _ _ h1 h2 => rw [h1, h2]
theorem tot_perm (i : Int) {a b : List Ev} (h : a.Perm b) : tot i a = tot i b := by
  induction h with
  | nil => rfl
  | cons x _ ih => rw [tot, tot, ih]
  | swap x y l => simp only [tot]; omega
  | trans _ _ h1 h2 => rw [h1, h2]
/-- How many spans have a key. -/
def cnt (k : Bs) (l : List Sp) : Int := ((l.filter fun s => hasB s k).length : Nat)
theorem cnt_pos (k : Bs) (l : List Sp) : 0 < cnt k l ↔ InL l k := by
  unfold cnt
  rw [show ((0 : Int) < ((l.filter fun s => hasB s k).length : Nat)) ↔ 0 < (l.filter fun s => hasB s k).length by omega, List.length_pos_iff_exists_mem]
  unfold InL
  simp only [List.mem_filter, hasB_iff]
theorem cnt_zero (k : Bs) (l : List Sp) : cnt k l = 0 ↔ ¬ InL l k := by
  rw [← cnt_pos]
  have : 0 ≤ cnt k l := by unfold cnt; omega
  omega
theorem ptE_hi (h : Bs) (s i : Int) : ptE (h, h.isEmpty, s, i) = hiP h := by
  unfold ptE hiP
  cases h <;> simp
theorem cov_evs (i j : Int) (k : Bs) (l : List Sp) : cov i k (evs j l) = if j = i then cnt k l else 0 := by
  induction l with
  | nil => simp [evs, cov, cnt]
  | cons s l ih =>
    rw [evs_cons, cov_append, ih]
    have hc : cnt k (s :: l) = (if hasB s k then 1 else 0) + cnt k l := by
      unfold cnt; rw [List.filter_cons]; split <;> simp <;> omega
    rw [hc]
    by_cases hij : j = i
    · subst hij
      rw [if_pos rfl, if_pos rfl]
      congr 1
      have hx := hasB_iff s k
      by_cases he : emptyB s = true
      · have : hasB s k = false := by
          rw [Bool.eq_false_iff]; intro h
          have := has_nonempty (hx.1 h)
          rw [this] at he; cases he
        simp [he, this, cov]
      · have he' : emptyB s = false := by simpa using he
        have hlt := (emptyB_no s).1 he'
        rw [if_neg he]
        simp only [cov, ptE_hi, true_and, Int.add_zero]
        have e1 : ptE (s.1, false, 1, j) = keyP s.1 := rfl
        rw [e1]
        unfold HasS at hx
        by_cases h1 : ltP (keyP k) (keyP s.1) = false
        · by_cases h2 : ltP (keyP k) (hiP s.2) = false
          · have : hasB s k = false := by
              rw [Bool.eq_false_iff]; intro h
              have := (hx.1 h).2
              rw [show keyP k < hiP s.2 ↔ ltP (keyP k) (hiP s.2) = true from Iff.rfl, h2] at this; cases this
            simp [h1, h2, this]
          · have : hasB s k = true := hx.2 ⟨h1, (ltP_iff _ _).1 (by simpa using h2)⟩
            simp [h1, h2, this]
        · have h2 : ¬ ltP (keyP k) (hiP s.2) = false := by
            intro h2
            have a1 : ¬ keyP s.1 ≤ keyP k := h1
            have a2 : hiP s.2 ≤ keyP k := h2
            grind
          have : hasB s k = false := by
            rw [Bool.eq_false_iff]; intro h
            exact h1 (hx.1 h).1
          simp [h1, h2, this]
    · rw [if_neg hij, if_neg hij]
      split
      · simp [cov]
      · simp [cov, hij]
theorem tot_evs (i j : Int) (l : List Sp) : tot i (evs j l) = 0 := by
  induction l with
  | nil => rfl
  | cons s l ih =>
    rw [evs_cons, tot_append, ih]
    split
    · rfl
    · simp only [tot]; split <;> simp

/-- The sweep over sorted ends of two lists: the normal list of the keys of the first that the second has not. -/
theorem sweep_minus (l m : List Sp) (all : List Ev) (hp : all.Perm (evs 0 l ++ evs 1 m)) (hs : SrtE all) :
    Nrm (sweep 0 0 false [] all) ∧ ∀ k, InL (sweep 0 0 false [] all) k ↔ InL l k ∧ ¬ InL m k := by
  have hw : ∀ e ∈ all, WfE e := fun e he => by
    rcases List.mem_append.1 (hp.mem_iff.1 he) with h | h
    · exact evs_wf _ _ e h
    · exact evs_wf _ _ e h
  have ht : (0 : Int) + tot 0 all = 0 := by rw [tot_perm 0 hp, tot_append, tot_evs, tot_evs]; rfl
  obtain ⟨h1, _, _, h4⟩ := sweep_spec all 0 0 false [] hw hs ht (fun h => by cases h) (fun _ => rfl)
  refine ⟨h1, fun k => ?_⟩
  rw [h4 k]
  have c0 : cov 0 k all = cnt k l := by rw [cov_perm 0 k hp, cov_append, cov_evs, cov_evs]; simp
  have c1 : cov 1 k all = cnt k m := by rw [cov_perm 1 k hp, cov_append, cov_evs, cov_evs]; simp
  have hx : (0 < (0 : Int) + cov 0 k all ∧ (0 : Int) + cov 1 k all = 0) ↔ (InL l k ∧ ¬ InL m k) := by
    rw [c0, c1, ← cnt_pos, ← cnt_zero]; omega
  by_cases hh : ∃ e, all.head? = some e ∧ ptE e ≤ keyP k
  · rw [if_pos hh]; exact hx
  · rw [if_neg hh, ← hx]
    have far : ∀ f ∈ all, keyP k < ptE f := by
      cases all with
      | nil => intro f hf; cases hf
      | cons g r =>
        intro f hf
        have h1 : ¬ ptE g ≤ keyP k := fun h => hh ⟨g, rfl, h⟩
        rcases List.mem_cons.1 hf with rfl | hf'
        · grind
        · have := hs.1 f hf'; rw [ltE_wf (hw f hf) (hw g (by simp))] at this
          have : ptE g ≤ ptE f := this
          grind
    rw [cov_far 0 k all far]
    simp

/-! ### Sorting, so that there is one list -/
def insE (e : Ev) : List Ev → List Ev
  | [] => [e]
  | f :: r => if ltE f e then f :: insE e r else e :: f :: r
def srt : List Ev → List Ev
  | [] => []
  | e :: r => insE e (srt r)
theorem insE_perm (e : Ev) : ∀ r, (insE e r).Perm (e :: r)
  | [] => List.Perm.refl _
  | f :: r => by
    rw [insE]; split
    · exact ((insE_perm e r).cons f).trans (List.Perm.swap e f r)
    · exact List.Perm.refl _
theorem srt_perm : ∀ r, (srt r).Perm r
  | [] => List.Perm.refl _
  | e :: r => (insE_perm e (srt r)).trans ((srt_perm r).cons e)
theorem insE_srt (e : Ev) : ∀ r, SrtE r → SrtE (insE e r)
  | [], _ => ⟨(fun f hf => by cases hf), trivial⟩
  | f :: r, h => by
    rw [insE]
    cases hlt : ltE f e with
    | true =>
      simp only [↓reduceIte]
      refine ⟨fun g hg => ?_, insE_srt e r h.2⟩
      rcases List.mem_cons.1 ((insE_perm e r).mem_iff.1 hg) with rfl | hg
      · cases h2 : ltE g f with
        | false => rfl
        | true => have := ltE_trans _ _ _ hlt h2; rw [ltE_irrefl] at this; cases this
      · exact h.1 g hg
    | false =>
      simp only [Bool.false_eq_true, ↓reduceIte]
      refine ⟨fun g hg => ?_, h⟩
      rcases List.mem_cons.1 hg with rfl | hg
      · exact hlt
      · exact ltE_ntrans _ _ _ (h.1 g hg) hlt
theorem srt_srt : ∀ r, SrtE (srt r)
  | [] => trivial
  | e :: r => insE_srt e _ (srt_srt r)

/-- What Minus and Norm compute. -/
def minusS (l m : List Sp) : List Sp := sweep 0 0 false [] (srt (evs 0 l ++ evs 1 m))
def normS (l : List Sp) : List Sp := minusS l []
theorem minus_nrm (l m : List Sp) : Nrm (minusS l m) := (sweep_minus l m _ (srt_perm _) (srt_srt _)).1
theorem minus_in (l m : List Sp) (k : Bs) : InL (minusS l m) k ↔ InL l k ∧ ¬ InL m k := (sweep_minus l m _ (srt_perm _) (srt_srt _)).2 k
theorem norm_nrm (l : List Sp) : Nrm (normS l) := minus_nrm l []
theorem norm_in (l : List Sp) (k : Bs) : InL (normS l) k ↔ InL l k := by unfold normS; rw [minus_in]; simp [InL_nil]
/-- However the ends were sorted. -/
theorem sweep_eq (l m : List Sp) (all : List Ev) (hp : all.Perm (evs 0 l ++ evs 1 m)) (hs : SrtE all) : sweep 0 0 false [] all = minusS l m := by
  obtain ⟨h1, h2⟩ := sweep_minus l m all hp hs
  exact Nrm.unique h1 (minus_nrm l m) fun k => by rw [h2 k, minus_in]
theorem minus_of {r l m : List Sp} (h : Nrm r) (hk : ∀ k, InL r k ↔ InL l k ∧ ¬ InL m k) : minusS l m = r :=
  Nrm.unique (minus_nrm l m) h fun k => by rw [minus_in, hk k]
theorem norm_of {r l : List Sp} (h : Nrm r) (hk : ∀ k, InL r k ↔ InL l k) : normS l = r :=
  Nrm.unique (norm_nrm l) h fun k => by rw [norm_in, hk k]
theorem minus_length (l m : List Sp) : (minusS l m).length ≤ l.length + m.length := by
  have h1 := sweep_length (srt (evs 0 l ++ evs 1 m)) 0 0 false []
  have h2 := (srt_perm (evs 0 l ++ evs 1 m)).length_eq
  have h3 := evs_length 0 l
  have h4 := evs_length 1 m
  rw [List.length_append] at h2
  simp only [Bool.false_eq_true, ↓reduceIte] at h1
  unfold minusS
  omega
theorem norm_length (l : List Sp) : (normS l).length ≤ l.length := by have := minus_length l []; simpa [normS] using this

theorem norm_ex : normS [([99], [100]), ([97], [99]), ([120], [98])] = [([97], [100])] := by decide +kernel
theorem minus_ex : minusS [([], [])] [([98], [99])] = [([], [98]), ([99], [])] := by decide +kernel

end Go.Proofs.YtdckiaokldkfmaaGreat
