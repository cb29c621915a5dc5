/-
  Plain functions on lists of bytes that say what package span computes, and facts on them. No program. More plain facts on spans: prefixes, single keys, meeting, covering, parts, moving. No program. Plain functions on lists of pairs that say what package table computes, and facts on them. No program. Plain facts on tables: unions, what is put and found, spans. Plain messages: what package msg computes, and facts on it. No program. Plain facts on messages: what they change, what they depend on, when they may be exchanged. No program.
-/
import Derived.WalkKit
import Derived.Lib.Strings
import Derived.Lib.Bytealg
namespace Go.Proofs.YtmbfghbhajmpiaaGreat
abbrev Bs := List UInt8
/-- A string of a list. -/
def Str (l : Bs) : ByteArray := ⟨l.toArray⟩

theorem less_irrefl : ∀ a : Bs, Op.bytesLess a a = false
  | [] => rfl
  | a :: x => by simp [Op.bytesLess, less_irrefl x]
theorem less_trans : ∀ a b c : Bs, Op.bytesLess a b = true → Op.bytesLess b c = true → Op.bytesLess a c = true
  | _, [], c, h, _ => by cases ‹List UInt8› <;> simp [Op.bytesLess] at h
  | _, _ :: _, [], _, h => by simp [Op.bytesLess] at h
  | [], _ :: _, _ :: _, _, _ => rfl
  | a :: x, b :: y, c :: z, h1, h2 => by
    simp only [Op.bytesLess, Bool.or_eq_true, decide_eq_true_eq, Bool.and_eq_true, beq_iff_eq] at *
    rcases h1 with h1 | ⟨rfl, h1⟩
    · rcases h2 with h2 | ⟨rfl, h2⟩
      · exact .inl (UInt8.lt_trans h1 h2)
      · exact .inl h1
    · rcases h2 with h2 | ⟨rfl, h2⟩
      · exact .inl h2
      · exact .inr ⟨rfl, less_trans x y z h1 h2⟩
theorem less_total : ∀ a b : Bs, Op.bytesLess a b = false → Op.bytesLess b a = false → a = b
  | [], [], _, _ => rfl
  | [], _ :: _, h, _ => by simp [Op.bytesLess] at h
  | _ :: _, [], _, h => by simp [Op.bytesLess] at h
  | a :: x, b :: y, h1, h2 => by
    simp only [Op.bytesLess, Bool.or_eq_false_iff, decide_eq_false_iff_not, Bool.and_eq_false_iff, beq_eq_false_iff_ne, ne_eq] at *
    have e : a = b := UInt8.le_antisymm (by simpa using h2.1) (by simpa using h1.1)
    subst e
    rw [less_total x y (by simpa using h1.2) (by simpa using h2.2)]

/-- A place between keys: a key, or the top. -/
def Pt := Option Bs
def ltP : Pt → Pt → Bool
  | some a, some b => Op.bytesLess a b
  | some _, none => true
  | none, _ => false
instance : LT Pt := ⟨fun a b => ltP a b = true⟩
instance : LE Pt := ⟨fun a b => ltP b a = false⟩
theorem ltP_irrefl (a : Pt) : ltP a a = false := by cases a with
  | none => rfl
  | some a => exact less_irrefl a
theorem ltP_trans (a b c : Pt) (h : ltP a b = true) (k : ltP b c = true) : ltP a c = true := by
  cases a with
  | none => simp [ltP] at h
  | some a => cases b with
    | none => simp [ltP] at k
    | some b => cases c with
      | none => rfl
      | some c => exact less_trans a b c h k
theorem ltP_total (a b : Pt) (h : ltP a b = false) (k : ltP b a = false) : a = b := by
  cases a with
  | none => cases b with
    | none => rfl
    | some b => simp [ltP] at k
  | some a => cases b with
    | none => simp [ltP] at h
    | some b => rw [less_total a b h k]
instance : Std.IsLinearOrder Pt where
  le_refl := ltP_irrefl
  le_trans a b c h k := by
    show ltP c a = false
    have h : ltP b a = false := h
    have k : ltP c b = false := k
    cases e : ltP c a with
    | false => rfl
    | true =>
      cases e2 : ltP a b with
      | true => rw [ltP_trans c a b e e2] at k; cases k
      | false => rw [ltP_total a b e2 h] at e; rw [e] at k; cases k
  le_antisymm a b h k := ltP_total a b k h
  le_total a b := by
    show ltP b a = false ∨ ltP a b = false
    cases e : ltP b a with
    | false => exact .inl rfl
    | true => cases e2 : ltP a b with
      | false => exact .inr rfl
      | true => have := ltP_trans a b a e2 e; rw [ltP_irrefl] at this; cases this
instance : Std.LawfulOrderLT Pt where
  lt_iff a b := by
    show ltP a b = true ↔ ltP b a = false ∧ ¬ ltP a b = false
    constructor
    · intro h
      refine ⟨?_, by simp [h]⟩
      cases e2 : ltP b a with
      | false => rfl
      | true => have := ltP_trans a b a h e2; rw [ltP_irrefl] at this; cases this
    · rintro ⟨_, h⟩; simpa using h
theorem ltP_iff (a b : Pt) : ltP a b = true ↔ a < b := Iff.rfl
theorem ltP_false (a b : Pt) : ltP a b = false ↔ b ≤ a := Iff.rfl

/-- A key as a place; the end of a span as a place. -/
def keyP (k : Bs) : Pt := some k
def topP : Pt := none
def hiP (h : Bs) : Pt := if h = [] then topP else keyP h
theorem keyP_top (k : Bs) : keyP k < topP := rfl
theorem keyP_nil (k : Bs) : keyP [] ≤ keyP k := by show ltP (keyP k) (keyP []) = false; cases k <;> rfl
theorem hiP_nil : hiP [] = topP := rfl
theorem hiP_ne {h : Bs} (hh : h ≠ []) : hiP h = keyP h := by unfold hiP; rw [if_neg hh]
/-- A span: where it begins and ends. -/
abbrev Sp := Bs × Bs
def HasS (s : Sp) (k : Bs) : Prop := keyP s.1 ≤ keyP k ∧ keyP k < hiP s.2
def hasB (s : Sp) (k : Bs) : Bool := !Op.bytesLess k s.1 && (s.2.isEmpty || Op.bytesLess k s.2)
def emptyB (s : Sp) : Bool := !ltP (keyP s.1) (hiP s.2)
theorem emptyB_iff (s : Sp) : emptyB s = true ↔ hiP s.2 ≤ keyP s.1 := by unfold emptyB; rw [Bool.not_eq_true']; exact Iff.rfl
theorem emptyB_no (s : Sp) : emptyB s = false ↔ keyP s.1 < hiP s.2 := by unfold emptyB; rw [Bool.not_eq_false']; exact Iff.rfl
theorem hasB_iff (s : Sp) (k : Bs) : hasB s k = true ↔ HasS s k := by
  unfold hasB HasS
  rw [Bool.and_eq_true, Bool.not_eq_true', Bool.or_eq_true]
  refine and_congr Iff.rfl ?_
  cases h : s.2 with
  | nil => simp [hiP_nil]; exact keyP_top k
  | cons a r => rw [hiP_ne (by simp)]; simp; exact Iff.rfl
theorem has_nonempty {s : Sp} {k : Bs} (h : HasS s k) : emptyB s = false := by
  rw [emptyB_no]; obtain ⟨h1, h2⟩ := h; grind
def inB (l : List Sp) (k : Bs) : Bool := l.any fun s => hasB s k
/-! ### Ends of spans, and the sweep over them -/
/-- An end: its key, whether it is the top, what it adds, and to which list. -/
abbrev Ev := Bs × Bool × Int × Int
def ptE (e : Ev) : Pt := if e.2.1 then topP else keyP e.1
def cmpE (a b : Ev) : Int := if a.2.1 != b.2.1 then (if a.2.1 then 1 else -1) else Lib.compareBytes a.1 b.1
def ltE (a b : Ev) : Bool := decide (cmpE a b < 0)

theorem cmpB_lt (a b : Bs) : decide (Lib.compareBytes a b < 0) = Op.bytesLess a b := by
  induction a generalizing b with
  | nil => cases b <;> simp [Lib.compareBytes, Op.bytesLess]
  | cons x a ih =>
    cases b with
    | nil => simp [Lib.compareBytes, Op.bytesLess]
    | cons y b =>
      simp only [Lib.compareBytes, Op.bytesLess]
      by_cases h1 : x < y
      · simp [h1]
      · by_cases h2 : y < x
        · have : ¬ x = y := by rintro rfl; exact h1 h2
          simp [h1, h2, this]
        · have : x = y := UInt8.le_antisymm (by simpa using h2) (by simpa using h1)
          subst this
          simp [ih]
theorem cmpB_gt (a b : Bs) : decide (0 < Lib.compareBytes a b) = Op.bytesLess b a := by
  induction a generalizing b with
  | nil => cases b <;> simp [Lib.compareBytes, Op.bytesLess]
  | cons x a ih =>
    cases b with
    | nil => simp [Lib.compareBytes, Op.bytesLess]
    | cons y b =>
      simp only [Lib.compareBytes, Op.bytesLess]
      by_cases h1 : x < y
      · have h3 : ¬ y < x := fun h => UInt8.lt_irrefl _ (UInt8.lt_trans h1 h)
        have h4 : ¬ y = x := by rintro rfl; exact UInt8.lt_irrefl _ h1
        simp [h1, h3, h4]
      · by_cases h2 : y < x
        · simp [h1, h2]
        · have : x = y := UInt8.le_antisymm (by simpa using h2) (by simpa using h1)
          subst this
          simp [ih]
/-- A top has no key. -/
def WfE (e : Ev) : Prop := e.2.1 = true → e.1 = []
theorem ltE_wf {a b : Ev} (ha : WfE a) (hb : WfE b) : ltE a b = ltP (ptE a) (ptE b) := by
  obtain ⟨ka, ta, _⟩ := a
  obtain ⟨kb, tb, _⟩ := b
  unfold ltE cmpE ptE
  cases ta <;> cases tb
  · show decide (Lib.compareBytes ka kb < 0) = Op.bytesLess ka kb; exact cmpB_lt _ _
  · rfl
  · rfl
  · have h1 : ka = [] := ha rfl
    have h2 : kb = [] := hb rfl
    subst h1 h2
    rfl
theorem cmpE_pos {a b : Ev} (ha : WfE a) (hb : WfE b) : decide (0 < cmpE a b) = ltP (ptE b) (ptE a) := by
  obtain ⟨ka, ta, _⟩ := a
  obtain ⟨kb, tb, _⟩ := b
  unfold cmpE ptE
  cases ta <;> cases tb
  · show decide (0 < Lib.compareBytes ka kb) = Op.bytesLess kb ka; exact cmpB_gt _ _
  · rfl
  · rfl
  · have h1 : ka = [] := ha rfl
    have h2 : kb = [] := hb rfl
    subst h1 h2
    rfl
theorem ptE_hi (h : Bs) (s i : Int) : ptE (h, h.isEmpty, s, i) = hiP h := by
  unfold ptE hiP
  cases h <;> simp
end Go.Proofs.YtmbfghbhajmpiaaGreat
namespace Go.Proofs.YtmbfghbhajmpiaaGreat

/-- Where the keys that begin with a text end. -/
def preH : Bs → Option Bs
  | [] => none
  | c :: r => match preH r with
    | some h => some (c :: h)
    | none => if c = 255 then none else some [c + 1]
def preT (p : Bs) : Bs := (preH p).getD []
theorem preH_ne {p h : Bs} (e : preH p = some h) : h ≠ [] := by
  cases p with
  | nil => cases e
  | cons c r =>
    unfold preH at e
    split at e
    · cases e; simp
    · split at e
      · cases e
      · cases e; simp
theorem less_cons (a b : UInt8) (l m : Bs) : Op.bytesLess (a :: l) (b :: m) = (decide (a < b) || (a == b && Op.bytesLess l m)) := rfl
theorem u8_255 (d : UInt8) : ¬ (255 : UInt8) < d := by
  intro h
  have h1 : (255 : UInt8).toNat < d.toNat := h
  have h2 := d.toNat_lt
  have h3 : (255 : UInt8).toNat = 255 := rfl
  omega
theorem u8_succ {c d : UInt8} (hc : ¬ c = 255) : d < c + 1 ↔ d ≤ c := by
  have h0 : c.toNat ≠ 255 := fun h => hc (UInt8.toNat_inj.1 (by rw [h]; rfl))
  have h1 := c.toNat_lt
  have h2 : (c + 1).toNat = c.toNat + 1 := by rw [UInt8.toNat_add]; simp; omega
  rw [UInt8.lt_iff_toNat_lt, UInt8.le_iff_toNat_le, h2]; omega
def lessO (k : Bs) : Option Bs → Bool
  | none => true
  | some h => Op.bytesLess k h
theorem preH_cons (c : UInt8) (r : Bs) : preH (c :: r) = (match preH r with | some h => some (c :: h) | none => if c = 255 then none else some [c + 1]) := rfl
theorem less_nil (l : Bs) : Op.bytesLess l [] = false := by cases l <;> rfl
theorem preH_iff : ∀ p k : Bs, (!Op.bytesLess k p && lessO k (preH p)) = p.isPrefixOf k
  | [], k => by cases k <;> rfl
  | c :: r, [] => by simp [Op.bytesLess]
  | c :: r, d :: k => by
    have ih := preH_iff r k
    rw [List.isPrefixOf_cons_cons, ← ih, preH_cons]
    clear ih
    generalize preH r = q
    cases q with
    | some h =>
      simp only [less_cons, lessO]
      by_cases h1 : d < c
      · have h2 : ¬ c = d := by rintro rfl; exact UInt8.lt_irrefl _ h1
        simp [h1, h2]
      · by_cases h2 : d = c
        · subst h2; simp [UInt8.lt_irrefl]
        · have h3 : (c == d) = false := by simpa using (fun e => h2 e.symm : ¬ c = d)
          have h4 : (d == c) = false := by simpa using h2
          simp [h1, h3, h4]
    | none =>
      by_cases hc : c = 255
      · subst hc
        simp only [less_cons, ↓reduceIte, lessO]
        by_cases h2 : d = 255
        · subst h2; simp [UInt8.lt_irrefl]
        · have h1 : d < 255 := by
            rcases UInt8.le_total d 255 with h | h
            · exact UInt8.lt_of_le_of_ne h h2
            · exact absurd (UInt8.lt_of_le_of_ne h (fun e => h2 e.symm)) (u8_255 d)
          have h3 : ¬ (255 : UInt8) = d := fun e => h2 e.symm
          simp [h1, h3]
      · simp only [if_neg hc, less_cons, less_nil, lessO]
        have hs := u8_succ (d := d) hc
        by_cases h1 : d < c
        · have h2 : ¬ c = d := by rintro rfl; exact UInt8.lt_irrefl _ h1
          simp [h1, h2]
        · by_cases h2 : d = c
          · subst h2; simp [UInt8.lt_irrefl, hs]
          · have h3 : ¬ c = d := fun e => h2 e.symm
            have h4 : ¬ d < c + 1 := fun h => h1 (UInt8.lt_of_le_of_ne (hs.1 h) h2)
            have h5 : (c == d) = false := by simpa using h3
            have h6 : (d == c) = false := by simpa using h2
            simp [h1, h4, h5, h6]
/-- A prefix has the keys that begin with it. -/
theorem prefix_has (p k : Bs) : hasB (p, preT p) k = p.isPrefixOf k := by
  rw [← preH_iff]
  unfold hasB preT
  cases h : preH p with
  | none => simp [lessO]
  | some t =>
    have : t.isEmpty = false := by simpa using preH_ne h
    simp [this, lessO]
theorem preH_full (m : Nat) : preH (List.replicate m 255) = none := by
  induction m with
  | zero => rfl
  | succ m ih => rw [List.replicate_succ, preH, ih]; simp
theorem preH_app (a : Bs) (c : UInt8) (m : Nat) (hc : ¬ c = 255) : preH (a ++ c :: List.replicate m 255) = some (a ++ [c + 1]) := by
  induction a with
  | nil => rw [List.nil_append, preH, preH_full]; simp [hc]
  | cons x a ih => rw [List.cons_append, preH, ih]; rfl
theorem prefix_self (p : Bs) : p.isPrefixOf p = true := by induction p with
  | nil => rfl
  | cons a r ih => simp
theorem prefix_nonempty (p : Bs) : emptyB (p, preT p) = false := by
  refine has_nonempty (k := p) ((hasB_iff _ _).1 ?_)
  rw [prefix_has]; exact prefix_self p

/-- A span of one key has it alone. -/
theorem one_has (p k : Bs) : hasB (p, p ++ [0]) k = (k == p) := by
  have : ∀ p k : Bs, (!Op.bytesLess k p && Op.bytesLess k (p ++ [0])) = (k == p) := by
    intro p
    induction p with
    | nil =>
      intro k
      cases k with
      | nil => rfl
      | cons a k =>
        have : ¬ a < 0 := by intro h; have : a.toNat < (0 : UInt8).toNat := h; exact absurd this (by simp)
        simp [less_cons, less_nil, this, Op.bytesLess]
    | cons c p ih =>
      intro k
      cases k with
      | nil => simp [Op.bytesLess]
      | cons a k =>
        have ih := ih k
        rw [List.cons_append, less_cons, less_cons]
        show _ = (a == c && k == p)
        rw [← ih]
        by_cases h1 : a < c
        · have h2 : ¬ a = c := by rintro rfl; exact UInt8.lt_irrefl _ h1
          simp [h1, h2]
        · by_cases h2 : a = c
          · subst h2; simp [UInt8.lt_irrefl]
          · have h3 : (a == c) = false := by simpa using h2
            simp [h1, h3]
  unfold hasB
  rw [← this p k]
  have h0 : (p ++ [(0 : UInt8)]).isEmpty = false := by simp
  simp only [h0, Bool.false_or]
theorem one_nonempty (p : Bs) : emptyB (p, p ++ [0]) = false := by
  refine has_nonempty (k := p) ((hasB_iff _ _).1 ?_)
  rw [one_has]; simp

/-- Where two spans meet. -/
def noneS : Sp := ([97], [97])
def meetS (a b : Sp) : Sp :=
  let s : Sp := (if ltP (keyP a.1) (keyP b.1) then b.1 else a.1, if ltP (hiP b.2) (hiP a.2) then b.2 else a.2)
  if emptyB s then noneS else s
theorem not_has_empty {s : Sp} (h : emptyB s = true) (k : Bs) : ¬ HasS s k := fun hk => by rw [has_nonempty hk] at h; cases h
theorem noneS_empty : emptyB noneS = true := by decide
theorem meet_has (a b : Sp) (k : Bs) : HasS (meetS a b) k ↔ HasS a k ∧ HasS b k := by
  have key : HasS (if ltP (keyP a.1) (keyP b.1) then b.1 else a.1, if ltP (hiP b.2) (hiP a.2) then b.2 else a.2) k ↔ HasS a k ∧ HasS b k := by
    unfold HasS
    by_cases h1 : ltP (keyP a.1) (keyP b.1) = true
    · have h1' := (ltP_iff _ _).1 h1
      by_cases h2 : ltP (hiP b.2) (hiP a.2) = true
      · have h2' := (ltP_iff _ _).1 h2
        rw [if_pos h1, if_pos h2]; grind
      · have h2' := (ltP_false _ _).1 (by simpa using h2)
        rw [if_pos h1, if_neg h2]; grind
    · have h1' := (ltP_false _ _).1 (by simpa using h1)
      by_cases h2 : ltP (hiP b.2) (hiP a.2) = true
      · have h2' := (ltP_iff _ _).1 h2
        rw [if_neg h1, if_pos h2]; grind
      · have h2' := (ltP_false _ _).1 (by simpa using h2)
        rw [if_neg h1, if_neg h2]; grind
  unfold meetS
  simp only
  by_cases he : emptyB (if ltP (keyP a.1) (keyP b.1) then b.1 else a.1, if ltP (hiP b.2) (hiP a.2) then b.2 else a.2) = true
  · rw [if_pos he, ← key]
    exact ⟨fun h => absurd h (not_has_empty noneS_empty k), fun h => absurd h (not_has_empty he k)⟩
  · rw [if_neg he]; exact key
theorem meet_hasB (a b : Sp) (k : Bs) : hasB (meetS a b) k = (hasB a k && hasB b k) := by
  rw [Bool.eq_iff_iff, hasB_iff, meet_has, Bool.and_eq_true, hasB_iff, hasB_iff]
/-- Covering. -/
def coversB (a b : Sp) : Bool := emptyB b || (!ltP (keyP b.1) (keyP a.1) && !ltP (hiP a.2) (hiP b.2))
end Go.Proofs.YtmbfghbhajmpiaaGreat
namespace Go.Proofs.YtmbfghbhajmpiaaGreat

/-- A pair: key, value, stamp. -/
abbrev Pr := Bs × Bs × Int
/-- In the order of keys. -/
def Srt (t : List Pr) : Prop := t.Pairwise (fun x y => Op.bytesLess x.1 y.1 = true)
def ltK (k : Bs) (x : Pr) : Bool := Op.bytesLess x.1 k
def rangeS (s : Sp) (t : List Pr) : List Pr := t.filter fun x => hasB s x.1
def delS (k : Bs) (t : List Pr) : List Pr := t.filter fun x => !(x.1 == k)
def putS (p : Pr) (t : List Pr) : List Pr := t.filter (fun x => Op.bytesLess x.1 p.1) ++ p :: t.filter (fun x => Op.bytesLess p.1 x.1)
theorem srt_nil : Srt [] := List.Pairwise.nil
theorem srt_cons {x : Pr} {t : List Pr} : Srt (x :: t) ↔ (∀ y ∈ t, Op.bytesLess x.1 y.1 = true) ∧ Srt t := List.pairwise_cons
theorem srt_filter {t : List Pr} (f : Pr → Bool) (h : Srt t) : Srt (t.filter f) := h.filter f
theorem less_asymm {a b : Bs} (h : Op.bytesLess a b = true) : Op.bytesLess b a = false := by
  cases e : Op.bytesLess b a with
  | false => rfl
  | true => have := less_trans a b a h e; rw [less_irrefl] at this; cases this
theorem less_ne {a b : Bs} (h : Op.bytesLess a b = true) : a ≠ b := by
  rintro rfl; rw [less_irrefl] at h; cases h
theorem ne_less {a b : Bs} (h : a ≠ b) : Op.bytesLess a b = true ∨ Op.bytesLess b a = true := by
  cases e : Op.bytesLess a b with
  | true => exact .inl rfl
  | false => cases e2 : Op.bytesLess b a with
    | true => exact .inr rfl
    | false => exact absurd (less_total a b e e2) h
theorem le_less_trans {a b c : Bs} (h : Op.bytesLess b a = false) (k : Op.bytesLess b c = true) : Op.bytesLess a c = true := by
  cases e : Op.bytesLess a b with
  | true => exact less_trans a b c e k
  | false => rw [less_total a b e h]; exact k

theorem mem_range (s : Sp) (t : List Pr) (x : Pr) : x ∈ rangeS s t ↔ x ∈ t ∧ hasB s x.1 = true := by unfold rangeS; exact List.mem_filter
theorem mem_put (p : Pr) (t : List Pr) (x : Pr) : x ∈ putS p t ↔ x = p ∨ (x ∈ t ∧ x.1 ≠ p.1) := by
  unfold putS
  simp only [List.mem_append, List.mem_filter, List.mem_cons]
  constructor
  · rintro (⟨h1, h2⟩ | h | ⟨h1, h2⟩)
    · exact .inr ⟨h1, less_ne h2⟩
    · exact .inl h
    · exact .inr ⟨h1, fun e => less_ne h2 e.symm⟩
  · rintro (h | ⟨h1, h2⟩)
    · exact .inr (.inl h)
    · rcases ne_less h2 with h | h
      · exact .inl ⟨h1, h⟩
      · exact .inr (.inr ⟨h1, h⟩)
theorem srt_put (p : Pr) {t : List Pr} (h : Srt t) : Srt (putS p t) := by
  unfold putS Srt
  rw [List.pairwise_append]
  refine ⟨srt_filter _ h, srt_cons.2 ⟨fun y hy => (List.mem_filter.1 hy).2, srt_filter _ h⟩, fun x hx y hy => ?_⟩
  have hx2 := (List.mem_filter.1 hx).2
  rcases List.mem_cons.1 hy with rfl | hy
  · exact hx2
  · exact less_trans _ _ _ hx2 (List.mem_filter.1 hy).2
theorem put_length (p : Pr) (t : List Pr) : (putS p t).length ≤ t.length + 1 := by
  induction t with
  | nil => simp [putS]
  | cons x t ih =>
    unfold putS at *
    simp only [List.length_append, List.length_cons, List.filter_cons] at *
    cases h1 : Op.bytesLess x.1 p.1 with
    | true => rw [less_asymm h1]; simp; omega
    | false => cases h2 : Op.bytesLess p.1 x.1 <;> simp <;> omega
/-- Where a key stands. -/
def placeS (t : List Pr) (k : Bs) : Nat := t.countP (ltK k)
/-- Of a table, the search's test stays true. -/
theorem place_test {t : List Pr} (h : Srt t) (k : Bs) (i j : Nat) (hij : i ≤ j) (hj : j < t.length) (hi : (!Op.bytesLess (t[i]'(by omega)).1 k) = true) : (!Op.bytesLess t[j].1 k) = true := by
  rcases Nat.eq_or_lt_of_le hij with rfl | hlt
  · exact hi
  · have h1 := (List.pairwise_iff_getElem.1 h) i j (by omega) hj hlt
    rw [Bool.not_eq_true'] at *
    cases e : Op.bytesLess t[j].1 k with
    | false => rfl
    | true => have := less_trans _ _ _ h1 e; rw [hi] at this; cases this
theorem place_count (t : List Pr) (k : Bs) : (List.range t.length).countP (fun i => !(!Op.bytesLess (t[i]?.getD ([], [], 0)).1 k)) = placeS t k := by
  have h : t = (List.range t.length).map (fun i => t[i]?.getD ([], [], 0)) := by
    apply List.ext_getElem
    · simp
    · intro i h1 h2; simp [h1]
  unfold placeS
  conv => rhs; rw [h]
  rw [List.countP_map]
  congr 1
  funext i
  simp [ltK]

/-- The span of one key. -/
def oneS (k : Bs) : Sp := (k, k ++ [0])
/-- Whether a list is a table. -/
def validB : List Pr → Bool
  | [] => true
  | [_] => true
  | x :: y :: r => Op.bytesLess x.1 y.1 && validB (y :: r)
theorem validB_iff : ∀ t : List Pr, validB t = true ↔ Srt t
  | [] => by simp [validB, srt_nil]
  | [x] => by simp [validB, Srt]
  | x :: y :: r => by
    rw [validB, Bool.and_eq_true, validB_iff (y :: r), srt_cons (x := x)]
    constructor
    · rintro ⟨h1, h2⟩
      refine ⟨fun z hz => ?_, h2⟩
      rcases List.mem_cons.1 hz with rfl | hz
      · exact h1
      · exact less_trans _ _ _ h1 ((srt_cons.1 h2).1 z hz)
    · rintro ⟨h1, h2⟩
      exact ⟨h1 y (by simp), h2⟩
theorem validB_bad {t : List Pr} (i : Nat) (h : i + 1 < t.length) (hb : Op.bytesLess (t[i]'(by omega)).1 t[i + 1].1 = false) : validB t = false := by
  cases e : validB t with
  | false => rfl
  | true =>
    have := (List.pairwise_iff_getElem.1 ((validB_iff t).1 e)) i (i + 1) (by omega) h (by omega)
    rw [hb] at this; cases this
theorem validB_take {t : List Pr} (i : Nat) (h : i + 1 < t.length) (hv : Srt (t.take (i + 1))) (hb : Op.bytesLess (t[i]'(by omega)).1 t[i + 1].1 = true) : Srt (t.take (i + 2)) := by
  have e : t.take (i + 2) = t.take (i + 1) ++ [t[i + 1]] := by rw [List.take_add_one, List.getElem?_eq_getElem h]; rfl
  unfold Srt
  rw [e, List.pairwise_append]
  refine ⟨hv, List.pairwise_singleton _ _, fun x hx y hy => ?_⟩
  simp only [List.mem_singleton] at hy
  subst hy
  have e2 : t.take (i + 1) = t.take i ++ [t[i]'(by omega)] := by rw [List.take_add_one, List.getElem?_eq_getElem (by omega)]; rfl
  rw [e2] at hx hv
  rcases List.mem_append.1 hx with hx | hx
  · exact less_trans _ _ _ ((List.pairwise_append.1 hv).2.2 x hx _ (by simp)) hb
  · simp only [List.mem_singleton] at hx; subst hx; exact hb

/-- The reference's Put: from the front, with the mark. -/
def putR (p : Pr) : Bool → List Pr → List Pr
  | d, [] => if d then [] else [p]
  | d, x :: r => (if !d && !Op.bytesLess x.1 p.1 then [p] else []) ++ (if x.1 == p.1 then [] else [x]) ++ putR p (d || !Op.bytesLess x.1 p.1) r
theorem putR_true (p : Pr) : ∀ t, putR p true t = delS p.1 t
  | [] => rfl
  | x :: r => by
    rw [putR, Bool.true_or, putR_true p r]
    unfold delS
    rw [List.filter_cons]
    cases x.1 == p.1 <;> rfl
theorem putR_eq (p : Pr) : ∀ {t : List Pr}, Srt t → putR p false t = putS p t
  | [], _ => rfl
  | x :: r, h => by
    obtain ⟨h1, h2⟩ := srt_cons.1 h
    rw [putR]
    cases e : Op.bytesLess x.1 p.1 with
    | true =>
      rw [Bool.not_true, Bool.and_false, Bool.or_false, putR_eq p h2, show (x.1 == p.1) = false from by simpa using less_ne e]
      unfold putS
      rw [List.filter_cons, List.filter_cons, e, less_asymm e]; rfl
    | false =>
      rw [Bool.not_false, Bool.and_true, Bool.or_true, putR_true]
      unfold putS delS
      have hn : (x :: r).filter (fun y => Op.bytesLess y.1 p.1) = [] := by
        rw [List.filter_eq_nil_iff]; intro y hy
        rcases List.mem_cons.1 hy with rfl | hy
        · rw [e]; simp
        · have := h1 y hy
          cases e2 : Op.bytesLess y.1 p.1 with
          | false => simp
          | true => rw [less_trans _ _ _ this e2] at e; cases e
      rw [hn, List.filter_cons]
      have hr : r.filter (fun y => !(y.1 == p.1)) = r.filter fun y => Op.bytesLess p.1 y.1 := by
        refine List.filter_congr fun y hy => ?_
        rw [le_less_trans e (h1 y hy)]
        have := less_ne (le_less_trans e (h1 y hy))
        simp; exact fun e' => this e'.symm
      rw [hr]
      cases e2 : Op.bytesLess p.1 x.1 with
      | true =>
        rw [show (x.1 == p.1) = false from by simpa using fun e' => less_ne e2 e'.symm]; rfl
      | false => rw [less_total _ _ e e2]; simp

end Go.Proofs.YtmbfghbhajmpiaaGreat
namespace Go.Proofs.YtmbfghbhajmpiaaGreat
set_option linter.unusedVariables false

end Go.Proofs.YtmbfghbhajmpiaaGreat
namespace Go.Proofs.YtmbfghbhajmpiaaGreat
set_option linter.unusedVariables false

/-- A message. -/
structure Ms where
  kind : Int
  key : Bs
  val : Bs
  lo : Bs
  hi : Bs
  src : Bs
  dst : Bs
  n : Int
def Ms.one (m : Ms) : Int × Bs × Bs × Int := (m.kind, m.key, m.val, m.n)
def Ms.two (m : Ms) : Bs × Bs × Bs × Bs := (m.lo, m.hi, m.src, m.dst)
theorem Ms.ext' {a b : Ms} (h : a.one = b.one) (k : a.two = b.two) : a = b := by
  cases a; cases b; simp [Ms.one] at h; simp [Ms.two] at k; simp [h, k]
instance : DecidableEq Ms := fun a b =>
  if h : a.one = b.one then (if k : a.two = b.two then .isTrue (Ms.ext' h k) else .isFalse fun e => k (by rw [e])) else .isFalse fun e => h (by rw [e])
/-- A message of a kind, without fields. -/
def zeroM (k : Int) : Ms := ⟨k, [], [], [], [], [], [], 0⟩
/-- A message without the fields of its kind. -/
def bareM (m : Ms) : Ms :=
  if m.kind = 1 then { m with key := [], val := [], n := 0 }
  else if m.kind = 2 then { m with key := [] }
  else if m.kind = 3 then { m with lo := [], hi := [] }
  else if m.kind = 4 then { m with src := [], dst := [] }
  else if m.kind = 5 then { m with src := [], dst := [] }
  else if m.kind = 6 then { m with lo := [], hi := [], n := 0 }
  else m
def keyB (k : Bs) : Bool := decide (1 ≤ k.length ∧ k.length ≤ 65535)
def stampB (n : Int) : Bool := decide (0 ≤ n ∧ n ≤ 1000000000)
def spanB (lo hi : Bs) : Bool := !emptyB (lo, hi) && (decide (lo.length ≤ 65535) && decide (hi.length ≤ 65535))
def frontB (p : Bs) : Bool := decide (1 ≤ p.length ∧ p.length ≤ 200)
def apartB (a b : Bs) : Bool := frontB a && (frontB b && (!b.isPrefixOf a && !a.isPrefixOf b))
/-- The fields of the kind are in their ranges. -/
def fitsB (m : Ms) : Bool :=
  if m.kind = 1 then keyB m.key && (decide (m.val.length ≤ 64) && stampB m.n)
  else if m.kind = 2 then keyB m.key
  else if m.kind = 3 then spanB m.lo m.hi
  else if m.kind = 4 then apartB m.src m.dst
  else if m.kind = 5 then apartB m.src m.dst
  else if m.kind = 6 then spanB m.lo m.hi && stampB m.n
  else false
def validM (m : Ms) : Bool := fitsB m && decide (bareM m = zeroM m.kind)

def preS (p : Bs) : Sp := (p, preT p)
def readsS (m : Ms) : List Sp :=
  if m.kind = 4 then [preS m.src] else if m.kind = 5 then [preS m.src] else if m.kind = 6 then [(m.lo, m.hi)] else []
def writesS (m : Ms) : List Sp :=
  if m.kind = 1 then [oneS m.key] else if m.kind = 2 then [oneS m.key] else if m.kind = 3 then [(m.lo, m.hi)]
  else if m.kind = 4 then [preS m.src, preS m.dst] else if m.kind = 5 then [preS m.dst] else if m.kind = 6 then [(m.lo, m.hi)] else []
/-- Bytes. -/
def numF (l : Bs) : Nat := l.foldl (fun n c => 256 * n + c.toNat) 0
def bytesN : Nat → Nat → Bs
  | 0, _ => []
  | k + 1, n => bytesN k (n / 256) ++ [(n % 256).toUInt8]
def textB (s : Bs) : Bs := bytesN 2 s.length ++ s
def fieldsT (m : Ms) : List Bs :=
  if m.kind = 1 then [m.key, m.val] else if m.kind = 2 then [m.key] else if m.kind = 3 then [m.lo, m.hi]
  else if m.kind = 4 then [m.src, m.dst] else if m.kind = 5 then [m.src, m.dst] else if m.kind = 6 then [m.lo, m.hi] else []
def fieldsN (m : Ms) : List Int := if m.kind = 1 then [m.n] else if m.kind = 6 then [m.n] else []
def bytesM (m : Ms) : Bs := if validM m then bytesN 1 m.kind.toNat ++ (fieldsT m).flatMap textB ++ (fieldsN m).flatMap (fun n => bytesN 4 n.toNat) else []

theorem kind_cases (m : Ms) (h : validM m = true) : m.kind = 1 ∨ m.kind = 2 ∨ m.kind = 3 ∨ m.kind = 4 ∨ m.kind = 5 ∨ m.kind = 6 := by
  unfold validM fitsB at h
  by_cases h1 : m.kind = 1
  · exact .inl h1
  by_cases h2 : m.kind = 2
  · exact .inr (.inl h2)
  by_cases h3 : m.kind = 3
  · exact .inr (.inr (.inl h3))
  by_cases h4 : m.kind = 4
  · exact .inr (.inr (.inr (.inl h4)))
  by_cases h5 : m.kind = 5
  · exact .inr (.inr (.inr (.inr (.inl h5))))
  by_cases h6 : m.kind = 6
  · exact .inr (.inr (.inr (.inr (.inr h6))))
  rw [if_neg h1, if_neg h2, if_neg h3, if_neg h4, if_neg h5, if_neg h6] at h
  simp at h

end Go.Proofs.YtmbfghbhajmpiaaGreat
namespace Go.Proofs.YtmbfghbhajmpiaaGreat
set_option linter.unusedVariables false

end Go.Proofs.YtmbfghbhajmpiaaGreat
