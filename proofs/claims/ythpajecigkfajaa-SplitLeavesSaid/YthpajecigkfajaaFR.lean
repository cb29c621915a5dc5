/-
  Plain functions: what the reference's Norm and Minus of spans compute, dead keys, folding. Walks: append of spans, the reference's insertion of a span, its Norm and its Minus.
-/
import Derived.Test.YthpajecigkfajaaPL
import Derived.Test.YthpajecigkfajaaMRR
import Derived.Test.YthpajecigkfajaaKB
import Derived.Test.YthpajecigkfajaaMFG
import Derived.Laws.OwnMore
import Derived.Deep.RegionLawGrows
import Derived.Deep.CutRange
namespace Go.Proofs.Ythpajecigkfajaa
set_option linter.unusedVariables false
/-! ### The reference's Norm -/
/-- The spans with one more, by where it begins, unless that is done. -/
def insR (s : Sp) : Bool → List Sp → List Sp
  | d, [] => if d then [] else [s]
  | d, x :: r => if !d && Op.bytesLess s.1 x.1 then s :: x :: insR s true r else x :: insR s d r
theorem insR_true (s : Sp) : ∀ l, insR s true l = l
  | [] => rfl
  | x :: r => by rw [insR, insR_true s r]; simp
theorem insR_length (s : Sp) : ∀ (d : Bool) (l : List Sp), (insR s d l).length ≤ l.length + 1
  | d, [] => by rw [insR]; split <;> simp
  | d, x :: r => by
    rw [insR]
    split
    · rw [insR_true]; simp
    · have := insR_length s d r; simp; omega
theorem insR_mem (s : Sp) : ∀ (l : List Sp) (x : Sp), x ∈ insR s false l ↔ x = s ∨ x ∈ l
  | [], x => by simp [insR]
  | y :: r, x => by
    rw [insR]
    split
    · rw [insR_true]; simp
    · rw [List.mem_cons, insR_mem s r, List.mem_cons]
      constructor
      · rintro (h | h | h)
        · exact .inr (.inl h)
        · exact .inl h
        · exact .inr (.inr h)
      · rintro (h | h | h)
        · exact .inr (.inl h)
        · exact .inl h
        · exact .inr (.inr h)
/-- In order of where they begin. -/
def LoS (l : List Sp) : Prop := l.Pairwise fun x y => keyP x.1 ≤ keyP y.1
theorem insR_lo (s : Sp) : ∀ {l : List Sp}, LoS l → LoS (insR s false l)
  | [], _ => by simp [insR, LoS]
  | y :: r, h => by
    obtain ⟨h1, h2⟩ := List.pairwise_cons.1 h
    rw [insR]
    cases hb : Op.bytesLess s.1 y.1 with
    | true =>
      rw [if_pos (by rfl), insR_true]
      have hlt : keyP s.1 < keyP y.1 := hb
      refine List.pairwise_cons.2 ⟨fun z hz => ?_, h⟩
      rcases List.mem_cons.1 hz with rfl | hz
      · grind
      · have := h1 z hz; grind
    | false =>
      rw [if_neg (by simp)]
      have hle : keyP y.1 ≤ keyP s.1 := hb
      refine List.pairwise_cons.2 ⟨fun z hz => ?_, insR_lo s h2⟩
      rcases (insR_mem s r z).1 hz with rfl | hz
      · exact hle
      · exact h1 z hz
/-- The spans that are not empty, in order. -/
def sortR (l : List Sp) : List Sp := l.foldl (fun a s => insR s (emptyB s) a) []
theorem sortR_snoc (l : List Sp) (s : Sp) : sortR (l ++ [s]) = insR s (emptyB s) (sortR l) := by simp [sortR]
theorem sortR_spec (l : List Sp) : LoS (sortR l) ∧ (∀ s ∈ sortR l, emptyB s = false) ∧ (∀ k, InL (sortR l) k ↔ InL l k) ∧ (sortR l).length ≤ l.length := by
  suffices H : ∀ n, n ≤ l.length → LoS (sortR (l.take n)) ∧ (∀ s ∈ sortR (l.take n), emptyB s = false) ∧ (∀ k, InL (sortR (l.take n)) k ↔ InL (l.take n) k) ∧ (sortR (l.take n)).length ≤ n by
    have := H l.length (Nat.le_refl _)
    rwa [List.take_length] at this
  intro n
  induction n with
  | zero => intro _; refine ⟨by simp [sortR, LoS], by simp [sortR], fun k => by simp [sortR], by simp [sortR]⟩
  | succ n ih =>
    intro hn
    obtain ⟨h1, h2, h3, h4⟩ := ih (by omega)
    have e : l.take (n + 1) = l.take n ++ [l[n]] := by rw [List.take_add_one, List.getElem?_eq_getElem (by omega)]; rfl
    rw [e, sortR_snoc]
    generalize l[n] = s
    cases he : emptyB s with
    | true =>
      rw [insR_true]
      refine ⟨h1, h2, fun k => ?_, by omega⟩
      rw [h3 k, InL_append, InL_cons]
      constructor
      · exact fun h => .inl h
      · rintro (h | h | h)
        · exact h
        · exact absurd h (not_has_empty he k)
        · exact absurd h (InL_nil k)
    | false =>
      refine ⟨insR_lo s h1, fun x hx => ?_, fun k => ?_, by have := insR_length s false (sortR (l.take n)); omega⟩
      · rcases (insR_mem s _ x).1 hx with rfl | hx
        · exact he
        · exact h2 x hx
      · have : InL (insR s false (sortR (l.take n))) k ↔ HasS s k ∨ InL (sortR (l.take n)) k := by
          unfold InL
          constructor
          · rintro ⟨x, hx, hk⟩
            rcases (insR_mem s _ x).1 hx with rfl | hx
            · exact .inl hk
            · exact .inr ⟨x, hx, hk⟩
          · rintro (hk | ⟨x, hx, hk⟩)
            · exact ⟨s, (insR_mem s _ s).2 (.inl rfl), hk⟩
            · exact ⟨x, (insR_mem s _ x).2 (.inr hx), hk⟩
        rw [this, h3 k, InL_append, InL_cons]
        have := InL_nil k
        constructor
        · rintro (h | h)
          · exact .inr (.inl h)
          · exact .inl h
        · rintro (h | h | h)
          · exact .inr h
          · exact .inl h
          · exact absurd h this
def apartS (a b : Sp) : Bool := !a.2.isEmpty && Op.bytesLess a.2 b.1
def growS (a b : Sp) : Sp := if ltP (hiP a.2) (hiP b.2) then (a.1, b.2) else a
theorem apartS_iff (a b : Sp) : apartS a b = true ↔ hiP a.2 < keyP b.1 := by
  unfold apartS
  cases h : a.2 with
  | nil =>
    rw [hiP_nil]
    simp only [List.isEmpty_nil, Bool.not_true, Bool.false_and, Bool.false_eq_true, false_iff]
    exact top_max _
  | cons x r => rw [hiP_ne (by simp)]; simp; exact Iff.rfl
/-- What is open, and the spans that follow. -/
def glue (c : Sp) : List Sp → List Sp
  | [] => [c]
  | s :: r => if apartS c s then c :: glue s r else glue (growS c s) r
def normR (l : List Sp) : List Sp := match sortR l with | [] => [] | c :: r => glue c r
theorem glue_first (c : Sp) : ∀ (r : List Sp) (c : Sp), LoS (c :: r) → ∀ t ∈ glue c r, keyP c.1 ≤ keyP t.1
  | [], c, _, t, ht => by simp [glue] at ht; subst ht; grind
  | s :: r, c, h, t, ht => by
    obtain ⟨h1, h2⟩ := List.pairwise_cons.1 h
    rw [glue] at ht
    split at ht
    · rcases List.mem_cons.1 ht with rfl | ht
      · grind
      · have a1 := glue_first c r s h2 t ht
        have a2 := h1 s (by simp)
        grind
    · have e : (growS c s).1 = c.1 := by unfold growS; split <;> rfl
      have hl : LoS (growS c s :: r) := List.pairwise_cons.2 ⟨fun z hz => by rw [e]; exact h1 z (by simp [hz]), (List.pairwise_cons.1 h2).2⟩
      have := glue_first c r _ hl t ht
      rw [e] at this
      exact this
theorem glue_spec : ∀ (r : List Sp) (c : Sp), emptyB c = false → (∀ s ∈ r, emptyB s = false) → LoS (c :: r) → Nrm (glue c r) ∧ ∀ k, InL (glue c r) k ↔ InL (c :: r) k
  | [], c, hc, _, _ => ⟨⟨hc, by simp, trivial⟩, fun k => Iff.rfl⟩
  | s :: r, c, hc, hr, h => by
    obtain ⟨h1, h2⟩ := List.pairwise_cons.1 h
    have hcs := h1 s (by simp)
    have hs := hr s (by simp)
    rw [glue]
    cases ha : apartS c s with
    | true =>
      rw [if_pos rfl]
      obtain ⟨n1, n2⟩ := glue_spec r s hs (fun x hx => hr x (by simp [hx])) h2
      have hlt := (apartS_iff c s).1 ha
      refine ⟨⟨hc, fun t ht => ?_, n1⟩, fun k => ?_⟩
      · have := glue_first c r s h2 t ht
        grind
      · rw [InL_cons, InL_cons c, n2 k]
    | false =>
      rw [if_neg (by simp)]
      have hle : keyP s.1 ≤ hiP c.2 := by
        have : ¬ hiP c.2 < keyP s.1 := fun h => by rw [(apartS_iff c s).2 h] at ha; cases ha
        grind
      have e : (growS c s).1 = c.1 := by unfold growS; split <;> rfl
      have hcn := (emptyB_no c).1 hc
      have hsn := (emptyB_no s).1 hs
      have hne : emptyB (growS c s) = false := by
        rw [emptyB_no, e]
        unfold growS
        split
        · rename_i hh; have hh : hiP c.2 < hiP s.2 := hh; grind
        · exact hcn
      have hl : LoS (growS c s :: r) := List.pairwise_cons.2 ⟨fun z hz => by rw [e]; exact h1 z (by simp [hz]), (List.pairwise_cons.1 h2).2⟩
      obtain ⟨n1, n2⟩ := glue_spec r (growS c s) hne (fun x hx => hr x (by simp [hx])) hl
      refine ⟨n1, fun k => ?_⟩
      rw [n2 k, InL_cons, InL_cons, InL_cons]
      have hk : HasS (growS c s) k ↔ HasS c k ∨ HasS s k := by
        unfold HasS
        rw [e]
        unfold growS
        split
        · rename_i hh
          have hh : hiP c.2 < hiP s.2 := hh
          constructor
          · rintro ⟨a, b⟩
            by_cases hk : keyP k < hiP c.2
            · exact .inl ⟨a, hk⟩
            · exact .inr ⟨by grind, b⟩
          · rintro (⟨a, b⟩ | ⟨a, b⟩)
            · exact ⟨a, by grind⟩
            · exact ⟨by grind, b⟩
        · rename_i hh
          have hh : hiP s.2 ≤ hiP c.2 := by have : ¬ hiP c.2 < hiP s.2 := hh; grind
          constructor
          · exact fun h => .inl h
          · rintro (h | ⟨a, b⟩)
            · exact h
            · exact ⟨by grind, by grind⟩
      rw [hk, or_assoc]
theorem normR_eq (l : List Sp) : normR l = normS l := by
  obtain ⟨h1, h2, h3, -⟩ := sortR_spec l
  refine (norm_of ?_ ?_).symm
  · unfold normR
    cases hs : sortR l with
    | nil => trivial
    | cons c r =>
      rw [hs] at h1 h2
      exact (glue_spec r c (h2 c (by simp)) (fun s h => h2 s (by simp [h])) h1).1
  · intro k
    rw [← h3 k]
    unfold normR
    cases hs : sortR l with
    | nil => exact Iff.rfl
    | cons c r =>
      rw [hs] at h1 h2
      exact (glue_spec r c (h2 c (by simp)) (fun s h => h2 s (by simp [h])) h1).2 k
/-! ### The reference's Minus -/
def cutR (s x : Sp) : List Sp := (if s.1 = [] then [] else [meetS x ([], s.1)]) ++ (if s.2 = [] then [] else [meetS x (s.2, [])])
def minusStep (left : List Sp) (s : Sp) : List Sp := if emptyB s then left else normS (left.flatMap (cutR s))
def minusR (l m : List Sp) : List Sp := m.foldl minusStep (normS l)
theorem InL_flat (f : Sp → List Sp) (l : List Sp) (k : Bs) : InL (l.flatMap f) k ↔ ∃ x ∈ l, InL (f x) k := by
  unfold InL
  constructor
  · rintro ⟨s, hs, hk⟩
    obtain ⟨x, hx, hs⟩ := List.mem_flatMap.1 hs
    exact ⟨x, hx, s, hs, hk⟩
  · rintro ⟨x, hx, s, hs, hk⟩
    exact ⟨s, List.mem_flatMap.2 ⟨x, hx, hs⟩, hk⟩
theorem cutR_in (s x : Sp) (k : Bs) : InL (cutR s x) k ↔ HasS x k ∧ ¬ HasS s k := by
  unfold cutR
  rw [InL_append]
  have a : InL (if s.1 = [] then [] else [meetS x ([], s.1)]) k ↔ HasS x k ∧ keyP k < keyP s.1 := by
    split
    · rename_i h
      refine ⟨fun h => absurd h (InL_nil k), fun ⟨_, hk⟩ => ?_⟩
      rw [h] at hk
      have := keyP_nil k
      grind
    · rename_i h
      rw [InL_cons, meet_has]
      have : HasS ([], s.1) k ↔ keyP k < keyP s.1 := by
        unfold HasS
        show keyP [] ≤ keyP k ∧ keyP k < hiP s.1 ↔ _
        rw [hiP_ne h]
        have := keyP_nil k
        simp [this]
      rw [this]
      have := InL_nil k
      simp [this]
  have b : InL (if s.2 = [] then [] else [meetS x (s.2, [])]) k ↔ HasS x k ∧ hiP s.2 ≤ keyP k := by
    split
    · rename_i h
      refine ⟨fun h => absurd h (InL_nil k), fun ⟨_, hk⟩ => ?_⟩
      rw [h, hiP_nil] at hk
      have := keyP_top k
      grind
    · rename_i h
      rw [InL_cons, meet_has]
      have : HasS (s.2, []) k ↔ hiP s.2 ≤ keyP k := by
        unfold HasS
        show keyP s.2 ≤ keyP k ∧ keyP k < hiP [] ↔ _
        rw [hiP_ne h, hiP_nil]
        have := keyP_top k
        simp [this]
      rw [this]
      have := InL_nil k
      simp [this]
  rw [a, b]
  unfold HasS
  constructor
  · rintro (⟨h1, h2⟩ | ⟨h1, h2⟩)
    · exact ⟨h1, fun h => by have := h.1; grind⟩
    · exact ⟨h1, fun h => by have := h.2; grind⟩
  · rintro ⟨h1, h2⟩
    by_cases h : keyP k < keyP s.1
    · exact .inl ⟨h1, h⟩
    · refine .inr ⟨h1, ?_⟩
      have : ¬ keyP k < hiP s.2 := fun h3 => h2 ⟨by grind, h3⟩
      grind
theorem minusStep_eq (l m : List Sp) (s : Sp) : minusStep (minusS l m) s = minusS l (m ++ [s]) := by
  have hin : ∀ k, InL (m ++ [s]) k ↔ InL m k ∨ HasS s k := fun k => by
    rw [InL_append, InL_cons]; have := InL_nil k; simp [this]
  unfold minusStep
  cases he : emptyB s with
  | true =>
    rw [if_pos rfl]
    refine (minus_of (minus_nrm l m) fun k => ?_).symm
    rw [minus_in, hin k]
    have := not_has_empty he k
    simp [this]
  | false =>
    rw [if_neg (by simp)]
    refine (minus_of (norm_nrm _) fun k => ?_).symm
    rw [norm_in, InL_flat, hin k]
    constructor
    · rintro ⟨x, hx, hk⟩
      obtain ⟨h1, h2⟩ := (cutR_in s x k).1 hk
      obtain ⟨h3, h4⟩ := (minus_in l m k).1 ⟨x, hx, h1⟩
      exact ⟨h3, fun h => h.elim h4 h2⟩
    · rintro ⟨h1, h2⟩
      obtain ⟨x, hx, hk⟩ := (minus_in l m k).2 ⟨h1, fun h => h2 (.inl h)⟩
      exact ⟨x, hx, (cutR_in s x k).2 ⟨hk, fun h => h2 (.inr h)⟩⟩
theorem minusR_take (l m : List Sp) (n : Nat) (hn : n ≤ m.length) : (m.take n).foldl minusStep (normS l) = minusS l (m.take n) := by
  induction n with
  | zero => rfl
  | succ n ih =>
    have e : m.take (n + 1) = m.take n ++ [m[n]] := by rw [List.take_add_one, List.getElem?_eq_getElem (by omega)]; rfl
    rw [e, List.foldl_append, ih (by omega)]
    exact minusStep_eq l (m.take n) m[n]
theorem minusR_eq (l m : List Sp) : minusR l m = minusS l m := by
  have := minusR_take l m m.length (Nat.le_refl _)
  rwa [List.take_length] at this
/-! ### Folding -/
/-- Some key of the spans is not dead. -/
def liveB (d l : List Sp) : Bool := !(minusS l d).isEmpty
/-- What is dead before a message. -/
def nextD (d : List Sp) (m : Ms) : List Sp := minusS (d ++ killsS m) (readsS m)
/-- Folding, the last message first. -/
def foldB : List Ms → List Sp → List Ms × List Sp
  | [], d => ([], d)
  | m :: r, d => if liveB d (writesS m) then ((foldB r (nextD d m)).1 ++ [m], (foldB r (nextD d m)).2) else foldB r d
def liveS (l : List Ms) (d : List Sp) : List Ms × List Sp := foldB l.reverse (normS d)
def reduceS (l : List Ms) : List Ms := (liveS l []).1
def mergeM (a b : List Ms) : List Ms := reduceS (a ++ b)
theorem normS_nil : normS [] = [] := by decide +kernel
theorem liveB_no {d l : List Sp} (h : liveB d l = false) (k : Bs) (hk : InL l k) : InL d k := by
  unfold liveB at h
  have e : minusS l d = [] := by simpa using h
  by_cases hd : InL d k
  · exact hd
  · have := (minus_in l d k).2 ⟨hk, hd⟩
    rw [e] at this
    exact absurd this (InL_nil k)
theorem liveB_iff (d l : List Sp) : liveB d l = false ↔ ∀ k, InL l k → InL d k := by
  refine ⟨fun h k => liveB_no h k, fun h => ?_⟩
  unfold liveB
  have e : minusS l d = [] := minus_of trivial fun k => ⟨fun hk => absurd hk (InL_nil k), fun ⟨h1, h2⟩ => absurd (h k h1) h2⟩
  rw [e]; rfl
theorem kills_writes (m : Ms) (k : Bs) (h : InL (killsS m) k) : InL (writesS m) k := by
  unfold killsS at h
  split at h
  · exact absurd h (InL_nil k)
  · exact h
/-- Two tables that agree outside of dead keys before agree afterwards outside of those that are dead then. -/
theorem fold_eff : ∀ (l : List Ms) (d : List Sp) (s t : List Pr), Srt s → Srt t →
    (∀ x : Pr, ¬ InL (foldB l.reverse d).2 x.1 → (x ∈ s ↔ x ∈ t)) → ∀ x : Pr, ¬ InL d x.1 → (x ∈ allS l s ↔ x ∈ allS (foldB l.reverse d).1 t) := by
  intro l
  suffices H : ∀ (r : List Ms) (d : List Sp) (s t : List Pr), Srt s → Srt t →
    (∀ x : Pr, ¬ InL (foldB r d).2 x.1 → (x ∈ s ↔ x ∈ t)) → ∀ x : Pr, ¬ InL d x.1 → (x ∈ allS r.reverse s ↔ x ∈ allS (foldB r d).1 t) by
    intro d s t hs ht h
    have := H l.reverse d s t hs ht h
    rwa [List.reverse_reverse] at this
  intro r
  induction r with
  | nil => intro d s t _ _ h x hx; exact h x hx
  | cons m r ih =>
    intro d s t hs ht h x hx
    have hsa : ∀ (l : List Ms) {u : List Pr}, Srt u → Srt (allS l u) := by
      intro l
      induction l with
      | nil => intro u hu; exact hu
      | cons m l ih => intro u hu; exact ih (srt_apply' m hu)
    have e1 : allS (m :: r).reverse s = applyS m (allS r.reverse s) := by simp [allS]
    rw [e1]
    rw [foldB] at h ⊢
    cases hl : liveB d (writesS m) with
    | true =>
      rw [hl, if_pos rfl] at h
      rw [if_pos rfl]
      have e2 : allS ((foldB r (nextD d m)).1 ++ [m]) t = applyS m (allS (foldB r (nextD d m)).1 t) := by simp [allS]
      rw [e2]
      have ha := ih (nextD d m) s t hs ht h
      have sa := hsa r.reverse hs
      have sb := hsa (foldB r (nextD d m)).1 ht
      cases hw : inB (writesS m) x.1 with
      | true =>
        refine apply_in m sa sb (fun y hy => ha y fun hn => ?_) x hw
        exact ((minus_in _ _ _).1 hn).2 ((inB_iff _ _).1 hy)
      | false =>
        rw [apply_out m sa x hw, apply_out m sb x hw]
        refine ha x fun hn => ?_
        rcases (InL_append _ _ _).1 ((minus_in _ _ _).1 hn).1 with h1 | h1
        · exact hx h1
        · have := (inB_iff _ _).2 (kills_writes m _ h1)
          rw [hw] at this; cases this
    | false =>
      rw [hl, if_neg (by simp)] at h
      rw [if_neg (by simp)]
      rw [← ih d s t hs ht h x hx]
      refine apply_out m (hsa r.reverse hs) x ?_
      cases hw : inB (writesS m) x.1 with
      | false => rfl
      | true => exact absurd (liveB_no hl _ ((inB_iff _ _).1 hw)) hx
theorem srt_allS (l : List Ms) : ∀ {u : List Pr}, Srt u → Srt (allS l u) := by
  induction l with
  | nil => intro u hu; exact hu
  | cons m l ih => intro u hu; exact ih (srt_apply' m hu)
theorem reduce_eff (l : List Ms) {t : List Pr} (ht : Srt t) : allS (reduceS l) t = allS l t := by
  refine Srt.unique (srt_allS _ ht) (srt_allS _ ht) fun x => ?_
  have h := fold_eff l (normS []) t t ht ht (fun _ _ => Iff.rfl) x (by rw [normS_nil]; exact InL_nil _)
  exact h.symm
theorem live_eff (l : List Ms) (d : List Sp) {t : List Pr} (ht : Srt t) : withoutS d (allS (liveS l d).1 t) = withoutS d (allS l t) := by
  refine Srt.unique (srt_without _ (srt_allS _ ht)) (srt_without _ (srt_allS _ ht)) fun x => ?_
  rw [mem_without, mem_without]
  constructor
  · rintro ⟨h1, h2⟩
    refine ⟨(fold_eff l (normS d) t t ht ht (fun _ _ => Iff.rfl) x ?_).2 h1, h2⟩
    rw [norm_in, ← inB_iff, h2]; simp
  · rintro ⟨h1, h2⟩
    refine ⟨(fold_eff l (normS d) t t ht ht (fun _ _ => Iff.rfl) x ?_).1 h1, h2⟩
    rw [norm_in, ← inB_iff, h2]; simp
/-- The pairs in spans that are dead in the end do not matter. -/
theorem before_eff (l : List Ms) {s t : List Pr} (hs : Srt s) (ht : Srt t) (h : withoutS (liveS l []).2 s = withoutS (liveS l []).2 t) : allS l s = allS l t ∧ allS (reduceS l) s = allS (reduceS l) t := by
  have hx : ∀ x : Pr, ¬ InL (liveS l []).2 x.1 → (x ∈ s ↔ x ∈ t) := by
    intro x hx
    have h1 : inB (liveS l []).2 x.1 = false := by
      cases e : inB (liveS l []).2 x.1 with
      | false => rfl
      | true => exact absurd ((inB_iff _ _).1 e) hx
    have : x ∈ withoutS (liveS l []).2 s ↔ x ∈ withoutS (liveS l []).2 t := by rw [h]
    rw [mem_without, mem_without] at this
    simpa [h1] using this
  have h0 : ∀ x : Pr, ¬ InL (normS []) x.1 := fun x => by rw [normS_nil]; exact InL_nil _
  have e1 : allS l s = allS (reduceS l) t := Srt.unique (srt_allS _ hs) (srt_allS _ ht) fun x => fold_eff l (normS []) s t hs ht hx x (h0 x)
  refine ⟨by rw [e1, reduce_eff l ht], by rw [reduce_eff l hs, e1]⟩
theorem foldB_sub : ∀ (r : List Ms) (d : List Sp), ((foldB r d).1).Sublist r.reverse
  | [], d => List.Sublist.refl _
  | m :: r, d => by
    rw [foldB, List.reverse_cons]
    split
    · exact (foldB_sub r _).append (List.Sublist.refl _)
    · exact (foldB_sub r d).trans (List.sublist_append_left _ _)
theorem reduce_sub (l : List Ms) : (reduceS l).Sublist l := by
  have := foldB_sub l.reverse (normS [])
  rwa [List.reverse_reverse] at this
theorem foldB_again : ∀ (r : List Ms) (d : List Sp), foldB (foldB r d).1.reverse d = foldB r d
  | [], d => rfl
  | m :: r, d => by
    rw [foldB]
    cases h : liveB d (writesS m) with
    | true =>
      simp only [↓reduceIte, List.reverse_append, List.reverse_cons, List.reverse_nil, List.nil_append, List.singleton_append]
      rw [foldB, h, if_pos rfl, foldB_again r (nextD d m)]
    | false =>
      simp only [Bool.false_eq_true, ↓reduceIte]
      exact foldB_again r d
theorem reduce_again (l : List Ms) : reduceS (reduceS l) = reduceS l := by
  unfold reduceS liveS
  rw [foldB_again]
theorem liveB_nil {l : List Sp} (s : Sp) (hs : s ∈ l) (h : emptyB s = false) : liveB [] l = true := by
  cases e : liveB [] l with
  | true => rfl
  | false => exact absurd (liveB_no e s.1 ⟨s, hs, has_lo h⟩) (InL_nil _)
/-- The last message stays. -/
theorem reduce_last (l : List Ms) (m : Ms) (h : liveB [] (writesS m) = true) : reduceS (l ++ [m]) = (foldB l.reverse (nextD [] m)).1 ++ [m] := by
  unfold reduceS liveS
  rw [List.reverse_append, normS_nil]
  simp only [List.reverse_cons, List.reverse_nil, List.nil_append, List.singleton_append]
  rw [foldB, h, if_pos rfl]
open Go.RowKit Go.Sort
theorem infoS : (Try.prog.info? 57).map (fun i => (i.zero, i.size, i.bytes)) = some (some (.agg #[.string ⟨#[]⟩, .string ⟨#[]⟩]), 2, 32) := by kernel_rfl
theorem flatS_one (l : List Sp) : ∀ u ∈ l.flatMap encS, u.oneCell' = true := by
  intro u hu
  obtain ⟨x, _, hx⟩ := List.mem_flatMap.1 hu
  simp [encS] at hx
  rcases hx with rfl | rfl <;> rfl
theorem flatS_set (T : List Sp) (i : Nat) (s : Sp) : (T.set i s).flatMap encS = ((T.flatMap encS).set (i * 2) (.string (Str s.1))).set (i * 2 + 1) (.string (Str s.2)) ∨ T.length ≤ i := by
  induction T generalizing i with
  | nil => right; simp
  | cons t r ih =>
    have e : ∀ (t : Sp) r, (t :: r).flatMap encS = .string (Str t.1) :: .string (Str t.2) :: r.flatMap encS := fun t r => rfl
    cases i with
    | zero => left; rw [List.set_cons_zero, e, e]; rfl
    | succ i =>
      rcases ih i with h | h
      · left
        rw [List.set_cons_succ, e, e, h]
        have h2 : (i + 1) * 2 = i * 2 + 1 + 1 := by omega
        rw [h2]; rfl
      · right; simp; omega
theorem own_form {w : World} {base n : Nat} {e : TypeId} {v : Value} {xs : List Value} (h : w.ownsRow base e 2 v n xs) : ∃ p cap, v = .slice p n cap ∧ n ≤ cap ∧ cap ≤ maxLen ∧ (0 < n → ∃ g, p = some ⟨g, 0, none⟩) := by
  rcases h.2 with ⟨rfl, h0⟩ | ⟨g, cap, cur, rfl, _, _, hn, hm, _⟩
  · subst h0; exact ⟨none, 0, rfl, Nat.le_refl _, by unfold maxLen; omega, fun h => absurd h (by omega)⟩
  · exact ⟨_, cap, rfl, hn, hm, fun _ => ⟨g, rfl⟩⟩
theorem own_cells {w : World} {base g n cap : Nat} {T : List Sp} (h : w.ownsRow base 57 2 (.slice (some ⟨g, 0, none⟩) n cap) n (T.flatMap encS)) (i : Nat) (hi : i < T.length) :
    w.cell? ⟨g, i * 2, none⟩ = some (.string (Str T[i].1)) ∧ w.cell? ⟨g, i * 2 + 1, none⟩ = some (.string (Str T[i].2)) := by
  have hl := h.1
  rw [flatS_len] at hl
  have f := flatS_get T i hi
  exact ⟨(h.cellAt _ (by omega)).trans f.1, (h.cellAt _ (by omega)).trans f.2⟩
theorem IsSpans.lit (w : World) (a : Option Addr) : IsSpans w (.slice a 0 0) [] := ⟨a, 0, rfl, Nat.le_refl _, by unfold maxLen; omega, fun h => absurd rfl h⟩
theorem sortR_take (l : List Sp) (k : Nat) (h : k < l.length) : sortR (l.take (k + 1)) = insR l[k] (emptyB l[k]) (sortR (l.take k)) := by
  rw [List.take_add_one, List.getElem?_eq_getElem h]; exact sortR_snoc _ _
theorem glue_start (l : List Sp) (k : Nat) (h : k < (sortR l).length) (hk : k = 0) : glue (sortR l)[k] ((sortR l).drop (k + 1)) = normR l := by
  subst hk
  unfold normR
  generalize sortR l = x at *
  cases x with
  | nil => simp at h
  | cons c r => simp
theorem flatS_hi (pre : List Sp) (c1 c2 s2 : Bs) (j : Nat) (hj : pre.length = j) : ((pre ++ [(c1, c2)]).flatMap encS).set (j * 2 + 1) (.string (Str s2)) = (pre ++ [(c1, s2)]).flatMap encS := by
  subst hj
  rw [List.flatMap_append, List.flatMap_append, List.set_append_right _ _ (by rw [flatS_len]; omega), flatS_len]
  rw [show pre.length * 2 + 1 - pre.length * 2 = 1 by omega]
  rfl
theorem step_own {P : Program} {ops : Array Oper} {o : Oper} {a : Act} {w : World} {K : Act → World → Prop} {Q : Exit → Act → World → Prop} {E : Prop}
    (hg : o.guard = none) (s x : Operand) (t : TypeId) (hop : o.op = Op.call { callee := Callee.builtin Builtin.append, args := #[s, x], argTypes := #[t, t] })
    (base : Nat) (e : TypeId) (i : TypeInfo) (z : Value) (size bytes : Nat) (h1 : P.underlying t = some (.slice e)) (h2 : P.info? e = some i) (h3 : i.zero = some z) (h4 : i.size = size) (h5 : i.bytes = bytes) (h6 : z.cells.size = size) (h7 : 0 < size)
    (v : Value) (n : Nat) (xs : List Value) (hs : a.eval s = v) (hown : w.ownsRow base e size v n xs)
    (ad : Addr) (m c : Nat) (news : List Value) (hx : a.eval x = .slice (some ad) m c) (hn : news.length = m * size) (hc : ∀ j u, news[j]? = some u → w.cell? (ad.add j) = some u) (h1c : ∀ u ∈ news, u.oneCell' = true)
    (b1 : n + m ≤ maxLen) (b2 : (n + m) * bytes ≤ 140737488355328) (b3 : base ≤ w.heap.size)
    (hK : ∀ v' w', w'.ownsRow base e size v' (n + m) (xs ++ news) → w.grownBy w' v.ownBlock → K (a.put o.dst v') w') :
    if Region.wanted o (yielded ops a.tmps) = true then Oper.wp P o a w K Q else E := by
  have hw : Region.wanted o (yielded ops a.tmps) = true := by simp [Region.wanted, hg]
  rw [if_pos hw]
  obtain ⟨v', w', hrun, r1, r2, _⟩ := run_append_own (P := P) w base t o.type e i z size bytes h1 h2 h3 h4 h5 h6 h7 v n xs hown ad m c news hn hc h1c b1 b2 b3
  unfold Oper.wp
  simp [execOp, hop, resolve, invoke, builtin, hs, hx, hrun, Result.andThen]
  exact hK v' w' r1 r2
theorem flatC_take {f : Sp → List Sp} (l : List Sp) (k : Nat) (h : k < l.length) : (l.take (k + 1)).flatMap f = (l.take k).flatMap f ++ f l[k] := by
  rw [List.take_add_one, List.getElem?_eq_getElem h, List.flatMap_append]; simp
theorem flat_cut_len (s : Sp) (l : List Sp) : (l.flatMap (cutR s)).length ≤ 2 * l.length := by
  induction l with
  | nil => simp
  | cons x l ih =>
    rw [List.flatMap_cons, List.length_append, List.length_cons]
    have : (cutR s x).length ≤ 2 := by unfold cutR; rw [List.length_append]; split <;> split <;> simp
    omega
theorem minus_take (l m : List Sp) (k : Nat) (h : k < m.length) : minusS l (m.take (k + 1)) = minusStep (minusS l (m.take k)) m[k] := by
  rw [minusStep_eq, List.take_add_one, List.getElem?_eq_getElem h]; rfl
end Go.Proofs.Ythpajecigkfajaa
