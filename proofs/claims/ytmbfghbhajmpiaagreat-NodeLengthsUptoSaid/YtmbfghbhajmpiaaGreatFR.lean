/-
  Plain functions: what the reference's Norm and Minus of spans compute, dead keys, folding. Walks: append of spans, the reference's insertion of a span, its Norm and its Minus.
-/
import Derived.Test.YtmbfghbhajmpiaaGreatPL
import Derived.Test.YtmbfghbhajmpiaaGreatMRR
import Derived.Test.YtmbfghbhajmpiaaGreatKB
import Derived.Test.YtmbfghbhajmpiaaGreatMFG
import Derived.Laws.OwnMore
import Derived.Deep.RegionLawGrows
import Derived.Deep.CutRange
namespace Go.Proofs.YtmbfghbhajmpiaaGreat
set_option linter.unusedVariables false
/-! ### The reference's Norm -/
/-- The spans with one more, by where it begins, unless that is done. -/
def insR (s : Sp) : Bool → List Sp → List Sp
  | d, [] => if d then [] else [s]
  | d, x :: r => if !d && Op.bytesLess s.1 x.1 then s :: x :: insR s true r else x :: insR s d r
theorem insR_true (s : Sp) : ∀ l, insR s true l = l
  | [] => rfl
  | x :: r => by rw [insR, insR_true s r]; simp
theorem insR_length (s : Sp) : ∀ (d : Bool) (l : List Sp), (insR s d l).length ≤ l.length + 1
  | d, [] => by rw [insR]; split <;> simp
  | d, x :: r => by
    rw [insR]
    split
    · rw [insR_true]; simp
    · have := insR_length s d r; simp; omega
theorem insR_mem (s : Sp) : ∀ (l : List Sp) (x : Sp), x ∈ insR s false l ↔ x = s ∨ x ∈ l
  | [], x => by simp [insR]
  | y :: r, x => by
    rw [insR]
    split
    · rw [insR_true]; simp
    · rw [List.mem_cons, insR_mem s r, List.mem_cons]
      constructor
      · rintro (h | h | h)
        · exact .inr (.inl h)
        · exact .inl h
        · exact .inr (.inr h)
      · rintro (h | h | h)
        · exact .inr (.inl h)
        · exact .inl h
        · exact .inr (.inr h)
/-- In order of where they begin. -/
def LoS (l : List Sp) : Prop := l.Pairwise fun x y => keyP x.1 ≤ keyP y.1
theorem insR_lo (s : Sp) : ∀ {l : List Sp}, LoS l → LoS (insR s false l)
  | [], _ => by simp [insR, LoS]
  | y :: r, h => by
    obtain ⟨h1, h2⟩ := List.pairwise_cons.1 h
    rw [insR]
    cases hb : Op.bytesLess s.1 y.1 with
    | true =>
      rw [if_pos (by rfl), insR_true]
      have hlt : keyP s.1 < keyP y.1 := hb
      refine List.pairwise_cons.2 ⟨fun z hz => ?_, h⟩
      rcases List.mem_cons.1 hz with rfl | hz
      · grind
      · have := h1 z hz; grind
    | false =>
      rw [if_neg (by simp)]
      have hle : keyP y.1 ≤ keyP s.1 := hb
      refine List.pairwise_cons.2 ⟨fun z hz => ?_, insR_lo s h2⟩
      rcases (insR_mem s r z).1 hz with rfl | hz
      · exact hle
      · exact h1 z hz
/-- The spans that are not empty, in order. -/
def sortR (l : List Sp) : List Sp := l.foldl (fun a s => insR s (emptyB s) a) []
theorem sortR_snoc (l : List Sp) (s : Sp) : sortR (l ++ [s]) = insR s (emptyB s) (sortR l) := by simp [sortR]
theorem sortR_spec (l : List Sp) : LoS (sortR l) ∧ (∀ s ∈ sortR l, emptyB s = false) ∧ (∀ k, InL (sortR l) k ↔ InL l k) ∧ (sortR l).length ≤ l.length := by
  suffices H : ∀ n, n ≤ l.length → LoS (sortR (l.take n)) ∧ (∀ s ∈ sortR (l.take n), emptyB s = false) ∧ (∀ k, InL (sortR (l.take n)) k ↔ InL (l.take n) k) ∧ (sortR (l.take n)).length ≤ n by
    have := H l.length (Nat.le_refl _)
    rwa [List.take_length] at this
  intro n
  induction n with
  | zero => intro _; refine ⟨by simp [sortR, LoS], by simp [sortR], fun k => by simp [sortR], by simp [sortR]⟩
  | succ n ih =>
    intro hn
    obtain ⟨h1, h2, h3, h4⟩ := ih (by omega)
    have e : l.take (n + 1) = l.take n ++ [l[n]] := by rw [List.take_add_one, List.getElem?_eq_getElem (by omega)]; rfl
    rw [e, sortR_snoc]
    generalize l[n] = s
    cases he : emptyB s with
    | true =>
      rw [insR_true]
      refine ⟨h1, h2, fun k => ?_, by omega⟩
      rw [h3 k, InL_append, InL_cons]
      constructor
      · exact fun h => .inl h
      · rintro (h | h | h)
        · exact h
        · exact absurd h (not_has_empty he k)
        · exact absurd h (InL_nil k)
    | false =>
      refine ⟨insR_lo s h1, fun x hx => ?_, fun k => ?_, by have := insR_length s false (sortR (l.take n)); omega⟩
      · rcases (insR_mem s _ x).1 hx with rfl | hx
        · exact he
        · exact h2 x hx
      · have : InL (insR s false (sortR (l.take n))) k ↔ HasS s k ∨ InL (sortR (l.take n)) k := by
          unfold InL
          constructor
          · rintro ⟨x, hx, hk⟩
            rcases (insR_mem s _ x).1 hx with rfl | hx
            · exact .inl hk
            · exact .inr ⟨x, hx, hk⟩
          · rintro (hk | ⟨x, hx, hk⟩)
            · exact ⟨s, (insR_mem s _ s).2 (.inl rfl), hk⟩
            · exact ⟨x, (insR_mem s _ x).2 (.inr hx), hk⟩
        rw [this, h3 k, InL_append, InL_cons]
        have := InL_nil k
        constructor
        · rintro (h | h)
          · exact .inr (.inl h)
          · exact .inl h
        · rintro (h | h | h)
          · exact .inr h
          · exact .inl h
          · exact absurd h this
def apartS (a b : Sp) : Bool := !a.2.isEmpty && Op.bytesLess a.2 b.1
def growS (a b : Sp) : Sp := if ltP (hiP a.2) (hiP b.2) then (a.1, b.2) else a
theorem apartS_iff (a b : Sp) : apartS a b = true ↔ hiP a.2 < keyP b.1 := by
  unfold apartS
  cases h : a.2 with
  | nil =>
    rw [hiP_nil]
    simp only [List.isEmpty_nil, Bool.not_true, Bool.false_and, Bool.false_eq_true, false_iff]
    exact top_max _
  | cons x r => rw [hiP_ne (by simp)]; simp; exact Iff.rfl
/-- What is open, and the spans that follow. -/
def glue (c : Sp) : List Sp → List Sp
  | [] => [c]
  | s :: r => if apartS c s then c :: glue s r else glue (growS c s) r
def normR (l : List Sp) : List Sp := match sortR l with | [] => [] | c :: r => glue c r
theorem glue_first (c : Sp) : ∀ (r : List Sp) (c : Sp), LoS (c :: r) → ∀ t ∈ glue c r, keyP c.1 ≤ keyP t.1
  | [], c, _, t, ht => by simp [glue] at ht; subst ht; grind
  | s :: r, c, h, t, ht => by
    obtain ⟨h1, h2⟩ := List.pairwise_cons.1 h
    rw [glue] at ht
    split at ht
    · rcases List.mem_cons.1 ht with rfl | ht
      · grind
      · have a1 := glue_first c r s h2 t ht
        have a2 := h1 s (by simp)
        grind
    · have e : (growS c s).1 = c.1 := by unfold growS; split <;> rfl
      have hl : LoS (growS c s :: r) := List.pairwise_cons.2 ⟨fun z hz => by rw [e]; exact h1 z (by simp [hz]), (List.pairwise_cons.1 h2).2⟩
      have := glue_first c r _ hl t ht
      rw [e] at this
      exact this
theorem glue_spec : ∀ (r : List Sp) (c : Sp), emptyB c = false → (∀ s ∈ r, emptyB s = false) → LoS (c :: r) → Nrm (glue c r) ∧ ∀ k, InL (glue c r) k ↔ InL (c :: r) k
  | [], c, hc, _, _ => ⟨⟨hc, by simp, trivial⟩, fun k => Iff.rfl⟩
  | s :: r, c, hc, hr, h => by
    obtain ⟨h1, h2⟩ := List.pairwise_cons.1 h
    have hcs := h1 s (by simp)
    have hs := hr s (by simp)
    rw [glue]
    cases ha : apartS c s with
    | true =>
      rw [if_pos rfl]
      obtain ⟨n1, n2⟩ := glue_spec r s hs (fun x hx => hr x (by simp [hx])) h2
      have hlt := (apartS_iff c s).1 ha
      refine ⟨⟨hc, fun t ht => ?_, n1⟩, fun k => ?_⟩
      · have := glue_first c r s h2 t ht
        grind
      · rw [InL_cons, InL_cons c, n2 k]
    | false =>
      rw [if_neg (by simp)]
      have hle : keyP s.1 ≤ hiP c.2 := by
        have : ¬ hiP c.2 < keyP s.1 := fun h => by rw [(apartS_iff c s).2 h] at ha; cases ha
        grind
      have e : (growS c s).1 = c.1 := by unfold growS; split <;> rfl
      have hcn := (emptyB_no c).1 hc
      have hsn := (emptyB_no s).1 hs
      have hne : emptyB (growS c s) = false := by
        rw [emptyB_no, e]
        unfold growS
        split
        · rename_i hh; have hh : hiP c.2 < hiP s.2 := hh; grind
        · exact hcn
      have hl : LoS (growS c s :: r) := List.pairwise_cons.2 ⟨fun z hz => by rw [e]; exact h1 z (by simp [hz]), (List.pairwise_cons.1 h2).2⟩
      obtain ⟨n1, n2⟩ := glue_spec r (growS c s) hne (fun x hx => hr x (by simp [hx])) hl
      refine ⟨n1, fun k => ?_⟩
      rw [n2 k, InL_cons, InL_cons, InL_cons]
      have hk : HasS (growS c s) k ↔ HasS c k ∨ HasS s k := by
        unfold HasS
        rw [e]
        unfold growS
        split
        · rename_i hh
          have hh : hiP c.2 < hiP s.2 := hh
          constructor
          · rintro ⟨a, b⟩
            by_cases hk : keyP k < hiP c.2
            · exact .inl ⟨a, hk⟩
            · exact .inr ⟨by grind, b⟩
          · rintro (⟨a, b⟩ | ⟨a, b⟩)
            · exact ⟨a, by grind⟩
            · exact ⟨by grind, b⟩
        · rename_i hh
          have hh : hiP s.2 ≤ hiP c.2 := by have : ¬ hiP c.2 < hiP s.2 := hh; grind
          constructor
          · exact fun h => .inl h
          · rintro (h | ⟨a, b⟩)
            · exact h
            · exact ⟨by grind, by grind⟩
      rw [hk, or_assoc]
theorem normR_eq (l : List Sp) : normR l = normS l := by
  obtain ⟨h1, h2, h3, -⟩ := sortR_spec l
  refine (norm_of ?_ ?_).symm
  · unfold normR
    cases hs : sortR l with
    | nil => trivial
    | cons c r =>
      rw [hs] at h1 h2
      exact (glue_spec r c (h2 c (by simp)) (fun s h => h2 s (by simp [h])) h1).1
  · intro k
    rw [← h3 k]
    unfold normR
    cases hs : sortR l with
    | nil => exact Iff.rfl
    | cons c r =>
      rw [hs] at h1 h2
      exact (glue_spec r c (h2 c (by simp)) (fun s h => h2 s (by simp [h])) h1).2 k
/-! ### The reference's Minus -/
def cutR (s x : Sp) : List Sp := (if s.1 = [] then [] else [meetS x ([], s.1)]) ++ (if s.2 = [] then [] else [meetS x (s.2, [])])
def minusStep (left : List Sp) (s : Sp) : List Sp := if emptyB s then left else normS (left.flatMap (cutR s))
def minusR (l m : List Sp) : List Sp := m.foldl minusStep (normS l)
theorem InL_flat (f : Sp → List Sp) (l : List Sp) (k : Bs) : InL (l.flatMap f) k ↔ ∃ x ∈ l, InL (f x) k := by
  unfold InL
  constructor
  · rintro ⟨s, hs, hk⟩
    obtain ⟨x, hx, hs⟩ := List.mem_flatMap.1 hs
    exact ⟨x, hx, s, hs, hk⟩
  · rintro ⟨x, hx, s, hs, hk⟩
    exact ⟨s, List.mem_flatMap.2 ⟨x, hx, hs⟩, hk⟩
theorem cutR_in (s x : Sp) (k : Bs) : InL (cutR s x) k ↔ HasS x k ∧ ¬ HasS s k := by
  unfold cutR
  rw [InL_append]
  have a : InL (if s.1 = [] then [] else [meetS x ([], s.1)]) k ↔ HasS x k ∧ keyP k < keyP s.1 := by
    split
    · rename_i h
      refine ⟨fun h => absurd h (InL_nil k), fun ⟨_, hk⟩ => ?_⟩
      rw [h] at hk
      have := keyP_nil k
      grind
    · rename_i h
      rw [InL_cons, meet_has]
      have : HasS ([], s.1) k ↔ keyP k < keyP s.1 := by
        unfold HasS
        show keyP [] ≤ keyP k ∧ keyP k < hiP s.1 ↔ _
        rw [hiP_ne h]
        have := keyP_nil k
        simp [this]
      rw [this]
      have := InL_nil k
      simp [this]
  have b : InL (if s.2 = [] then [] else [meetS x (s.2, [])]) k ↔ HasS x k ∧ hiP s.2 ≤ keyP k := by
    split
    · rename_i h
      refine ⟨fun h => absurd h (InL_nil k), fun ⟨_, hk⟩ => ?_⟩
      rw [h, hiP_nil] at hk
      have := keyP_top k
      grind
    · rename_i h
      rw [InL_cons, meet_has]
      have : HasS (s.2, []) k ↔ hiP s.2 ≤ keyP k := by
        unfold HasS
        show keyP s.2 ≤ keyP k ∧ keyP k < hiP [] ↔ _
        rw [hiP_ne h, hiP_nil]
        have := keyP_top k
        simp [this]
      rw [this]
      have := InL_nil k
      simp [this]
  rw [a, b]
  unfold HasS
  constructor
  · rintro (⟨h1, h2⟩ | ⟨h1, h2⟩)
    · exact ⟨h1, fun h => by have := h.1; grind⟩
    · exact ⟨h1, fun h => by have := h.2; grind⟩
  · rintro ⟨h1, h2⟩
    by_cases h : keyP k < keyP s.1
    · exact .inl ⟨h1, h⟩
    · refine .inr ⟨h1, ?_⟩
      have : ¬ keyP k < hiP s.2 := fun h3 => h2 ⟨by grind, h3⟩
      grind
theorem minusStep_eq (l m : List Sp) (s : Sp) : minusStep (minusS l m) s = minusS l (m ++ [s]) := by
  have hin : ∀ k, InL (m ++ [s]) k ↔ InL m k ∨ HasS s k := fun k => by
    rw [InL_append, InL_cons]; have := InL_nil k; simp [this]
  unfold minusStep
  cases he : emptyB s with
  | true =>
    rw [if_pos rfl]
    refine (minus_of (minus_nrm l m) fun k => ?_).symm
    rw [minus_in, hin k]
    have := not_has_empty he k
    simp [this]
  | false =>
    rw [if_neg (by simp)]
    refine (minus_of (norm_nrm _) fun k => ?_).symm
    rw [norm_in, InL_flat, hin k]
    constructor
    · rintro ⟨x, hx, hk⟩
      obtain ⟨h1, h2⟩ := (cutR_in s x k).1 hk
      obtain ⟨h3, h4⟩ := (minus_in l m k).1 ⟨x, hx, h1⟩
      exact ⟨h3, fun h => h.elim h4 h2⟩
    · rintro ⟨h1, h2⟩
      obtain ⟨x, hx, hk⟩ := (minus_in l m k).2 ⟨h1, fun h => h2 (.inl h)⟩
      exact ⟨x, hx, (cutR_in s x k).2 ⟨hk, fun h => h2 (.inr h)⟩⟩
theorem minusR_take (l m : List Sp) (n : Nat) (hn : n ≤ m.length) : (m.take n).foldl minusStep (normS l) = minusS l (m.take n) := by
  induction n with
  | zero => rfl
  | succ n ih =>
    have e : m.take (n + 1) = m.take n ++ [m[n]] := by rw [List.take_add_one, List.getElem?_eq_getElem (by omega)]; rfl
    rw [e, List.foldl_append, ih (by omega)]
    exact minusStep_eq l (m.take n) m[n]
theorem minusR_eq (l m : List Sp) : minusR l m = minusS l m := by
  have := minusR_take l m m.length (Nat.le_refl _)
  rwa [List.take_length] at this
/-! ### Folding -/
/-- Some key of the spans is not dead. -/
def liveB (d l : List Sp) : Bool := !(minusS l d).isEmpty
/-- What is dead before a message. -/
def nextD (d : List Sp) (m : Ms) : List Sp := minusS (d ++ killsS m) (readsS m)
/-- Folding, the last message first. -/
def foldB : List Ms → List Sp → List Ms × List Sp
  | [], d => ([], d)
  | m :: r, d => if liveB d (writesS m) then ((foldB r (nextD d m)).1 ++ [m], (foldB r (nextD d m)).2) else foldB r d
def liveS (l : List Ms) (d : List Sp) : List Ms × List Sp := foldB l.reverse (normS d)
def reduceS (l : List Ms) : List Ms := (liveS l []).1
def mergeM (a b : List Ms) : List Ms := reduceS (a ++ b)
theorem normS_nil : normS [] = [] := by decide +kernel
theorem liveB_no {d l : List Sp} (h : liveB d l = false) (k : Bs) (hk : InL l k) : InL d k := by
  unfold liveB at h
  have e : minusS l d = [] := by simpa using h
  by_cases hd : InL d k
  · exact hd
  · have := (minus_in l d k).2 ⟨hk, hd⟩
    rw [e] at this
    exact absurd this (InL_nil k)
theorem liveB_iff (d l : List Sp) : liveB d l = false ↔ ∀ k, InL l k → InL d k := by
  refine ⟨fun h k => liveB_no h k, fun h => ?_⟩
  unfold liveB
  have e : minusS l d = [] := minus_of trivial fun k => ⟨fun hk => absurd hk (InL_nil k), fun ⟨h1, h2⟩ => absurd (h k h1) h2⟩
  rw [e]; rfl
theorem kills_writes (m : Ms) (k : Bs) (h : InL (killsS m) k) : InL (writesS m) k := by
  unfold killsS at h
  split at h
  · exact absurd h (InL_nil k)
  · exact h
/-- Two tables that agree outside of dead keys before agree afterwards outside of those that are dead then. -/
theorem fold_eff : ∀ (l : List Ms) (d : List Sp) (s t : List Pr), Srt s → Srt t →
    (∀ x : Pr, ¬ InL (foldB l.reverse d).2 x.1 → (x ∈ s ↔ x ∈ t)) → ∀ x : Pr, ¬ InL d x.1 → (x ∈ allS l s ↔ x ∈ allS (foldB l.reverse d).1 t) := by
  intro l
  suffices H : ∀ (r : List Ms) (d : List Sp) (s t : List Pr), Srt s → Srt t →
    (∀ x : Pr, ¬ InL (foldB r d).2 x.1 → (x ∈ s ↔ x ∈ t)) → ∀ x : Pr, ¬ InL d x.1 → (x ∈ allS r.reverse s ↔ x ∈ allS (foldB r d).1 t) by
    intro d s t hs ht h
    have := H l.reverse d s t hs ht h
    rwa [List.reverse_reverse] at this
  intro r
  induction r with
  | nil => intro d s t _ _ h x hx; exact h x hx
  | cons m r ih =>
    intro d s t hs ht h x hx
    have hsa : ∀ (l : List Ms) {u : List Pr}, Srt u → Srt (allS l u) := by
      intro l
      induction l with
      | nil => intro u hu; exact hu
      | cons m l ih => intro u hu; exact ih (srt_apply' m hu)
    have e1 : allS (m :: r).reverse s = applyS m (allS r.reverse s) := by simp [allS]
    rw [e1]
    rw [foldB] at h ⊢
    cases hl : liveB d (writesS m) with
    | true =>
      rw [hl, if_pos rfl] at h
      rw [if_pos rfl]
      have e2 : allS ((foldB r (nextD d m)).1 ++ [m]) t = applyS m (allS (foldB r (nextD d m)).1 t) := by simp [allS]
      rw [e2]
      have ha := ih (nextD d m) s t hs ht h
      have sa := hsa r.reverse hs
      have sb := hsa (foldB r (nextD d m)).1 ht
      cases hw : inB (writesS m) x.1 with
      | true =>
        refine apply_in m sa sb (fun y hy => ha y fun hn => ?_) x hw
        exact ((minus_in _ _ _).1 hn).2 ((inB_iff _ _).1 hy)
      | false =>
        rw [apply_out m sa x hw, apply_out m sb x hw]
        refine ha x fun hn => ?_
        rcases (InL_append _ _ _).1 ((minus_in _ _ _).1 hn).1 with h1 | h1
        · exact hx h1
        · have := (inB_iff _ _).2 (kills_writes m _ h1)
          rw [hw] at this; cases this
    | false =>
      rw [hl, if_neg (by simp)] at h
      rw [if_neg (by simp)]
      rw [← ih d s t hs ht h x hx]
      refine apply_out m (hsa r.reverse hs) x ?_
      cases hw : inB (writesS m) x.1 with
      | false => rfl
      | true => exact absurd (liveB_no hl _ ((inB_iff _ _).1 hw)) hx
theorem srt_allS (l : List Ms) : ∀ {u : List Pr}, Srt u → Srt (allS l u) := by
  induction l with
  | nil => intro u hu; exact hu
  | cons m l ih => intro u hu; exact ih (srt_apply' m hu)
theorem reduce_eff (l : List Ms) {t : List Pr} (ht : Srt t) : allS (reduceS l) t = allS l t := by
  refine Srt.unique (srt_allS _ ht) (srt_allS _ ht) fun x => ?_
  have h := fold_eff l (normS []) t t ht ht (fun _ _ => Iff.rfl) x (by rw [normS_nil]; exact InL_nil _)
  exact h.symm
theorem live_eff (l : List Ms) (d : List Sp) {t : List Pr} (ht : Srt t) : withoutS d (allS (liveS l d).1 t) = withoutS d (allS l t) := by
  refine Srt.unique (srt_without _ (srt_allS _ ht)) (srt_without _ (srt_allS _ ht)) fun x => ?_
  rw [mem_without, mem_without]
  constructor
  · rintro ⟨h1, h2⟩
    refine ⟨(fold_eff l (normS d) t t ht ht (fun _ _ => Iff.rfl) x ?_).2 h1, h2⟩
    rw [norm_in, ← inB_iff, h2]; simp
  · rintro ⟨h1, h2⟩
    refine ⟨(fold_eff l (normS d) t t ht ht (fun _ _ => Iff.rfl) x ?_).1 h1, h2⟩
    rw [norm_in, ← inB_iff, h2]; simp
/-- The pairs in spans that are dead in the end do not matter. -/
theorem before_eff (l : List Ms) {s t : List Pr} (hs : Srt s) (ht : Srt t) (h : withoutS (liveS l []).2 s = withoutS (liveS l []).2 t) : allS l s = allS l t ∧ allS (reduceS l) s = allS (reduceS l) t := by
  have hx : ∀ x : Pr, ¬ InL (liveS l []).2 x.1 → (x ∈ s ↔ x ∈ t) := by
    intro x hx
    have h1 : inB (liveS l []).2 x.1 = false := by
      cases e : inB (liveS l []).2 x.1 with
      | false => rfl
      | true => exact absurd ((inB_iff _ _).1 e) hx
    have : x ∈ withoutS (liveS l []).2 s ↔ x ∈ withoutS (liveS l []).2 t := by rw [h]
    rw [mem_without, mem_without] at this
    simpa [h1] using this
  have h0 : ∀ x : Pr, ¬ InL (normS []) x.1 := fun x => by rw [normS_nil]; exact InL_nil _
  have e1 : allS l s = allS (reduceS l) t := Srt.unique (srt_allS _ hs) (srt_allS _ ht) fun x => fold_eff l (normS []) s t hs ht hx x (h0 x)
  refine ⟨by rw [e1, reduce_eff l ht], by rw [reduce_eff l hs, e1]⟩
theorem foldB_sub : ∀ (r : List Ms) (d : List Sp), ((foldB r d).1).Sublist r.reverse
  | [], d => List.Sublist.refl _
  | m :: r, d => by
    rw [foldB, List.reverse_cons]
    split
    · exact (foldB_sub r _).append (List.Sublist.refl _)
    · exact (foldB_sub r d).trans (List.sublist_append_left _ _)
theorem reduce_sub (l : List Ms) : (reduceS l).Sublist l := by
  have := foldB_sub l.reverse (normS [])
  rwa [List.reverse_reverse] at this
theorem foldB_again : ∀ (r : List Ms) (d : List Sp), foldB (foldB r d).1.reverse d = foldB r d
  | [], d => rfl
  | m :: r, d => by
    rw [foldB]
    cases h : liveB d (writesS m) with
    | true =>
      simp only [↓reduceIte, List.reverse_append, List.reverse_cons, List.reverse_nil, List.nil_append, List.singleton_append]
      rw [foldB, h, if_pos rfl, foldB_again r (nextD d m)]
    | false =>
      simp only [Bool.false_eq_true, ↓reduceIte]
      exact foldB_again r d
theorem reduce_again (l : List Ms) : reduceS (reduceS l) = reduceS l := by
  unfold reduceS liveS
  rw [foldB_again]
theorem liveB_nil {l : List Sp} (s : Sp) (hs : s ∈ l) (h : emptyB s = false) : liveB [] l = true := by
  cases e : liveB [] l with
  | true => rfl
  | false => exact absurd (liveB_no e s.1 ⟨s, hs, has_lo h⟩) (InL_nil _)
/-- The last message stays. -/
theorem reduce_last (l : List Ms) (m : Ms) (h : liveB [] (writesS m) = true) : reduceS (l ++ [m]) = (foldB l.reverse (nextD [] m)).1 ++ [m] := by
  unfold reduceS liveS
  rw [List.reverse_append, normS_nil]
  simp only [List.reverse_cons, List.reverse_nil, List.nil_append, List.singleton_append]
  rw [foldB, h, if_pos rfl]
open Go.RowKit Go.Sort
theorem infoS : (Tryz.prog.info? 41).map (fun i => (i.zero, i.size, i.bytes)) = some (some (.agg #[.string ⟨#[]⟩, .string ⟨#[]⟩]), 2, 32) := by kernel_rfl
theorem flatS_one (l : List Sp) : ∀ u ∈ l.flatMap encS, u.oneCell' = true := by
  intro u hu
  obtain ⟨x, _, hx⟩ := List.mem_flatMap.1 hu
  simp [encS] at hx
  rcases hx with rfl | rfl <;> rfl
theorem append_spans {w : World} {ops : Array Oper} {rest : List Oper} {o : Oper} {a : Act} {Q : Exit → Act → World → Prop} (hgd : o.guard = none) (s x : Operand)
    (ho : o.op = .call { callee := .builtin .append, args := #[s, x], argTypes := #[73, 73] }) (base : Nat) (v : Value) (l : List Sp) (hs : a.eval s = v) (hown : w.ownsRow base 41 2 v l.length (l.flatMap encS))
    (u : Value) (m : List Sp) (hx : a.eval x = u) (hp : IsSpans w u m) (hl : l.length + m.length ≤ 1000000000) (hbase : base ≤ w.heap.size)
    (h : ∀ v' w', w'.ownsRow base 41 2 v' (l ++ m).length ((l ++ m).flatMap encS) → Below base w w' → wpList Tryz.prog ops Q rest (a.put o.dst v') w') : wpList Tryz.prog ops Q (o :: rest) a w := by
  obtain ⟨i0, hi, hz0, hz1, hz2⟩ := info_parts infoS
  obtain ⟨p, cap, rfl, hlc, hcm, hpp⟩ := hp
  refine append_gen hgd s x 73 41 i0 (.agg #[.string ⟨#[]⟩, .string ⟨#[]⟩]) 2 32 Tryz.underlying73 hi hz0 hz1 hz2 rfl (by decide) (by decide) ho base v l.length _ hs hown p m.length cap (m.flatMap encS) hx (flatS_len m) ?_ (flatS_one m) hl hbase ?_
  · intro hm
    obtain ⟨b, off, rfl, hlt, hc⟩ := hpp (by rintro rfl; simp at hm)
    refine ⟨_, rfl, cells_at fun j u hj => ?_⟩
    have hj1 : j < m.length * 2 := by rw [← flatS_len]; exact (List.getElem?_eq_some_iff.1 hj).1
    have hi2 : j / 2 < m.length := by omega
    have g := flatS_get m (j / 2) hi2
    have c := hc (j / 2) hi2
    have hcase : j = j / 2 * 2 ∨ j = j / 2 * 2 + 1 := by omega
    rcases hcase with h | h
    · rw [h] at hj ⊢
      rw [g.1] at hj
      rw [← Option.some.inj hj]; exact c.1
    · rw [h] at hj ⊢
      rw [g.2] at hj
      rw [← Option.some.inj hj]; exact c.2
  · intro v' w' h2 h3
    refine h v' w' ?_ h3
    rw [List.length_append, List.flatMap_append]; exact h2
set_option maxRecDepth 100000 in
set_option maxHeartbeats 4000000 in
theorem insertS_w (v : Value) (l : List Sp) (s1 s2 : Bs) (w : World) (h : IsSpans w v l) (hl : l.length ≤ 1000) :
    Calls Tryz.prog 234 #[v, .agg #[.string (Str s1), .string (Str s2)]] w fun e w' => ∃ v', e = .returned v' ∧ w'.ownsRow w.heap.size 41 2 v' (insR (s1, s2) (emptyB (s1, s2)) l).length ((insR (s1, s2) (emptyB (s1, s2)) l).flatMap encS) ∧ Below w.heap.size w w' := by
  have mixed := mixedA
  obtain ⟨i0, hi, hz0, hz1, hz2⟩ := info_parts infoS
  obtain ⟨g, o, cap, p, rfl, hlc, hcm, hpp, hcc⟩ := h.form
  unfold maxLen at hcm
  have HP := Lib.hid hpp
  have HC := Lib.hid hcc
  clear h hpp hcc
  have he := fun wx => rempty_w s1 s2 wx
  generalize emptyB (s1, s2) = em at *
  have HS : Hid (Blk (w.alloc (.cells #[.string (Str s1), .string (Str s2)] 41)) w.heap.size 41 #[.string (Str s1), .string (Str s2)]) := Lib.hid (Blk.new _ _ _)
  have Hown0 : Hid (((w.alloc (.cells #[.string (Str s1), .string (Str s2)] 41)).alloc (.cells #[] 41)).ownsRow (w.heap.size + 1) 41 2 (.slice (some ⟨w.heap.size + 1, 0, none⟩) 0 0) ([] : List Sp).length (([] : List Sp).flatMap encS)) := Lib.hid ⟨rfl, .inr ⟨w.heap.size + 1, 0, #[], rfl, Nat.le_refl _, Blk.new' _ _ _ (by simp), Nat.le_refl _, by unfold maxLen; omega, rfl, rfl⟩⟩
  go_enter Tryz.func234, Tryz.ntmps234
  go_wp2_with (go_at_call 32; refine (he _).mono ?_; rintro e w0 ⟨rfl, hg⟩; have HB0 : Hid (Below (w.heap.size + 1) (w.alloc (.cells #[.string (Str s1), .string (Str s2)] 41)) w0) := Lib.hid (Below.trans ((Below.refl _ (w.alloc (.cells #[.string (Str s1), .string (Str s2)] 41))).alloc (by simp) _) (hg.below (by simp))); have HO : Hid (w0.ownsRow (w.heap.size + 1) 41 2 (.slice (some ⟨w.heap.size + 1, 0, none⟩) 0 0) ([] : List Sp).length (([] : List Sp).flatMap encS)) := Lib.hid (owns_below Hown0.out (hg.below (Nat.le_refl _))); clear hg)
  go_loopw [5, 6, 7] (fun vo sd i wr => ∃ (k : Nat) (left : List Sp) (d : Bool), k ≤ l.length ∧ i = .int .i64 k ∧ sd = .bool d ∧ wr.ownsRow (w.heap.size + 1) 41 2 vo left.length (left.flatMap encS) ∧ left.length ≤ k + 1 ∧ (d = false → left.length ≤ k) ∧
      Below (w.heap.size + 1) (w.alloc (.cells #[.string (Str s1), .string (Str s2)] 41)) wr ∧ Hid (left ++ insR (s1, s2) d (l.drop k) = insR (s1, s2) em l)) (fun _ _ i _ => l.length - (intOf i).toNat)
  case atStart => exact ⟨0, [], em, Nat.zero_le _, rfl, rfl, HO.out, by simp, by simp, HB0.out, Lib.hid (by simp)⟩
  case round =>
    obtain ⟨k, left, d, hk, rfl, rfl, hown, hll, hld, hbel, hp⟩ := hrel
    have Hblk := Lib.hid (Blk.below HS.out hbel (by omega))
    have hsz := hbel.size
    simp only [World.size_alloc] at hsz
    have Hown := Lib.hid hown
    have Hbel := Lib.hid hbel
    clear hown hbel
    by_cases hlt : k < l.length
    · obtain ⟨rfl, c0, c1⟩ := HC.out k hlt
      have hgl := (HP.out (by rintro rfl; simp at hlt)).2
      have hltz : (k : Int) < (l.length : Int) := by omega
      have x0 : wr.cell? ⟨g, o + k * 2, none⟩ = some (.string (Str l[k].1)) := (Hbel.out.cell (p := ⟨g, o + k * 2, none⟩) (by exact Nat.lt_succ_of_lt hgl)).trans ((World.cell?_alloc_lt _ _ _ (by exact hgl)).trans c0)
      have x1 : wr.cell? ⟨g, o + k * 2 + 1, none⟩ = some (.string (Str l[k].2)) := (Hbel.out.cell (p := ⟨g, o + k * 2 + 1, none⟩) (by exact Nat.lt_succ_of_lt hgl)).trans ((World.cell?_alloc_lt _ _ _ (by exact hgl)).trans c1)
      have hglw : g < wr.heap.size := by omega
      have Hd := Lib.hid (List.drop_eq_getElem_cons hlt)
      generalize hq : l[k] = q at *
      obtain ⟨q1, q2⟩ := q
      simp only at x0 x1
      have z0 := fun n os => cell_grown (n := n) (os := os) (by exact hglw) x0
      have z1 := fun n os => cell_grown (n := n) (os := os) (by exact hglw) x1
      have y0 : ∀ n os, (grow (wr.drewN n) os).cell? ⟨w.heap.size, 0, none⟩ = some (.string (Str s1)) := Hblk.out.c 0 _ rfl
      have cc0 : w.cell? ⟨g, o + k * 2, none⟩ = some (.string (Str q1)) := c0
      have cc1 : w.cell? ⟨g, o + k * 2 + 1, none⟩ = some (.string (Str q2)) := c1
      clear hq c0 c1
      have Hl := Lib.hid hll
      go_wp2_with fail
      go_cut [28] (fun s28 wx => s28 = .bool (!d && Op.bytesLess s1 q1) ∧ wx.ownsRow (w.heap.size + 1) 41 2 u5 left.length (left.flatMap encS) ∧ Below (w.heap.size + 1) (w.alloc (.cells #[.string (Str s1), .string (Str s2)] 41)) wx)
      case first =>
        cases d with
        | true =>
          refine wp_region_quiet_grown mixed (by kernel_rfl) ?_
          repeat (first | go_big_quiet_skip | (refine wpQuiet_step (fun K hK => ?_); have HK := Lib.hid hK; clear hK; go_simp; first | (refine HK.out _ ?_; clear HK K) | (apply Exists.intro; refine ⟨fun _ => ?_, HK.out _ ?_⟩; skip; clear HK K)))
          refine wpQuiet_nil ?_
          intro _ hw'
          obtain ⟨⟨nq, osq⟩, hw''⟩ := hw'
          subst hw''
          go_wp2_with fail
          go_meet
          exact ⟨rfl, owns_below Hown.out (below_grown _ _ _ (Nat.le_refl _)), Below.trans Hbel.out (below_grown _ _ _ (by omega))⟩
        | false =>
          cases hB : Op.bytesLess s1 q1
          all_goals
            refine wp_region_quiet_grown mixed (by kernel_rfl) ?_
            repeat (first | go_big_quiet_skip | (refine wpQuiet_step (fun K hK => ?_); have HK := Lib.hid hK; clear hK; go_simp; first | (refine HK.out _ ?_; clear HK K) | (apply Exists.intro; refine ⟨fun _ => ?_, HK.out _ ?_⟩; skip; clear HK K)))
            refine wpQuiet_nil ?_
            intro _ hw'
            obtain ⟨⟨nq, osq⟩, hw''⟩ := hw'
            subst hw''
            go_wp2_with fail
            go_meet
            exact ⟨by rw [hB]; rfl, owns_below Hown.out (below_grown _ _ _ (Nat.le_refl _)), Below.trans Hbel.out (below_grown _ _ _ (by omega))⟩
      case rest =>
        obtain ⟨rfl, hown, hbel⟩ := hcut
        clear y0 z0 z1 Hown Hbel Hblk
        have hsz2 := hbel.size
        simp only [World.size_alloc] at hsz2
        have Hblk2 := Lib.hid (Blk.below HS.out hbel (by omega))
        have y0 : wc.cell? ⟨w.heap.size, 0, none⟩ = some (.string (Str s1)) := Hblk2.out.c0 0 _ rfl
        have y1 : wc.cell? ⟨w.heap.size, 1, none⟩ = some (.string (Str s2)) := Hblk2.out.c0 1 _ rfl
        have hx : ∀ (wx : World), Below (w.heap.size + 1) (w.alloc (.cells #[.string (Str s1), .string (Str s2)] 41)) wx → wx.cell? ⟨g, o + k * 2, none⟩ = some (.string (Str q1)) ∧ wx.cell? ⟨g, o + k * 2 + 1, none⟩ = some (.string (Str q2)) := fun wx hb =>
          ⟨(hb.cell (p := ⟨g, o + k * 2, none⟩) (by exact Nat.lt_succ_of_lt hgl)).trans ((World.cell?_alloc_lt _ _ _ (by exact hgl)).trans cc0), (hb.cell (p := ⟨g, o + k * 2 + 1, none⟩) (by exact Nat.lt_succ_of_lt hgl)).trans ((World.cell?_alloc_lt _ _ _ (by exact hgl)).trans cc1)⟩
        obtain ⟨x0, x1⟩ := hx _ hbel
        have Hx := Lib.hid hx
        have Hown := Lib.hid hown
        have Hbel := Lib.hid hbel
        clear hown hbel hx
        cases hC : !d && Op.bytesLess s1 q1 with
        | false =>
          have Hp2 : Hid ((left ++ [(q1, q2)]) ++ insR (s1, s2) d (l.drop (k + 1)) = insR (s1, s2) em l) := Lib.hid (by rw [← hp.out, Hd.out, insR, if_neg (by simp only; rw [hC]; simp), List.append_assoc]; rfl)
          clear hC hp
          go_wp2_with (at_builtin; refine wpList_append_own _ rfl _ _ 73 rfl (w.heap.size + 1) 41 i0 (.agg #[.string ⟨#[]⟩, .string ⟨#[]⟩]) 2 32 Tryz.underlying73 hi hz0 hz1 hz2 rfl (by decide) _ _ _ rfl (Hown.out.alloc _) ⟨wc.heap.size, 0, none⟩ 1 1 [.string (Str q1), .string (Str q2)] rfl rfl (cells_new' _ _ _ (by simp)) (by intro u hu; simp at hu; rcases hu with rfl | rfl <;> rfl) (by unfold maxLen; omega) (by omega) (by simp; omega) ?_; intro v' w2 hown' hgrow _)
          have Hown' := Lib.hid hown'
          have Hb2 : Hid (Below (w.heap.size + 1) (w.alloc (.cells #[.string (Str s1), .string (Str s2)] 41)) w2) := Lib.hid (Below.grown (Hbel.out.alloc (by omega) _) hgrow (by simp; omega) (fun q hq => (Hown.out.lt q hq).1))
          clear hown' hgrow
          go_wp2
          go_roundw
          case rel => exact ⟨k + 1, left ++ [(q1, q2)], d, by omega, by go_num, rfl, by rw [List.length_append, List.flatMap_append]; exact Hown'.out, by simp; omega, (fun h => by have := hld h; simp; omega), Hb2.out, Hp2⟩
          case measure => simp [intOf]; omega
        | true =>
          have hdf : d = false := by cases d <;> simp_all
          subst hdf
          have hlk := hld rfl
          have Hp2 : Hid ((left ++ [(s1, s2)] ++ [(q1, q2)]) ++ insR (s1, s2) true (l.drop (k + 1)) = insR (s1, s2) em l) := Lib.hid (by rw [← hp.out, Hd.out, insR, if_pos (by simp only; rw [hC]), List.append_assoc, List.append_assoc]; rfl)
          clear hC hp hld
          go_wp2_with (first | (at_builtin; refine wpList_append_own _ rfl (.tmp 29) (.tmp 31) 73 rfl (w.heap.size + 1) 41 i0 (.agg #[.string ⟨#[]⟩, .string ⟨#[]⟩]) 2 32 Tryz.underlying73 hi hz0 hz1 hz2 rfl (by decide) _ _ _ rfl (Hown.out.alloc _) ⟨wc.heap.size, 0, none⟩ 1 1 [.string (Str s1), .string (Str s2)] rfl rfl (cells_new' _ _ _ (by simp)) (by intro u hu; simp at hu; rcases hu with rfl | rfl <;> rfl) (by unfold maxLen; omega) (by omega) (by simp; omega) ?_; intro v' w2 hown' hgrow _; have Hown2 : Hid (w2.ownsRow (w.heap.size + 1) 41 2 v' (left.length + 1) ((left ++ [(s1, s2)]).flatMap encS)) := Lib.hid (by rw [List.flatMap_append]; exact hown'); have Hb2 : Hid (Below (w.heap.size + 1) (w.alloc (.cells #[.string (Str s1), .string (Str s2)] 41)) w2) := Lib.hid (Below.grown (Hbel.out.alloc (by omega) _) hgrow (by simp; omega) (fun q hq => (Hown.out.lt q hq).1)); have hb2s := Hb2.out.size; simp only [World.size_alloc] at hb2s; obtain ⟨x0, x1⟩ := Hx.out _ Hb2.out; clear hown' hgrow) | (at_builtin; refine wpList_append_own _ rfl (.tmp 33) (.tmp 38) 73 rfl (w.heap.size + 1) 41 i0 (.agg #[.string ⟨#[]⟩, .string ⟨#[]⟩]) 2 32 Tryz.underlying73 hi hz0 hz1 hz2 rfl (by decide) _ _ _ rfl (Hown2.out.alloc _) ⟨w2.heap.size, 0, none⟩ 1 1 [.string (Str q1), .string (Str q2)] rfl rfl (cells_new' _ _ _ (by simp)) (by intro u hu; simp at hu; rcases hu with rfl | rfl <;> rfl) (by unfold maxLen; omega) (by omega) (by simp; omega) ?_; intro v3 w3 hown3 hgrow3 _))
          have Hown3 : Hid (w3.ownsRow (w.heap.size + 1) 41 2 v3 (left ++ [(s1, s2)] ++ [(q1, q2)]).length ((left ++ [(s1, s2)] ++ [(q1, q2)]).flatMap encS)) := Lib.hid (by rw [List.length_append, List.length_append, List.flatMap_append]; exact hown3)
          have Hb3 : Hid (Below (w.heap.size + 1) (w.alloc (.cells #[.string (Str s1), .string (Str s2)] 41)) w3) := Lib.hid (Below.grown (Hb2.out.alloc (by omega) _) hgrow3 (by simp; omega) (fun q hq => (Hown2.out.lt q hq).1))
          clear hown3 hgrow3
          go_wp2
          go_roundw
          case rel => exact ⟨k + 1, left ++ [(s1, s2)] ++ [(q1, q2)], true, by omega, by go_num, rfl, Hown3.out, by simp; omega, (fun h => by cases h), Hb3.out, Hp2⟩
          case measure => simp [intOf]; omega
    · obtain rfl : k = l.length := by omega
      have y0 : wr.cell? ⟨w.heap.size, 0, none⟩ = some (.string (Str s1)) := Hblk.out.c0 0 _ rfl
      have y1 : wr.cell? ⟨w.heap.size, 1, none⟩ = some (.string (Str s2)) := Hblk.out.c0 1 _ rfl
      have hbw : Hid (Below w.heap.size w wr) := Lib.hid (Below.trans ((Below.refl w.heap.size w).alloc (Nat.le_refl _) _) (Hbel.out.mono (by omega)))
      cases d with
      | true =>
        have Hp2 : Hid (left = insR (s1, s2) em l) := Lib.hid (by rw [← hp.out, List.drop_length]; simp [insR])
        clear hp
        go_wp2
        go_ret
        refine ⟨_, rfl, ?_, hbw.out⟩
        rw [← Hp2.out]
        refine ⟨Hown.out.1, ?_⟩
        rcases Hown.out.2 with h | ⟨g, cp, cur, h2, h3, h4⟩
        · exact .inl h
        · exact .inr ⟨g, cp, cur, h2, by omega, h4⟩
      | false =>
        have Hp2 : Hid (left ++ [(s1, s2)] = insR (s1, s2) em l) := Lib.hid (by rw [← hp.out, List.drop_length]; rfl)
        clear hp
        go_wp2_with (at_builtin; refine wpList_append_own _ rfl _ _ 73 rfl (w.heap.size + 1) 41 i0 (.agg #[.string ⟨#[]⟩, .string ⟨#[]⟩]) 2 32 Tryz.underlying73 hi hz0 hz1 hz2 rfl (by decide) _ _ _ rfl (Hown.out.alloc _) ⟨wr.heap.size, 0, none⟩ 1 1 [.string (Str s1), .string (Str s2)] rfl rfl (cells_new' _ _ _ (by simp)) (by intro u hu; simp at hu; rcases hu with rfl | rfl <;> rfl) (by unfold maxLen; omega) (by omega) (by simp; omega) ?_; intro v' w2 hown' hgrow _)
        have Hown' := Lib.hid hown'
        have Hb2 : Hid (Below w.heap.size w w2) := Lib.hid (Below.grown (hbw.out.alloc hbw.out.size _) hgrow (by have := hbw.out.size; simp; omega) (fun q hq => by have := (Hown.out.lt q hq).1; omega))
        clear hown' hgrow
        go_wp2
        go_ret
        refine ⟨v', rfl, ?_, Hb2.out⟩
        rw [← Hp2.out, List.length_append, List.flatMap_append]
        refine ⟨Hown'.out.1, ?_⟩
        rcases Hown'.out.2 with h | ⟨g, cp, cur, h2, h3, h4⟩
        · exact .inl h
        · exact .inr ⟨g, cp, cur, h2, by omega, h4⟩
theorem flatS_set (T : List Sp) (i : Nat) (s : Sp) : (T.set i s).flatMap encS = ((T.flatMap encS).set (i * 2) (.string (Str s.1))).set (i * 2 + 1) (.string (Str s.2)) ∨ T.length ≤ i := by
  induction T generalizing i with
  | nil => right; simp
  | cons t r ih =>
    have e : ∀ (t : Sp) r, (t :: r).flatMap encS = .string (Str t.1) :: .string (Str t.2) :: r.flatMap encS := fun t r => rfl
    cases i with
    | zero => left; rw [List.set_cons_zero, e, e]; rfl
    | succ i =>
      rcases ih i with h | h
      · left
        rw [List.set_cons_succ, e, e, h]
        have h2 : (i + 1) * 2 = i * 2 + 1 + 1 := by omega
        rw [h2]; rfl
      · right; simp; omega
theorem own_form {w : World} {base n : Nat} {e : TypeId} {v : Value} {xs : List Value} (h : w.ownsRow base e 2 v n xs) : ∃ p cap, v = .slice p n cap ∧ n ≤ cap ∧ cap ≤ maxLen ∧ (0 < n → ∃ g, p = some ⟨g, 0, none⟩) := by
  rcases h.2 with ⟨rfl, h0⟩ | ⟨g, cap, cur, rfl, _, _, hn, hm, _⟩
  · subst h0; exact ⟨none, 0, rfl, Nat.le_refl _, by unfold maxLen; omega, fun h => absurd h (by omega)⟩
  · exact ⟨_, cap, rfl, hn, hm, fun _ => ⟨g, rfl⟩⟩
theorem own_cells {w : World} {base g n cap : Nat} {T : List Sp} (h : w.ownsRow base 41 2 (.slice (some ⟨g, 0, none⟩) n cap) n (T.flatMap encS)) (i : Nat) (hi : i < T.length) :
    w.cell? ⟨g, i * 2, none⟩ = some (.string (Str T[i].1)) ∧ w.cell? ⟨g, i * 2 + 1, none⟩ = some (.string (Str T[i].2)) := by
  have hl := h.1
  rw [flatS_len] at hl
  have f := flatS_get T i hi
  exact ⟨(h.cellAt _ (by omega)).trans f.1, (h.cellAt _ (by omega)).trans f.2⟩
theorem IsSpans.lit (w : World) (a : Option Addr) : IsSpans w (.slice a 0 0) [] := ⟨a, 0, rfl, Nat.le_refl _, by unfold maxLen; omega, fun h => absurd rfl h⟩
/-- Spans appended to what has no room and no element: a row behind all that there is. -/
theorem append_lit {w : World} {ops : Array Oper} {rest : List Oper} {o : Oper} {a : Act} {Q : Exit → Act → World → Prop} (hgd : o.guard = none) (s x : Operand)
    (ho : o.op = .call { callee := .builtin .append, args := #[s, x], argTypes := #[73, 73] }) (b0 : Nat) (hs : a.eval s = .slice (some ⟨b0, 0, none⟩) 0 0)
    (u : Value) (m : List Sp) (hx : a.eval x = u) (hp : IsSpans w u m) (hm : m ≠ []) (hl : m.length ≤ 1000000000)
    (h : ∀ v' w', w'.ownsRow w.heap.size 41 2 v' m.length (m.flatMap encS) → Below w.heap.size w w' → wpList Tryz.prog ops Q rest (a.put o.dst v') w') : wpList Tryz.prog ops Q (o :: rest) a w := by
  obtain ⟨i0, hi, hz0, hz1, hz2⟩ := info_parts infoS
  obtain ⟨p, cap, rfl, hlc, hcm, hpp⟩ := hp
  obtain ⟨b, off, rfl, hlt, hc⟩ := hpp hm
  refine wpList_plain hgd fun K hK => ?_
  have hcells : ∀ j u, (m.flatMap encS)[j]? = some u → w.cell? ((⟨b, off, none⟩ : Addr).add j) = some u := cells_at fun j u hj => by
    have hj1 : j < m.length * 2 := by rw [← flatS_len]; exact (List.getElem?_eq_some_iff.1 hj).1
    have hi2 : j / 2 < m.length := by omega
    have g := flatS_get m (j / 2) hi2
    have c := hc (j / 2) hi2
    have hcase : j = j / 2 * 2 ∨ j = j / 2 * 2 + 1 := by omega
    rcases hcase with h | h
    · rw [h] at hj ⊢
      rw [g.1] at hj
      rw [← Option.some.inj hj]; exact c.1
    · rw [h] at hj ⊢
      rw [g.2] at hj
      rw [← Option.some.inj hj]; exact c.2
  have hm0 : 0 < m.length := List.length_pos_iff.2 hm
  have hw : Region.wanted o (yielded ops a.tmps) = true := by simp [Region.wanted, hgd]
  have := step_append_grows (P := Tryz.prog) (ops := ops) (o := o) (a := a) (w := w) (K := K) (Q := Q) (E := False) hgd s x 73 ho 41 i0 (.agg #[.string ⟨#[]⟩, .string ⟨#[]⟩]) 2 32 Tryz.underlying73 hi hz0 hz1 hz2 rfl (by decide)
    (some ⟨b0, 0, none⟩) 0 0 [] hs (fun h => by cases h) rfl (fun _ _ j u hj => by simp at hj) ⟨b, off, none⟩ m.length cap (m.flatMap encS) hx (flatS_len m) hcells (flatS_one m) (by omega) (by unfold maxLen; omega) (by omega)
    (fun v' w' h2 h3 => hK _ _ (h v' w' (by simpa using h2) (Below.grown (Below.refl _ _) h3 (Nat.le_refl _) (fun q hq => by cases hq))))
  rw [if_pos hw] at this
  exact this
theorem sortR_take (l : List Sp) (k : Nat) (h : k < l.length) : sortR (l.take (k + 1)) = insR l[k] (emptyB l[k]) (sortR (l.take k)) := by
  rw [List.take_add_one, List.getElem?_eq_getElem h]; exact sortR_snoc _ _
theorem glue_start (l : List Sp) (k : Nat) (h : k < (sortR l).length) (hk : k = 0) : glue (sortR l)[k] ((sortR l).drop (k + 1)) = normR l := by
  subst hk
  unfold normR
  generalize sortR l = x at *
  cases x with
  | nil => simp at h
  | cons c r => simp
theorem flatS_hi (pre : List Sp) (c1 c2 s2 : Bs) (j : Nat) (hj : pre.length = j) : ((pre ++ [(c1, c2)]).flatMap encS).set (j * 2 + 1) (.string (Str s2)) = (pre ++ [(c1, s2)]).flatMap encS := by
  subst hj
  rw [List.flatMap_append, List.flatMap_append, List.set_append_right _ _ (by rw [flatS_len]; omega), flatS_len]
  rw [show pre.length * 2 + 1 - pre.length * 2 = 1 by omega]
  rfl
set_option maxRecDepth 100000 in
set_option maxHeartbeats 4000000 in
theorem rnorm_w (v : Value) (l : List Sp) (w : World) (h : IsSpans w v l) (hl : l.length ≤ 1000) :
    Calls Tryz.prog 210 #[v] w fun e w' => ∃ v', e = .returned v' ∧ w'.ownsRow w.heap.size 41 2 v' (normS l).length ((normS l).flatMap encS) ∧ Below w.heap.size w w' := by
  have mixed := mixedA
  rw [← normR_eq]
  obtain ⟨b, off, cap, p, rfl, hlc, hcm, hpp, hcc⟩ := h.form
  unfold maxLen at hcm
  have HP := Lib.hid hpp
  have HC := Lib.hid hcc
  have HN : Hid ((sortR l).length ≤ l.length) := Lib.hid (sortR_spec l).2.2.2
  have HT : Hid (∀ k, k ≤ l.length → (sortR (l.take k)).length ≤ 1000) := Lib.hid (fun k hk => by have := (sortR_spec (l.take k)).2.2.2; rw [List.length_take] at this; omega)
  clear h hpp hcc
  go_enter Tryz.func210, Tryz.ntmps210
  go_wp2
  go_loopw [3, 5] (fun vs i wr => ∃ k : Nat, k ≤ l.length ∧ i = .int .i64 k ∧ IsSpans wr vs (sortR (l.take k)) ∧ Below w.heap.size w wr ∧ Blk wr (w.heap.size + 1) 41 #[]) (fun _ i _ => l.length - (intOf i).toNat)
  case atStart => exact ⟨0, Nat.zero_le _, rfl, IsSpans.lit _ _, ((Below.refl _ _).alloc (Nat.le_refl _) _).alloc (by simp) _, Blk.new' _ _ _ (by simp)⟩
  case round =>
    obtain ⟨k, hk, rfl, hsp, hbel, hblk⟩ := hrel
    have hsz := hblk.lt
    have Hblk := Lib.hid hblk
    clear hblk
    have Hsp := Lib.hid hsp
    have Hbel := Lib.hid hbel
    have hls := HT.out k hk
    clear hsp hbel
    by_cases hlt : k < l.length
    · obtain ⟨rfl, c0, c1⟩ := HC.out k hlt
      have hgl := (HP.out (by rintro rfl; simp at hlt)).2
      have hltz : (k : Int) < (l.length : Int) := by omega
      have x0 : wr.cell? ⟨b, off + k * 2, none⟩ = some (.string (Str l[k].1)) := (Hbel.out.cell (p := ⟨b, off + k * 2, none⟩) (by exact hgl)).trans c0
      have x1 : wr.cell? ⟨b, off + k * 2 + 1, none⟩ = some (.string (Str l[k].2)) := (Hbel.out.cell (p := ⟨b, off + k * 2 + 1, none⟩) (by exact hgl)).trans c1
      have Htk := Lib.hid (sortR_take l k hlt)
      generalize l[k] = q at *
      obtain ⟨q1, q2⟩ := q
      simp only at x0 x1
      have HI := Lib.hid (insertS_w u3 (sortR (l.take k)) q1 q2 wr Hsp.out hls)
      clear c0 c1
      go_wp2_with (go_at_call 234; refine HI.out.mono ?_; rintro e w2 ⟨v2, rfl, ho, hb⟩; have Ho := Lib.hid ho; have Hb := Lib.hid hb; clear ho hb)
      have hb2 : Below w.heap.size w w2 := Hbel.out.trans (Hb.out.mono (by have := Hbel.out.size; exact this))
      go_roundw
      case rel => exact ⟨k + 1, by omega, by go_num, by rw [Htk.out]; exact IsSpans.owned Ho.out, hb2, Hblk.out.below Hb.out hsz⟩
      case measure => simp [intOf]; omega
    · obtain rfl : k = l.length := by omega
      rw [List.take_length] at Hsp hls
      clear HT HC HP
      obtain ⟨w1, hw1⟩ : ∃ w1 : World, w1 = wr := ⟨_, rfl⟩
      subst hw1
      have HG := Lib.hid (glue_start l)
      obtain ⟨gs, os, caps, ps, hvs, hlcs, hcms, hpps, hccs⟩ := Hsp.out.form
      subst hvs
      unfold maxLen at hcms
      have HPs := Lib.hid hpps
      have HCs := Lib.hid hccs
      clear hpps hccs
      have HE : Hid (sortR l = [] → normR l = []) := Lib.hid (fun h => by unfold normR; rw [h])
      generalize hS : sortR l = S at *
      obtain ⟨R, hR⟩ : ∃ R, normR l = R := ⟨_, rfl⟩
      rw [hR] at HE
      simp only [hR] at HG
      have HRl := Lib.hid hR
      clear hS hR
      go_wp2
      go_loopw [4, 6, 7] (fun vo i n wr => ∃ k : Nat, k ≤ S.length ∧ i = .int .i64 k ∧ Below w1.heap.size w1 wr ∧
        ((k = 0 ∧ vo = .slice (some ⟨w.heap.size + 1, 0, none⟩) 0 0) ∨ (∃ pre c, wr.ownsRow w1.heap.size 41 2 vo (pre ++ [c]).length ((pre ++ [c]).flatMap encS) ∧ pre.length < k ∧ Hid (pre ++ glue c (S.drop k) = R)))) (fun _ i _ _ => S.length - (intOf i).toNat)
      case atStart => exact ⟨0, Nat.zero_le _, rfl, Below.refl _ _, .inl ⟨rfl, rfl⟩⟩
      case round =>
        obtain ⟨k, hk, rfl, hb1, hst⟩ := hrel
        have Hb1 := Lib.hid hb1
        have hs1 := hb1.size
        clear hb1
        by_cases hlt : k < S.length
        · obtain ⟨rfl, c0, c1⟩ := HCs.out k hlt
          have hgl := (HPs.out (by rintro rfl; simp at hlt)).2
          have hltz : (k : Int) < (S.length : Int) := by omega
          have Hd := Lib.hid (List.drop_eq_getElem_cons hlt)
          have Hg0 := Lib.hid (HG.out k hlt)
          generalize S[k] = s at *
          obtain ⟨s1, s2⟩ := s
          have Hsc : Hid (∀ wx : World, Below wr.heap.size wr wx → wx.cell? ⟨gs, os + k * 2, none⟩ = some (.string (Str s1)) ∧ wx.cell? ⟨gs, os + k * 2 + 1, none⟩ = some (.string (Str s2))) := Lib.hid (fun wx hb =>
            ⟨((Hb1.out.trans (hb.mono hs1)).cell (p := ⟨gs, os + k * 2, none⟩) (by exact hgl)).trans c0, ((Hb1.out.trans (hb.mono hs1)).cell (p := ⟨gs, os + k * 2 + 1, none⟩) (by exact hgl)).trans c1⟩)
          clear c0 c1
          rcases hst with ⟨hk0, rfl⟩ | ⟨pre, c, hown, hpk, hp⟩
          · have x0 := (Hsc.out wr (Below.refl _ _)).1
            have x1 := (Hsc.out wr (Below.refl _ _)).2
            have Hg := Lib.hid (Hg0.out hk0)
            clear Hg0 hk0
            go_wp2_with fail
            go_quiet (fail)
            have z0 := (Hsc.out _ (below_drewN wr nq)).1
            have z1 := (Hsc.out _ (below_drewN wr nq)).2
            go_wp2_with (at_builtin; refine append_lit rfl _ _ rfl (w.heap.size + 1) rfl _ [(s1, s2)] rfl (one_spans (s1, s2) _ rfl) (by simp) (by simp) ?_; intro v1 w2 hown hbel)
            have Ho1 := Lib.hid (owns_lower hown (show w1.heap.size ≤ _ by simp; omega))
            have Hb2 : Hid (Below w1.heap.size w1 w2) := Lib.hid (((Hb1.out.trans (below_drewN _ _)).alloc (by exact hs1) _).trans (hbel.mono (by simp; omega)))
            clear hown hbel
            go_wp2
            go_roundw
            case rel => exact ⟨k + 1, by omega, by go_num, Hb2.out, .inr ⟨[], (s1, s2), Ho1.out, by simp, Lib.hid (by rw [List.nil_append]; exact Hg.out)⟩⟩
            case measure => simp [intOf]; omega
          · obtain ⟨po, capo, rfl, hco, hcmo, hpo⟩ := own_form hown
            obtain ⟨g, rfl⟩ := hpo (by simp)
            unfold maxLen at hcmo
            have hlen : (pre ++ [c]).length = pre.length + 1 := by simp
            rw [hlen] at hown hco
            simp only [hlen]
            have hgb := hown.lt g rfl
            have hoc := own_cells hown pre.length (by simp)
            rw [List.getElem_append_right (Nat.le_refl _)] at hoc
            simp only [Nat.sub_self, List.getElem_cons_zero] at hoc
            obtain ⟨c1, c2⟩ := c
            have Hoc : Hid (∀ wx : World, Below wr.heap.size wr wx → wx.cell? ⟨g, pre.length * 2, none⟩ = some (.string (Str c1)) ∧ wx.cell? ⟨g, pre.length * 2 + 1, none⟩ = some (.string (Str c2))) := Lib.hid (fun wx hb =>
              ⟨(hb.cell (p := ⟨g, pre.length * 2, none⟩) (by exact hgb.2)).trans hoc.1, (hb.cell (p := ⟨g, pre.length * 2 + 1, none⟩) (by exact hgb.2)).trans hoc.2⟩)
            have Hown := Lib.hid hown
            clear hown hoc Hg0
            have hpl : pre.length < 1000 := by omega
            have Hgl : Hid (glue (c1, c2) (S.drop k) = if apartS (c1, c2) (s1, s2) then (c1, c2) :: glue (s1, s2) (S.drop (k + 1)) else glue (growS (c1, c2) (s1, s2)) (S.drop (k + 1))) := Lib.hid (by rw [Hd.out, glue])
            have hj1 : ((pre.length + 1 : Nat) : Int) - 1 = (pre.length : Int) := by omega
            have hj2 : IntKind.i64.wrap (pre.length : Int) = (pre.length : Int) := by rw [IntKind.wrap_i64]; omega
            generalize hpj : pre.length = j at *
            have hj3 : ¬ ((j : Int) < 0) := by omega
            have hj4 : (j : Int) < (j : Int) + 1 := by omega
            have x0 := fun n => (Hsc.out _ (below_drewN wr n)).1
            have x1 := fun n => (Hsc.out _ (below_drewN wr n)).2
            have y0 := fun n => (Hoc.out _ (below_drewN wr n)).1
            have y1 := fun n => (Hoc.out _ (below_drewN wr n)).2
            cases ha : apartS (c1, c2) (s1, s2) with
            | true =>
              unfold apartS at ha
              rw [Bool.and_eq_true] at ha
              obtain ⟨ha1, ha2⟩ := ha
              have hc2 : (c2 == []) = false := by cases c2 <;> simp_all
              simp only at ha2
              go_wp2_with fail
              go_quiet (fail)
              have Hp2 : Hid ((pre ++ [(c1, c2)]) ++ glue (s1, s2) (S.drop (k + 1)) = R) := Lib.hid (by rw [← hp.out, Hgl.out, if_pos (by unfold apartS; simp only [ha1, ha2]; rfl), List.append_assoc]; rfl)
              have z0 := (Hsc.out _ (below_drewN wr nq)).1
              have z1 := (Hsc.out _ (below_drewN wr nq)).2
              clear hp Hgl
              go_wp2_with (at_builtin; refine append_spans rfl _ _ rfl w1.heap.size _ (pre ++ [(c1, c2)]) rfl (World.ownsRow.alloc (by rw [hlen]; exact owns_below Hown.out (below_drewN _ _)) _) _ [(s1, s2)] rfl (one_spans (s1, s2) _ rfl) (by rw [hlen]; simp; omega) (by simp; omega) ?_; intro v1 w2 hown hbel)
              have Ho1 := Lib.hid hown
              have Hb2 : Hid (Below w1.heap.size w1 w2) := Lib.hid (((Hb1.out.trans (below_drewN _ _)).alloc (by exact hs1) _).trans hbel)
              clear hown hbel
              go_wp2
              go_roundw
              case rel => exact ⟨k + 1, by omega, by go_num, Hb2.out, .inr ⟨pre ++ [(c1, c2)], (s1, s2), Ho1.out, by rw [hlen]; omega, Hp2⟩⟩
              case measure => simp [intOf]; omega
            | false =>
              have Hp2 : Hid (pre ++ glue (growS (c1, c2) (s1, s2)) (S.drop (k + 1)) = R) := Lib.hid (by rw [← hp.out, Hgl.out, if_neg (by rw [ha]; simp)])
              have Hgr : Hid (growS (c1, c2) (s1, s2) = if ltP (hiP c2) (hiP s2) then (c1, s2) else (c1, c2)) := Lib.hid (by unfold growS; rfl)
              have hless := fun wx => rless_w c2 s2 wx
              clear hp Hgl
              generalize ltP (hiP c2) (hiP s2) = tt at *
              generalize growS (c1, c2) (s1, s2) = gg at *
              unfold apartS at ha
              simp only at ha
              have hor : (c2 == []) = true ∨ ((c2 == []) = false ∧ Op.bytesLess c2 s1 = false) := by
                cases c2 with
                | nil => exact .inl rfl
                | cons x r => exact .inr ⟨rfl, by simpa using ha⟩
              clear ha
              go_wp2_with fail
              go_cut [53] (fun s53 wx => s53 = .bool false ∧ Grown wr wx)
              case first =>
                rcases hor with hc2 | ⟨hc2, hl2⟩
                · have y1 := fun n os => (Hoc.out _ (below_grown wr n os (Nat.le_refl _))).2
                  refine wp_region_quiet_grown mixed (by kernel_rfl) ?_
                  repeat (first | go_big_quiet_skip | (refine wpQuiet_step (fun K hK => ?_); have HK := Lib.hid hK; clear hK; go_simp; first | (refine HK.out _ ?_; clear HK K) | (apply Exists.intro; refine ⟨fun _ => ?_, HK.out _ ?_⟩; skip; clear HK K)))
                  refine wpQuiet_nil ?_
                  intro _ hw'
                  obtain ⟨⟨nq, osq⟩, hw''⟩ := hw'
                  subst hw''
                  go_wp2_with fail
                  go_meet
                  exact ⟨rfl, nq, osq, rfl⟩
                · go_quiet (fail)
                  go_wp2_with fail
                  go_meet
                  exact ⟨rfl, nq, #[], by rw [grow_empty]⟩
              case rest =>
                obtain ⟨rfl, hgw⟩ := hcut
                have hwb : Below wr.heap.size wr wc := hgw.below (Nat.le_refl _)
                have hws := hwb.size
                have Hwb := Lib.hid hwb
                clear hor hgw hwb
                have e0 := fun n os => (Hsc.out _ (Hwb.out.trans (below_grown wc n os hws))).1
                have e1 := fun n os => (Hsc.out _ (Hwb.out.trans (below_grown wc n os hws))).2
                have f0 := fun n os => (Hoc.out _ (Hwb.out.trans (below_grown wc n os hws))).1
                have f1 := fun n os => (Hoc.out _ (Hwb.out.trans (below_grown wc n os hws))).2
                clear x0 x1 y0 y1
                go_wp2_with fail
                go_quiet_grown (first | (go_at_call 161; refine calls_grown (hless _)))
                obtain ⟨wd, hwd⟩ : ∃ wd : World, wd = grow (wc.drewN nq) osq := ⟨_, rfl⟩
                rw [← hwd]
                have hcd : Below wr.heap.size wr wd := by rw [hwd]; exact Hwb.out.trans (below_grown wc nq osq hws)
                have Hbd : Hid (Below w1.heap.size w1 wd) := Lib.hid (Hb1.out.trans (hcd.mono hs1))
                have Hod := Lib.hid (owns_below Hown.out hcd)
                have e1 := (Hsc.out wd hcd).2
                have f1 := (Hoc.out wd hcd).2
                have f2 : wd.frozen? ⟨g, j * 2 + 1, none⟩ = false := World.ownsRow.frozenAt (Hod.out) (j * 2 + 1)
                clear hcd hwd e0 f0
                cases tt with
                | true =>
                  have Hgq : Hid (gg = (c1, s2)) := Hgr
                  clear Hgr hless
                  go_wp2
                  go_roundw
                  case rel =>
                    obtain ⟨o1, o2⟩ := World.ownsRow.stored Hod.out (j * 2 + 1) (.string (Str s2))
                    rw [flatS_hi pre c1 c2 s2 j hpj] at o1
                    exact ⟨k + 1, by omega, by go_num, Below.grown Hbd.out o2 Hbd.out.size (fun q hq => by cases hq; exact hgb.1), .inr ⟨pre, (c1, s2), by simpa [hpj] using o1, by omega, by rw [← Hgq.out]; exact Hp2⟩⟩
                  case measure => simp [intOf]; omega
                | false =>
                  have Hgq : Hid (gg = (c1, c2)) := Hgr
                  clear Hgr hless
                  go_wp2
                  go_roundw
                  case rel => exact ⟨k + 1, by omega, by go_num, Hbd.out, .inr ⟨pre, (c1, c2), by rw [hlen]; exact Hod.out, by omega, by rw [← Hgq.out]; exact Hp2⟩⟩
                  case measure => simp [intOf]; omega
        · obtain rfl : k = S.length := by omega
          have hbw : Below w.heap.size w wr := Hbel.out.trans (Hb1.out.mono Hbel.out.size)
          have Hbw := Lib.hid hbw
          clear hbw
          rcases hst with ⟨hk0, rfl⟩ | ⟨pre, c, hown, hpk, hp⟩
          · have hR : R = [] := HE.out (List.length_eq_zero_iff.1 hk0)
            have hbk : w.heap.size ≤ w.heap.size + 1 ∧ (wr.ownsRow w.heap.size 41 2 (.slice (some ⟨w.heap.size + 1, 0, none⟩) 0 0) 0 []) := ⟨Nat.le_succ _, rfl, .inr ⟨_, 0, #[], rfl, Nat.le_succ _, Hblk.out.below Hb1.out hsz, Nat.le_refl _, by unfold maxLen; omega, rfl, rfl⟩⟩
            have HR2 := Lib.hid (HRl.out.trans hR)
            clear hR HE
            clear hk0
            go_wp2
            go_ret
            exact ⟨_, rfl, by rw [HR2.out]; exact hbk.2, Hbw.out⟩
          · rw [List.drop_length, glue] at hp
            have Hown := Lib.hid hown
            clear hown
            go_wp2
            go_ret
            refine ⟨_, rfl, ?_, Hbw.out⟩
            rw [HRl.out, ← hp.out]
            exact owns_lower Hown.out Hbel.out.size
theorem step_own {P : Program} {ops : Array Oper} {o : Oper} {a : Act} {w : World} {K : Act → World → Prop} {Q : Exit → Act → World → Prop} {E : Prop}
    (hg : o.guard = none) (s x : Operand) (t : TypeId) (hop : o.op = Op.call { callee := Callee.builtin Builtin.append, args := #[s, x], argTypes := #[t, t] })
    (base : Nat) (e : TypeId) (i : TypeInfo) (z : Value) (size bytes : Nat) (h1 : P.underlying t = some (.slice e)) (h2 : P.info? e = some i) (h3 : i.zero = some z) (h4 : i.size = size) (h5 : i.bytes = bytes) (h6 : z.cells.size = size) (h7 : 0 < size)
    (v : Value) (n : Nat) (xs : List Value) (hs : a.eval s = v) (hown : w.ownsRow base e size v n xs)
    (ad : Addr) (m c : Nat) (news : List Value) (hx : a.eval x = .slice (some ad) m c) (hn : news.length = m * size) (hc : ∀ j u, news[j]? = some u → w.cell? (ad.add j) = some u) (h1c : ∀ u ∈ news, u.oneCell' = true)
    (b1 : n + m ≤ maxLen) (b2 : (n + m) * bytes ≤ 140737488355328) (b3 : base ≤ w.heap.size)
    (hK : ∀ v' w', w'.ownsRow base e size v' (n + m) (xs ++ news) → w.grownBy w' v.ownBlock → K (a.put o.dst v') w') :
    if Region.wanted o (yielded ops a.tmps) = true then Oper.wp P o a w K Q else E := by
  have hw : Region.wanted o (yielded ops a.tmps) = true := by simp [Region.wanted, hg]
  rw [if_pos hw]
  obtain ⟨v', w', hrun, r1, r2, _⟩ := run_append_own (P := P) w base t o.type e i z size bytes h1 h2 h3 h4 h5 h6 h7 v n xs hown ad m c news hn hc h1c b1 b2 b3
  unfold Oper.wp
  simp [execOp, hop, resolve, invoke, builtin, hs, hx, hrun, Result.andThen]
  exact hK v' w' r1 r2
theorem flatC_take {f : Sp → List Sp} (l : List Sp) (k : Nat) (h : k < l.length) : (l.take (k + 1)).flatMap f = (l.take k).flatMap f ++ f l[k] := by
  rw [List.take_add_one, List.getElem?_eq_getElem h, List.flatMap_append]; simp
theorem flat_cut_len (s : Sp) (l : List Sp) : (l.flatMap (cutR s)).length ≤ 2 * l.length := by
  induction l with
  | nil => simp
  | cons x l ih =>
    rw [List.flatMap_cons, List.length_append, List.length_cons]
    have : (cutR s x).length ≤ 2 := by unfold cutR; rw [List.length_append]; split <;> split <;> simp
    omega
theorem minus_take (l m : List Sp) (k : Nat) (h : k < m.length) : minusS l (m.take (k + 1)) = minusStep (minusS l (m.take k)) m[k] := by
  rw [minusStep_eq, List.take_add_one, List.getElem?_eq_getElem h]; rfl
set_option maxRecDepth 100000 in
set_option maxHeartbeats 4000000 in
theorem rminus_w (v0 v1 : Value) (l m : List Sp) (w : World) (h0 : IsSpans w v0 l) (h1 : IsSpans w v1 m) (hl : l.length ≤ 400) (hm : m.length ≤ 100) :
    Calls Tryz.prog 170 #[v0, v1] w fun e w' => ∃ v', e = .returned v' ∧ w'.ownsRow w.heap.size 41 2 v' (minusS l m).length ((minusS l m).flatMap encS) ∧ Below w.heap.size w w' := by
  have mixed := mixedA
  obtain ⟨i0, hi, hz0, hz1, hz2⟩ := info_parts infoS
  have HN := Lib.hid (rnorm_w v0 l w h0 (by omega))
  have H1 := Lib.hid h1
  obtain ⟨b, off, cap, p, rfl, hlc, hcm, hpp, hcc⟩ := h1.form
  unfold maxLen at hcm
  have HP := Lib.hid hpp
  have HC := Lib.hid hcc
  have HL : Hid (∀ k, k ≤ m.length → (minusS l (m.take k)).length ≤ 500) := Lib.hid (fun k hk => by have := minus_length l (m.take k); rw [List.length_take] at this; omega)
  clear h0 h1 hpp hcc
  go_enter Tryz.func170, Tryz.ntmps170
  go_wp2_with (go_at_call 210; refine HN.out.mono ?_; rintro e w1 ⟨v1, rfl, ho, hb⟩; have Ho1 := Lib.hid ho; have Hb1 := Lib.hid hb; clear ho hb)
  go_loopw [5, 6, 7, 8] (fun vl i vn j wr => ∃ k : Nat, k ≤ m.length ∧ i = .int .i64 k ∧ wr.ownsRow w.heap.size 41 2 vl (minusS l (m.take k)).length ((minusS l (m.take k)).flatMap encS) ∧ Below w.heap.size w wr) (fun _ i _ _ _ => m.length - (intOf i).toNat)
  case atStart => exact ⟨0, Nat.zero_le _, rfl, Ho1.out, Hb1.out⟩
  case round =>
    obtain ⟨k, hk, rfl, hown, hbel⟩ := hrel
    have hsz := hbel.size
    have Hown := Lib.hid hown
    have Hbel := Lib.hid hbel
    clear hown hbel Ho1 Hb1
    by_cases hlt : k < m.length
    · obtain ⟨rfl, c0, c1⟩ := HC.out k hlt
      have hgl := (HP.out (by rintro rfl; simp at hlt)).2
      have hltz : (k : Int) < (m.length : Int) := by omega
      have Htk := Lib.hid (minus_take l m k hlt)
      have hll := HL.out k hk
      generalize m[k] = s at *
      obtain ⟨s1, s2⟩ := s
      have Hsc : Hid (∀ wx : World, Below w.heap.size w wx → wx.cell? ⟨b, off + k * 2, none⟩ = some (.string (Str s1)) ∧ wx.cell? ⟨b, off + k * 2 + 1, none⟩ = some (.string (Str s2))) := Lib.hid (fun wx hb =>
        ⟨(hb.cell (p := ⟨b, off + k * 2, none⟩) (by exact hgl)).trans c0, (hb.cell (p := ⟨b, off + k * 2 + 1, none⟩) (by exact hgl)).trans c1⟩)
      have x0 := (Hsc.out wr Hbel.out).1
      have x1 := (Hsc.out wr Hbel.out).2
      have he := fun wx => rempty_w s1 s2 wx
      have Hst : Hid (minusStep (minusS l (m.take k)) (s1, s2) = if emptyB (s1, s2) then minusS l (m.take k) else normS ((minusS l (m.take k)).flatMap (cutR (s1, s2)))) := Lib.hid rfl
      generalize hem : emptyB (s1, s2) = em at *
      clear c0 c1
      cases em with
      | true =>
        have Ht2 : Hid (minusS l (m.take (k + 1)) = minusS l (m.take k)) := Lib.hid (by rw [Htk.out, Hst.out]; rfl)
        clear Hst
        go_wp2_with (go_at_call 32; refine (he _).mono ?_; rintro e w2 ⟨rfl, hg⟩; have HG := Lib.hid hg; clear hg)
        have Hb2 : Hid (Below w.heap.size w w2) := Lib.hid (Hbel.out.trans (HG.out.below hsz))
        have Hb2r : Hid (Below wr.heap.size wr w2) := Lib.hid (HG.out.below (Nat.le_refl _))
        go_roundw
        case rel => exact ⟨k + 1, by omega, by go_num, by rw [Ht2.out]; exact owns_below Hown.out Hb2r.out, Hb2.out⟩
        case measure => simp [intOf]; omega
      | false =>
        have Ht2 : Hid (minusS l (m.take (k + 1)) = normS ((minusS l (m.take k)).flatMap (cutR (s1, s2)))) := Lib.hid (by rw [Htk.out, Hst.out]; rfl)
        clear Hst Htk
        generalize minusS l (m.take k) = L at *
        go_wp2_with (go_at_call 32; refine (he _).mono ?_; rintro e w2 ⟨rfl, hg⟩; have HG := Lib.hid hg; clear hg)
        have Hb2 : Hid (Below w.heap.size w w2) := Lib.hid (Hbel.out.trans (HG.out.below hsz))
        have Hb2r : Hid (Below wr.heap.size wr w2) := Lib.hid (HG.out.below (Nat.le_refl _))
        have HownL := Lib.hid (IsSpans.owned (owns_below Hown.out Hb2r.out))
        obtain ⟨gs, os, caps, ps, rfl, hlcs, hcms, hpps, hccs⟩ := HownL.out.form
        unfold maxLen at hcms
        have HPs := Lib.hid hpps
        have HCs := Lib.hid hccs
        clear hpps hccs
        have Hl0 : Hid ((w2.alloc (.cells #[] 41)).ownsRow w2.heap.size 41 2 (.slice (some ⟨w2.heap.size, 0, none⟩) 0 0) ([] : List Sp).length (([] : List Sp).flatMap encS)) := Lib.hid ⟨rfl, .inr ⟨w2.heap.size, 0, #[], rfl, Nat.le_refl _, Blk.new' _ _ _ rfl, Nat.le_refl _, by unfold maxLen; omega, rfl, rfl⟩⟩
        go_loopw [7, 8] (fun vn j wi => ∃ k2 : Nat, k2 ≤ L.length ∧ j = .int .i64 k2 ∧ wi.ownsRow w2.heap.size 41 2 vn ((L.take k2).flatMap (cutR (s1, s2))).length (((L.take k2).flatMap (cutR (s1, s2))).flatMap encS) ∧ Below w2.heap.size w2 wi) (fun _ j _ => L.length - (intOf j).toNat)
        case atStart => exact ⟨0, Nat.zero_le _, rfl, Hl0.out, (Below.refl _ _).alloc (Nat.le_refl _) _⟩
        case round =>
          obtain ⟨k2, hk2, rfl, hown2, hbel2⟩ := hrel
          have hsz2 := hbel2.size
          have Hown2 := Lib.hid hown2
          have Hbel2 := Lib.hid hbel2
          clear hown2 hbel2 Hl0
          by_cases hlt2 : k2 < L.length
          · obtain ⟨rfl, d0, d1⟩ := HCs.out k2 hlt2
            have hgl2 := (HPs.out (by rintro rfl; simp at hlt2)).2
            have hltz2 : (k2 : Int) < (L.length : Int) := by omega
            have Hft := Lib.hid (flatC_take (f := cutR (s1, s2)) L k2 hlt2)
            have hfl : ((L.take k2).flatMap (cutR (s1, s2))).length ≤ 1000 := by have := flat_cut_len (s1, s2) (L.take k2); rw [List.length_take] at this; omega
            generalize L[k2] = x at *
            obtain ⟨y1, y2⟩ := x
            have Hdc : Hid (∀ wx : World, Below w2.heap.size w2 wx → wx.cell? ⟨gs, os + k2 * 2, none⟩ = some (.string (Str y1)) ∧ wx.cell? ⟨gs, os + k2 * 2 + 1, none⟩ = some (.string (Str y2))) := Lib.hid (fun wx hb =>
              ⟨(hb.cell (p := ⟨gs, os + k2 * 2, none⟩) (by exact hgl2)).trans d0, (hb.cell (p := ⟨gs, os + k2 * 2 + 1, none⟩) (by exact hgl2)).trans d1⟩)
            have Hs2 : Hid (∀ wx : World, Below w2.heap.size w2 wx → wx.cell? ⟨b, off + k * 2, none⟩ = some (.string (Str s1)) ∧ wx.cell? ⟨b, off + k * 2 + 1, none⟩ = some (.string (Str s2))) := Lib.hid (fun wx hb => Hsc.out wx (Hb2.out.trans (hb.mono Hb2.out.size)))
            clear d0 d1
            generalize hacc : (L.take k2).flatMap (cutR (s1, s2)) = acc at *
            obtain ⟨xb0, xb1⟩ := Hs2.out _ Hbel2.out
            clear x0 x1 he hem
            go_upto_if 34 with fail
            go_cut [7] (fun vo wx => ∃ acc1, acc1 = acc ++ (if s1 = [] then [] else [meetS (y1, y2) ([], s1)]) ∧ wx.ownsRow w2.heap.size 41 2 vo acc1.length (acc1.flatMap encS) ∧ Below w2.heap.size w2 wx)
            case first =>
              by_cases hs : s1 = []
              · have hb : s1.isEmpty = true := by simpa using hs
                have Hs := Lib.hid hs
                clear hs
                rw [hb]
                go_wp2
                go_meet
                exact ⟨acc, by rw [if_pos Hs.out, List.append_nil], Hown2.out, Hbel2.out⟩
              · have hb : s1.isEmpty = false := by simpa using hs
                obtain ⟨yb0, yb1⟩ := Hdc.out _ Hbel2.out
                have hm := fun wx => rmeet_w (y1, y2) ([], s1) wx
                simp only [strS] at hm
                have Hz : Hid (acc ++ [meetS (y1, y2) ([], s1)] = acc ++ (if s1 = [] then [] else [meetS (y1, y2) ([], s1)])) := Lib.hid (by rw [if_neg hs])
                generalize meetS (y1, y2) ([], s1) = z at *
                obtain ⟨z1, z2⟩ := z
                clear hs
                rw [hb]
                go_wp2_with fail
                go_region_law (first
                  | (refine step_own rfl _ _ 73 rfl w2.heap.size 41 i0 (.agg #[.string ⟨#[]⟩, .string ⟨#[]⟩]) 2 32 Tryz.underlying73 hi hz0 hz1 hz2 rfl (by decide) u7 acc.length (acc.flatMap encS) (by simp [Act.eval, Act.put]) (owns_below Hown2.out (by repeat (first | with_reducible exact NB1.out | with_reducible refine Below.drew ?_ | with_reducible refine Below.alloc ?_ ?_ _ | (have h := NB1.out.size; omega) | (have h := NB1.out.size; simp only [World.size_alloc, World.size_drew]; omega)))) _ 1 1 [.string (Str z1), .string (Str z2)] (by simp [Act.eval, Act.put]; rfl) rfl (cells_new' _ _ _ (by simp)) (by intro u hu; simp at hu; rcases hu with rfl | rfl <;> rfl) (by unfold maxLen; omega) (by omega) (by have h := NB1.out.size; simp only [World.size_alloc]; omega) ?_; intro v' w3 hown' hgrow)
                  | (go_simp; go_at_call 82; refine (hm _).mono ?_; rintro e w4 ⟨rfl, hg1⟩; have NB1 : Hid (Below wr.heap.size wr w4) := Lib.hid (Below.trans ((Below.refl wr.heap.size wr).drew) (hg1.below (Nat.le_refl _))); have nb1 := NB1.out.size; clear hg1))
                all_goals
                  have Hown' := Lib.hid hown'
                  have Hb3 : Hid (Below w2.heap.size w2 w3) := Lib.hid (Below.grown ((Below.trans Hbel2.out (NB1.out.mono hsz2)).alloc (by omega) _) hgrow (by simp; omega) (fun q hq => (Hown2.out.lt q hq).1))
                  clear hown' hgrow
                  go_wp2_with fail
                  go_meet
                  exact ⟨acc ++ [(z1, z2)], Hz.out, by rw [List.length_append, List.flatMap_append]; exact Hown'.out, Hb3.out⟩
            case rest =>
              obtain ⟨acc1, hacc1, hown1, hbel1⟩ := hcut
              have ha1 : acc1.length ≤ 1001 := by rw [hacc1, List.length_append]; split <;> simp <;> omega
              have hsz1 := hbel1.size
              have Hown1 := Lib.hid hown1
              have Hbel1 := Lib.hid hbel1
              have Hft2 : Hid ((L.take (k2 + 1)).flatMap (cutR (s1, s2)) = acc1 ++ (if s2 = [] then [] else [meetS (y1, y2) (s2, [])])) := Lib.hid (by rw [Hft.out, hacc1, List.append_assoc]; rfl)
              clear hown1 hbel1 hacc1 xb0 xb1 Hft
              obtain ⟨xb0, xb1⟩ := Hs2.out _ Hbel1.out
              by_cases hs : s2 = []
              · have hb : s2.isEmpty = true := by simpa using hs
                have Hz : Hid ((L.take (k2 + 1)).flatMap (cutR (s1, s2)) = acc1) := Lib.hid (by rw [Hft2.out, if_pos hs, List.append_nil])
                clear hs Hft2
                go_wp2
                go_roundw
                case rel => exact ⟨k2 + 1, by omega, by go_num, by rw [Hz.out]; exact Hown1.out, Hbel1.out⟩
                case measure => simp [intOf]; omega
              · have hb : s2.isEmpty = false := by simpa using hs
                obtain ⟨yb0, yb1⟩ := Hdc.out _ Hbel1.out
                have hm := fun wx => rmeet_w (y1, y2) (s2, []) wx
                simp only [strS] at hm
                have Hz : Hid ((L.take (k2 + 1)).flatMap (cutR (s1, s2)) = acc1 ++ [meetS (y1, y2) (s2, [])]) := Lib.hid (by rw [Hft2.out, if_neg hs])
                generalize meetS (y1, y2) (s2, []) = z at *
                obtain ⟨z1, z2⟩ := z
                clear hs Hft2

                go_wp2_with fail
                go_region_law (first
                  | (refine step_own rfl _ _ 73 rfl w2.heap.size 41 i0 (.agg #[.string ⟨#[]⟩, .string ⟨#[]⟩]) 2 32 Tryz.underlying73 hi hz0 hz1 hz2 rfl (by decide) u7 acc1.length (acc1.flatMap encS) (by simp [Act.eval, Act.put]) (owns_below Hown1.out (by repeat (first | with_reducible exact NB1.out | with_reducible refine Below.drew ?_ | with_reducible refine Below.alloc ?_ ?_ _ | (have h := NB1.out.size; omega) | (have h := NB1.out.size; simp only [World.size_alloc, World.size_drew]; omega)))) _ 1 1 [.string (Str z1), .string (Str z2)] (by simp [Act.eval, Act.put]; rfl) rfl (cells_new' _ _ _ (by simp)) (by intro u hu; simp at hu; rcases hu with rfl | rfl <;> rfl) (by unfold maxLen; omega) (by omega) (by have h := NB1.out.size; simp only [World.size_alloc]; omega) ?_; intro v' w3 hown' hgrow)
                  | (go_simp; go_at_call 82; refine (hm _).mono ?_; rintro e w4 ⟨rfl, hg1⟩; have NB1 : Hid (Below wc.heap.size wc w4) := Lib.hid (Below.trans ((Below.refl wc.heap.size wc).drew) (hg1.below (Nat.le_refl _))); have nb1 := NB1.out.size; clear hg1))
                all_goals
                  have Hown' := Lib.hid hown'
                  have Hb3 : Hid (Below w2.heap.size w2 w3) := Lib.hid (Below.grown ((Below.trans Hbel1.out (NB1.out.mono hsz1)).alloc (by omega) _) hgrow (by simp; omega) (fun q hq => (Hown1.out.lt q hq).1))
                  clear hown' hgrow
                  go_wp2
                  go_roundw
                  case rel => exact ⟨k2 + 1, by omega, by go_num, by rw [Hz.out, List.length_append, List.flatMap_append]; exact Hown'.out, Hb3.out⟩
                  case measure => simp [intOf]; omega
          · obtain rfl : k2 = L.length := by omega
            rw [List.take_length] at Hown2
            have HN2 := Lib.hid (rnorm_w u7 (L.flatMap (cutR (s1, s2))) wr (IsSpans.owned Hown2.out) (by have := flat_cut_len (s1, s2) L; omega))
            clear HN Hown2
            go_wp2_with (go_at_call 210; refine HN2.out.mono ?_; rintro e w5 ⟨v5, rfl, ho, hb⟩; have Ho5 := Lib.hid ho; have Hb5 := Lib.hid hb; clear ho hb)
            have hbb : Below w.heap.size w w5 := (Hb2.out.trans (Hbel2.out.mono Hb2.out.size)).trans (Hb5.out.mono (Nat.le_trans Hb2.out.size hsz2))
            go_roundw
            case rel => exact ⟨k + 1, by omega, by go_num, by rw [Ht2.out]; exact owns_lower Ho5.out (Nat.le_trans Hb2.out.size hsz2), hbb⟩
            case measure => simp [intOf]; omega
    · obtain rfl : k = m.length := by omega
      rw [List.take_length] at Hown
      go_wp2
      go_ret
      exact ⟨_, rfl, Hown.out, Hbel.out⟩

end Go.Proofs.YtmbfghbhajmpiaaGreat
