/-
  Pools, plain: slots, adding, holding, dropping in any order, what is reached, and what all that keeps. No program.
-/
import Derived.Test.YtlgangcldlphnaaPA
namespace Go.Proofs.Ytlgangcldlphnaa
set_option linter.unusedVariables false

/-- A slot. -/
structure Sl where
  used : Bool
  lost : Bool
  refs : Int
  node : Nd
def zNd : Nd := ⟨[], [], [], [], []⟩
def zSl : Sl := ⟨false, false, 0, zNd⟩
theorem Nd.ext5 {a b : Nd} (h1 : a.pairs = b.pairs) (h2 : a.pivots = b.pivots) (h3 : a.kids = b.kids) (h4 : a.sums = b.sums) (h5 : a.buf = b.buf) : a = b := by
  cases a; cases b; simp at *; exact ⟨h1, h2, h3, h4, h5⟩
theorem Sl.ext4 {a b : Sl} (h1 : a.used = b.used) (h2 : a.lost = b.lost) (h3 : a.refs = b.refs) (h4 : a.node = b.node) : a = b := by
  cases a; cases b; simp at *; exact ⟨h1, h2, h3, h4⟩
/-- The slot with an index, the zero value behind the end. -/
def atP (P : List Sl) (i : Nat) : Sl := P.getD i zSl
theorem atP_lt {P : List Sl} {i : Nat} (h : i < P.length) : atP P i = P[i] := by simp [atP, h]
theorem atP_ge {P : List Sl} {i : Nat} (h : P.length ≤ i) : atP P i = zSl := by simp [atP, h]
theorem atP_set {P : List Sl} {k : Nat} {s : Sl} (i : Nat) (h : k < P.length) : atP (P.set k s) i = if i = k then s else atP P i := by
  unfold atP
  rw [List.getD_eq_getElem?_getD, List.getElem?_set, List.getD_eq_getElem?_getD]
  by_cases e : k = i
  · subst e; simp [h]
  · have : ¬ i = k := fun h => e h.symm
    simp [e, this]
theorem ext_atP {P Q : List Sl} (hl : P.length = Q.length) (h : ∀ i, atP P i = atP Q i) : P = Q := by
  apply List.ext_getElem hl
  intro i h1 h2
  have := h i
  rwa [atP_lt h1, atP_lt h2] at this
/-- The id is that of a used slot. -/
def usedB (P : List Sl) (i : Int) : Bool := decide (0 ≤ i) && (atP P i.toNat).used
theorem usedB_iff {P : List Sl} {i : Int} : usedB P i = true ↔ 0 ≤ i ∧ (atP P i.toNat).used = true := by simp [usedB]
theorem usedB_nat (P : List Sl) (i : Nat) : usedB P (i : Int) = (atP P i).used := by simp [usedB]
theorem used_lt {P : List Sl} {i : Nat} (h : (atP P i).used = true) : i < P.length := by
  rcases Nat.lt_or_ge i P.length with h1 | h1
  · exact h1
  · rw [atP_ge h1] at h; simp [zSl] at h
theorem usedB_lt {P : List Sl} {i : Int} (h : usedB P i = true) : 0 ≤ i ∧ i.toNat < P.length := by
  obtain ⟨h1, h2⟩ := usedB_iff.1 h
  exact ⟨h1, used_lt h2⟩
/-- The least index of a slot that is not used. -/
def freeI (P : List Sl) : Nat := P.findIdx fun s => !s.used
theorem freeI_le (P : List Sl) : freeI P ≤ P.length := List.findIdx_le_length
theorem freeI_used (P : List Sl) : (atP P (freeI P)).used = false := by
  rcases Nat.lt_or_ge (freeI P) P.length with h | h
  · rw [atP_lt h]
    have := List.findIdx_getElem (xs := P) (p := fun s : Sl => !s.used) (w := h)
    rw [Bool.not_eq_true'] at this
    exact this
  · rw [atP_ge h]; rfl
theorem freeI_before {P : List Sl} {i : Nat} (h : i < freeI P) : (atP P i).used = true := by
  have h1 : i < P.length := Nat.lt_of_lt_of_le h (freeI_le P)
  rw [atP_lt h1]
  have := List.not_of_lt_findIdx (xs := P) (p := fun s => !s.used) h
  simpa using this
theorem freeI_eq {P : List Sl} {i : Nat} (h : (atP P i).used = false) (hb : ∀ j, j < i → (atP P j).used = true) (hl : i ≤ P.length) : freeI P = i := by
  rcases Nat.lt_trichotomy (freeI P) i with h1 | h1 | h1
  · have := hb _ h1; rw [freeI_used] at this; cases this
  · exact h1
  · have := freeI_before h1; rw [h] at this; cases this

/-- Held once more. -/
def incS (s : Sl) : Sl := { s with refs := s.refs + 1 }
def incP (P : List Sl) (k : Int) : List Sl := P.set k.toNat (incS (atP P k.toNat))
def heldP (P : List Sl) (ks : List Int) : List Sl := ks.foldl incP P
theorem incP_len (P : List Sl) (k : Int) : (incP P k).length = P.length := by simp [incP]
theorem heldP_len (P : List Sl) (ks : List Int) : (heldP P ks).length = P.length := by
  induction ks generalizing P with
  | nil => rfl
  | cons k ks ih => show (heldP (incP P k) ks).length = _; rw [ih, incP_len]
theorem atP_incP {P : List Sl} {k : Int} (hk : k.toNat < P.length) (i : Nat) : atP (incP P k) i = if i = k.toNat then incS (atP P i) else atP P i := by
  unfold incP
  rw [atP_set i hk]
  by_cases e : i = k.toNat <;> simp [e]
/-- Held once more for each of the ids. -/
def moreS (s : Sl) (n : Nat) : Sl := { s with refs := s.refs + n }
theorem atP_heldP {P : List Sl} {ks : List Int} (hk : ∀ k ∈ ks, 0 ≤ k ∧ k.toNat < P.length) (i : Nat) : atP (heldP P ks) i = moreS (atP P i) (ks.count (i : Int)) := by
  induction ks generalizing P with
  | nil => simp [heldP, moreS]
  | cons k ks ih =>
    show atP (heldP (incP P k) ks) i = _
    obtain ⟨h0, h1⟩ := hk k (List.mem_cons_self)
    rw [ih (fun x hx => by rw [incP_len]; exact hk x (List.mem_cons_of_mem _ hx)), atP_incP h1, List.count_cons]
    by_cases e : i = k.toNat
    · have e2 : (k == (i : Int)) = true := by simp; omega
      rw [if_pos e]
      simp [e2, moreS, incS]; omega
    · have e2 : (k == (i : Int)) = false := by simp; omega
      rw [if_neg e]
      simp [e2, moreS]
/-- Add: the pool, the id, the error. -/
def placeP (P : List Sl) (n : Nd) : List Sl := (if freeI P = P.length then P ++ [zSl] else P).set (freeI P) ⟨true, false, 1, n⟩
def addP (P : List Sl) (n : Nd) : List Sl × Int × Int :=
  if n.kids.all (usedB P) then (if P.length ≤ freeI P ∧ 4096 ≤ freeI P then (P, 0, 111) else (heldP (placeP P n) n.kids, freeI P, 0)) else (P, 0, 110)
theorem placeP_len (P : List Sl) (n : Nd) : (placeP P n).length = if freeI P = P.length then P.length + 1 else P.length := by
  unfold placeP; split <;> simp
theorem placeP_lt (P : List Sl) (n : Nd) : freeI P < (placeP P n).length := by
  rw [placeP_len]; have := freeI_le P; split <;> omega
theorem atP_push (P : List Sl) (i : Nat) : atP (P ++ [zSl]) i = atP P i := by
  rcases Nat.lt_trichotomy i P.length with h | h | h
  · rw [atP_lt h, atP_lt (by simp; omega), List.getElem_append_left h]
  · subst h; rw [atP_ge (Nat.le_refl _), atP_lt (by simp)]; simp
  · have h2 : (P ++ [zSl]).length ≤ i := by rw [List.length_append]; exact h
    rw [atP_ge (Nat.le_of_lt h), atP_ge h2]
theorem atP_placeP (P : List Sl) (n : Nd) (i : Nat) : atP (placeP P n) i = if i = freeI P then ⟨true, false, 1, n⟩ else atP P i := by
  unfold placeP
  have := freeI_le P
  split
  · rw [atP_set i (by simp; omega), atP_push]
  · rw [atP_set i (by omega)]
def getP (P : List Sl) (i : Int) : Nd × Int := if usedB P i then (if (atP P i.toNat).lost then (zNd, 112) else ((atP P i.toNat).node, 0)) else (zNd, 110)
def holdP (P : List Sl) (i : Int) : List Sl × Int := if usedB P i then (incP P i, 0) else (P, 110)
/-- Held once less: the pool, and the ids that are to be dropped then. -/
def decS (s : Sl) : Sl := if s.refs - 1 = 0 then zSl else { s with refs := s.refs - 1 }
def decK (s : Sl) : List Int := if s.refs - 1 = 0 then s.node.kids else []
def decP (P : List Sl) (k : Int) : List Sl := P.set k.toNat (decS (atP P k.toNat))
theorem decP_len (P : List Sl) (k : Int) : (decP P k).length = P.length := by simp [decP]
/-- What all used slots hold. -/
def ownK (s : Sl) : List Int := if s.used then s.node.kids else []
def kidsA (P : List Sl) : List Int := P.flatMap ownK
def muP (P : List Sl) (W : List Int) : Nat := W.length + (kidsA P).length
/-- Dropping all ids of a list: the last one first; the first one first. -/
def runL : Nat → List Sl → List Int → List Sl
  | 0, P, _ => P
  | f + 1, P, W => match W.getLast? with
    | none => P
    | some k => if usedB P k then runL f (decP P k) (W.dropLast ++ decK (atP P k.toNat)) else runL f P W.dropLast
def runQ : Nat → List Sl → List Int → List Sl
  | 0, P, _ => P
  | f + 1, P, W => match W with
    | [] => P
    | k :: V => if usedB P k then runQ f (decP P k) (V ++ decK (atP P k.toNat)) else runQ f P V
/-- Dropping in any order. -/
inductive DR : List Sl → List Int → List Sl → Prop
  | done (P : List Sl) : DR P [] P
  | skip {P R : List Sl} {W V : List Int} {k : Int} : W.Perm (k :: V) → usedB P k = false → DR P V R → DR P W R
  | step {P R : List Sl} {W V : List Int} {k : Int} : W.Perm (k :: V) → usedB P k = true → DR (decP P k) (V ++ decK (atP P k.toNat)) R → DR P W R
theorem kidsA_set {P : List Sl} {k : Nat} (hk : k < P.length) (s : Sl) : (kidsA (P.set k s) ++ ownK (atP P k)).Perm (kidsA P ++ ownK s) := by
  rw [atP_lt hk]
  unfold kidsA
  induction P generalizing k with
  | nil => simp at hk
  | cons x P ih =>
    cases k with
    | zero =>
      simp only [List.set_cons_zero, List.flatMap_cons, List.getElem_cons_zero]
      rw [List.perm_iff_count]; intro a; simp only [List.count_append]; omega
    | succ k =>
      have := ih (k := k) (by simpa using hk)
      simp only [List.set_cons_succ, List.flatMap_cons, List.getElem_cons_succ, List.append_assoc]
      exact this.append_left _
theorem mem_kidsA {P : List Sl} {k : Int} : k ∈ kidsA P ↔ ∃ i : Nat, (atP P i).used = true ∧ k ∈ (atP P i).node.kids := by
  unfold kidsA
  rw [List.mem_flatMap]
  constructor
  · rintro ⟨s, hs, hk⟩
    obtain ⟨i, hi, rfl⟩ := List.mem_iff_getElem.1 hs
    unfold ownK at hk
    split at hk
    · exact ⟨i, by rw [atP_lt hi]; assumption, by rw [atP_lt hi]; exact hk⟩
    · simp at hk
  · rintro ⟨i, hu, hk⟩
    have hi := used_lt hu
    rw [atP_lt hi] at hu hk
    exact ⟨P[i], List.getElem_mem hi, by unfold ownK; rw [hu]; exact hk⟩
theorem decK_own {s : Sl} (h : s.used = true) : (ownK (decS s) ++ decK s) = ownK s := by
  unfold decS decK ownK
  split
  · simp [zSl]
  · simp
/-- What is dropped is held once less in all. -/
theorem kidsA_dec {P : List Sl} {k : Int} (hu : usedB P k = true) : (kidsA (decP P k) ++ decK (atP P k.toNat)).Perm (kidsA P) := by
  obtain ⟨h0, h1⟩ := usedB_iff.1 hu
  have hs := kidsA_set (used_lt h1) (decS (atP P k.toNat))
  have ho := decK_own h1
  rw [List.perm_iff_count] at hs ⊢
  intro a
  have := hs a
  rw [← ho] at this
  unfold decP
  simp only [List.count_append] at this ⊢
  omega
theorem mu_dec {P : List Sl} {k : Int} {V : List Int} (hu : usedB P k = true) : muP (decP P k) (V ++ decK (atP P k.toNat)) = muP P V := by
  have := (kidsA_dec hu).length_eq
  unfold muP
  simp only [List.length_append] at this ⊢
  omega
theorem last_perm {W : List Int} {k : Int} (h : W.getLast? = some k) : W.Perm (k :: W.dropLast) := by
  have hne : W ≠ [] := by rintro rfl; simp at h
  have e : W = W.dropLast ++ [k] := by
    rw [List.getLast?_eq_some_getLast hne] at h
    rw [← Option.some.inj h, List.dropLast_concat_getLast hne]
  exact (List.Perm.of_eq e).trans List.perm_append_comm
theorem runL_dr : ∀ (f : Nat) (P : List Sl) (W : List Int), muP P W ≤ f → DR P W (runL f P W)
  | 0, P, W, h => by
    have : W = [] := List.length_eq_zero_iff.1 (by unfold muP at h; omega)
    subst this; exact .done P
  | f + 1, P, W, h => by
    unfold runL
    cases hl : W.getLast? with
    | none =>
      have : W = [] := by simpa using hl
      subst this; exact .done P
    | some k =>
      have hp := last_perm hl
      have hn : W.length = W.dropLast.length + 1 := hp.length_eq
      by_cases hu : usedB P k = true
      · simp only [hu, if_true]
        exact .step hp hu (runL_dr f _ _ (by rw [mu_dec hu]; unfold muP at *; omega))
      · simp only [hu]
        exact .skip hp (by simpa using hu) (runL_dr f _ _ (by unfold muP at *; omega))
theorem runQ_dr : ∀ (f : Nat) (P : List Sl) (W : List Int), muP P W ≤ f → DR P W (runQ f P W)
  | 0, P, W, h => by
    have : W = [] := List.length_eq_zero_iff.1 (by unfold muP at h; omega)
    subst this; exact .done P
  | f + 1, P, [], h => .done P
  | f + 1, P, k :: V, h => by
    unfold runQ
    by_cases hu : usedB P k = true
    · simp only [hu, if_true]
      exact .step (List.Perm.refl _) hu (runQ_dr f _ _ (by rw [mu_dec hu]; unfold muP at *; simp at h; omega))
    · simp only [hu]
      exact .skip (List.Perm.refl _) (by simpa using hu) (runQ_dr f _ _ (by unfold muP at *; simp at h; omega))
/-- All that is held is there, and counted right: W by callers, the rest by used slots. -/
structure Fair (P : List Sl) (W : List Int) : Prop where
  all : ∀ k ∈ W ++ kidsA P, usedB P k = true
  cnt : ∀ i : Nat, (atP P i).used = true → (atP P i).refs = ((W ++ kidsA P).count (i : Int) : Nat)
theorem Fair.perm {P : List Sl} {W V : List Int} (h : Fair P W) (hp : W.Perm V) : Fair P V :=
  ⟨fun k hk => h.all k ((hp.append_right _).mem_iff.2 hk), fun i hi => by rw [h.cnt i hi, (hp.append_right _).count_eq]⟩
theorem atP_decP {P : List Sl} {k : Int} (hu : usedB P k = true) (i : Nat) : atP (decP P k) i = if i = k.toNat then decS (atP P i) else atP P i := by
  unfold decP
  rw [atP_set i (usedB_lt hu).2]
  by_cases e : i = k.toNat <;> simp [e]
theorem decS_used {s : Sl} (h : (decS s).used = true) : s.used = true ∧ s.refs - 1 ≠ 0 ∧ (decS s).refs = s.refs - 1 := by
  unfold decS at *
  split at h
  · simp [zSl] at h
  · rename_i hne; rw [if_neg hne]; exact ⟨h, hne, rfl⟩
theorem Fair.dec {P : List Sl} {k : Int} {V : List Int} (h : Fair P (k :: V)) : Fair (decP P k) (V ++ decK (atP P k.toNat)) := by
  have hu : usedB P k = true := h.all k (by simp)
  obtain ⟨h0, h1⟩ := usedB_iff.1 hu
  have hk : ((k.toNat : Nat) : Int) = k := by omega
  have hp : (V ++ decK (atP P k.toNat) ++ kidsA (decP P k)).Perm (V ++ kidsA P) := by
    rw [List.append_assoc]
    exact (List.perm_append_comm.trans (kidsA_dec hu)).append_left _
  have hc : ∀ j : Int, ((k :: V) ++ kidsA P).count j = (V ++ kidsA P).count j + if k == j then 1 else 0 := by
    intro j; rw [List.cons_append, List.count_cons]
  refine ⟨fun j hj => ?_, fun i hi => ?_⟩
  · have hj1 := hp.mem_iff.1 hj
    have hj2 := h.all j (by rw [List.cons_append]; exact List.mem_cons_of_mem _ hj1)
    obtain ⟨j0, j1⟩ := usedB_iff.1 hj2
    rw [usedB_iff]
    refine ⟨j0, ?_⟩
    rw [atP_decP hu]
    split
    · rename_i e
      have hjk : j = k := by omega
      subst hjk
      have hr := h.cnt j.toNat j1
      rw [hk, hc] at hr
      have hpos : 0 < (V ++ kidsA P).count j := List.count_pos_iff.2 hj1
      unfold decS
      rw [if_neg]
      · exact j1
      · rw [beq_self_eq_true, if_pos rfl] at hr; omega
    · exact j1
  · rw [hp.count_eq]
    rw [atP_decP hu] at hi ⊢
    have hci := hc (i : Int)
    split at hi
    · rename_i e
      obtain ⟨a1, a2, a3⟩ := decS_used hi
      rw [if_pos e, a3, h.cnt i a1, hci]
      have : (k == (i : Int)) = true := by simp; omega
      simp [this]
    · rename_i e
      rw [if_neg e, h.cnt i hi, hci]
      have : (k == (i : Int)) = false := by simp; omega
      simp [this]
/-- Unused slots are zero; used ones are held. -/
structure Tidy (P : List Sl) : Prop where
  clean : ∀ i : Nat, (atP P i).used = false → atP P i = zSl
  pos : ∀ i : Nat, (atP P i).used = true → 1 ≤ (atP P i).refs
theorem Tidy.dec {P : List Sl} {k : Int} (h : Tidy P) (hu : usedB P k = true) : Tidy (decP P k) := by
  refine ⟨fun i hi => ?_, fun i hi => ?_⟩
  · rw [atP_decP hu] at hi ⊢
    split
    · rename_i e
      rw [if_pos e] at hi
      unfold decS at *
      split at hi
      · rw [if_pos (by assumption)]
      · rename_i hne
        rw [e, (usedB_iff.1 hu).2] at hi; cases hi
    · rename_i e
      rw [if_neg e] at hi
      exact h.clean i hi
  · rw [atP_decP hu] at hi ⊢
    split
    · rename_i e
      rw [if_pos e] at hi
      obtain ⟨a1, a2, a3⟩ := decS_used hi
      have := h.pos i a1
      omega
    · rename_i e
      rw [if_neg e] at hi
      exact h.pos i hi
/-- What a dropping leaves: each slot but for its count, or the zero value. -/
def Less (P R : List Sl) : Prop := P.length = R.length ∧ ∀ i : Nat, (atP R i).used = true → (atP P i).used = true ∧ (atP R i).lost = (atP P i).lost ∧ (atP R i).node = (atP P i).node
theorem Less.refl (P : List Sl) : Less P P := ⟨rfl, fun i h => ⟨h, rfl, rfl⟩⟩
theorem Less.trans {P Q R : List Sl} (h : Less P Q) (k : Less Q R) : Less P R :=
  ⟨h.1.trans k.1, fun i hi => by
    obtain ⟨a, b, c⟩ := k.2 i hi
    obtain ⟨d, e, f⟩ := h.2 i a
    exact ⟨d, b.trans e, c.trans f⟩⟩
theorem less_dec {P : List Sl} {k : Int} (hu : usedB P k = true) : Less P (decP P k) := by
  refine ⟨(decP_len P k).symm, fun i hi => ?_⟩
  rw [atP_decP hu] at hi ⊢
  split
  · rename_i e
    rw [if_pos e] at hi
    obtain ⟨a1, a2, a3⟩ := decS_used hi
    refine ⟨a1, ?_, ?_⟩ <;> (unfold decS; rw [if_neg a2])
  · rename_i e
    rw [if_neg e] at hi
    exact ⟨hi, rfl, rfl⟩
theorem DR.less {P R : List Sl} {W : List Int} (h : DR P W R) : Less P R := by
  induction h with
  | done P => exact Less.refl P
  | skip _ _ _ ih => exact ih
  | step _ hu _ ih => exact (less_dec hu).trans ih
theorem DR.tidy {P R : List Sl} {W : List Int} (h : DR P W R) : Tidy P → Tidy R := by
  induction h with
  | done P => exact id
  | skip _ _ _ ih => exact ih
  | step _ hu _ ih => exact fun ht => ih (ht.dec hu)
theorem DR.fair {P R : List Sl} {W X : List Int} (h : DR P W R) : Fair P (W ++ X) → Fair R X := by
  induction h with
  | done P => exact id
  | skip hp hu _ ih =>
    intro hf
    have := hf.all _ (List.mem_append_left _ (List.mem_append_left _ (hp.mem_iff.2 List.mem_cons_self)))
    rw [hu] at this; cases this
  | @step P R W V k hp hu _ ih =>
    intro hf
    refine ih ?_
    have h1 : Fair P (k :: (V ++ X)) := hf.perm (hp.append_right X)
    refine h1.dec.perm ?_
    rw [List.append_assoc, List.append_assoc]
    exact List.perm_append_comm.append_left _
/-- What is reached. -/
inductive Rch (P : List Sl) (W : List Int) : Nat → Prop
  | root {k : Int} : k ∈ W → usedB P k = true → Rch P W k.toNat
  | kid {i : Nat} {k : Int} : Rch P W i → k ∈ (atP P i).node.kids → usedB P k = true → Rch P W k.toNat
theorem Rch.used {P : List Sl} {W : List Int} {i : Nat} (h : Rch P W i) : (atP P i).used = true := by
  cases h with
  | root _ h => exact (usedB_iff.1 h).2
  | kid _ _ h => exact (usedB_iff.1 h).2
theorem Rch.sub {P : List Sl} {W V : List Int} {i : Nat} (h : Rch P W i) (hv : ∀ k ∈ W, usedB P k = true → Rch P V k.toNat) : Rch P V i := by
  induction h with
  | root h1 h2 => exact hv _ h1 h2
  | kid _ h2 h3 ih => exact .kid ih h2 h3
theorem Rch.mono {P : List Sl} {W V : List Int} {i : Nat} (h : Rch P W i) (hv : ∀ k ∈ W, k ∈ V) : Rch P V i := h.sub fun k hk hu => .root (hv k hk) hu
/-- No circles. -/
def Acyc (P : List Sl) : Prop := ∃ rk : Nat → Nat, ∀ i, (atP P i).used = true → ∀ k ∈ (atP P i).node.kids, usedB P k = true → rk k.toNat < rk i
theorem Acyc.less {P R : List Sl} (h : Acyc P) (hl : Less P R) : Acyc R := by
  obtain ⟨rk, h⟩ := h
  refine ⟨rk, fun i hi k hk hu => ?_⟩
  obtain ⟨a, b, c⟩ := hl.2 i hi
  rw [c] at hk
  obtain ⟨u0, u1⟩ := usedB_iff.1 hu
  exact h i a k hk (usedB_iff.2 ⟨u0, (hl.2 _ u1).1⟩)
theorem bound_all (f : Nat → Nat) : ∀ n : Nat, ∃ m, ∀ i, i < n → f i < m
  | 0 => ⟨0, fun i hi => by omega⟩
  | n + 1 => by
    obtain ⟨m, hm⟩ := bound_all f n
    refine ⟨m + f n + 1, fun i hi => ?_⟩
    by_cases e : i = n
    · subst e; omega
    · have := hm i (by omega); omega
/-- In a pool without circles whose counts are right and positive, all that is used is reached. -/
theorem Fair.reached {R : List Sl} {X : List Int} (h : Fair R X) (ht : Tidy R) (ha : Acyc R) : ∀ i, (atP R i).used = true → Rch R X i := by
  obtain ⟨rk, ha⟩ := ha
  obtain ⟨m, hm⟩ := bound_all rk R.length
  suffices H : ∀ d i, m - rk i ≤ d → (atP R i).used = true → Rch R X i from fun i hi => H _ i (Nat.le_refl _) hi
  intro d
  induction d with
  | zero =>
    intro i hd hi
    have := hm i (used_lt hi); omega
  | succ d ih =>
    intro i hd hi
    have h1 := ht.pos i hi
    rw [h.cnt i hi] at h1
    have h2 : 0 < (X ++ kidsA R).count (i : Int) := by omega
    have h3 := List.count_pos_iff.1 h2
    have hui : usedB R (i : Int) = true := by rw [usedB_nat]; exact hi
    have ei : ((i : Int)).toNat = i := by omega
    rcases List.mem_append.1 h3 with h4 | h4
    · have := Rch.root h4 hui; rwa [ei] at this
    · obtain ⟨j, hj, hk⟩ := mem_kidsA.1 h4
      have hr := ha j hj _ hk hui
      rw [ei] at hr
      have hmj := hm j (used_lt hj)
      have := Rch.kid (ih j (by omega) hj) hk hui
      rwa [ei] at this
/-- After a dropping just what the other roots reach is used. -/
theorem Less.stays {P R : List Sl} {X : List Int} (hl : Less P R) (hf : Fair R X) {i : Nat} (h : Rch P X i) : (atP R i).used = true := by
  induction h with
  | @root k h1 h2 => exact (usedB_iff.1 (hf.all k (List.mem_append_left _ h1))).2
  | @kid i k h1 h2 h3 ih =>
    obtain ⟨a, b, c⟩ := hl.2 i ih
    exact (usedB_iff.1 (hf.all k (List.mem_append_right _ (mem_kidsA.2 ⟨i, ih, by rw [c]; exact h2⟩)))).2
theorem Less.back {P R : List Sl} {X : List Int} (hl : Less P R) {i : Nat} (h : Rch R X i) : Rch P X i := by
  have up : ∀ k : Int, usedB R k = true → usedB P k = true := fun k hk => usedB_iff.2 ⟨(usedB_iff.1 hk).1, (hl.2 _ (usedB_iff.1 hk).2).1⟩
  induction h with
  | root h1 h2 => exact .root h1 (up _ h2)
  | @kid i k h1 h2 h3 ih =>
    obtain ⟨a, b, c⟩ := hl.2 i h1.used
    exact .kid ih (by rw [← c]; exact h2) (up _ h3)
theorem Less.fore {P R : List Sl} {X : List Int} (hl : Less P R) (hf : Fair R X) {i : Nat} (h : Rch P X i) : Rch R X i := by
  have hs := fun j (hj : Rch P X j) => hl.stays hf hj
  induction h with
  | root h1 h2 => exact .root h1 (usedB_iff.2 ⟨(usedB_iff.1 h2).1, hs _ (.root h1 h2)⟩)
  | @kid i k h1 h2 h3 ih =>
    obtain ⟨a, b, c⟩ := hl.2 i ih.used
    exact .kid ih (by rw [c]; exact h2) (usedB_iff.2 ⟨(usedB_iff.1 h3).1, hs _ (.kid h1 h2 h3)⟩)
theorem used_after {P R : List Sl} {X : List Int} (hl : Less P R) (hf : Fair R X) (ht : Tidy R) (ha : Acyc P) (i : Nat) : (atP R i).used = true ↔ Rch P X i :=
  ⟨fun h => hl.back (hf.reached ht (ha.less hl) i h), fun h => hl.stays hf h⟩
theorem kidsA_congr {R S : List Sl} (hl : R.length = S.length) (h : ∀ i, ownK (atP R i) = ownK (atP S i)) : kidsA R = kidsA S := by
  have : R.map ownK = S.map ownK := by
    apply List.ext_getElem (by simpa using hl)
    intro i h1 h2
    have := h i
    rw [List.length_map] at h1 h2
    rw [atP_lt h1, atP_lt h2] at this
    simpa using this
  unfold kidsA
  rw [List.flatMap_def, List.flatMap_def, this]
/-- The order of dropping does not matter. -/
theorem DR.unique {P R S : List Sl} {W V X : List Int} (h : DR P W R) (k : DR P V S) (hf : Fair P (W ++ X)) (hg : Fair P (V ++ X)) (ht : Tidy P) (ha : Acyc P) : R = S := by
  have hr := h.fair hf
  have hs := k.fair hg
  have tr := h.tidy ht
  have ts := k.tidy ht
  have hu : ∀ i, (atP R i).used = (atP S i).used := fun i => by
    rw [Bool.eq_iff_iff, used_after h.less hr tr ha, used_after k.less hs ts ha]
  have hl : R.length = S.length := h.less.1.symm.trans k.less.1
  have hn : ∀ i, (atP R i).used = true → (atP R i).node = (atP S i).node := fun i hi => by
    rw [(h.less.2 i hi).2.2, (k.less.2 i (by rw [← hu]; exact hi)).2.2]
  have ho : kidsA R = kidsA S := kidsA_congr hl fun i => by
    unfold ownK
    rw [← hu i]
    split
    · rename_i h1; rw [hn i h1]
    · rfl
  refine ext_atP hl fun i => ?_
  by_cases hi : (atP R i).used = true
  · have hi' : (atP S i).used = true := by rw [← hu]; exact hi
    refine Sl.ext4 (hu i) ?_ ?_ (hn i hi)
    · rw [(h.less.2 i hi).2.1, (k.less.2 i hi').2.1]
    · rw [hr.cnt i hi, hs.cnt i hi', ho]
  · have hi' : ¬ (atP S i).used = true := by rw [← hu]; exact hi
    rw [tr.clean i (by simpa using hi), ts.clean i (by simpa using hi')]

end Go.Proofs.Ytlgangcldlphnaa
