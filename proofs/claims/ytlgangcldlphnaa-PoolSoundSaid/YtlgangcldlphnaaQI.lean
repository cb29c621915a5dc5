/-
  Plain: what Sound tells, by counting and dropping, is what the definition tells: reached, and on no circle.
-/
import Derived.Test.YtlgangcldlphnaaPM2
namespace Go.Proofs.Ytlgangcldlphnaa
open Go.RowKit Go.Sort
set_option linter.unusedVariables false
set_option maxRecDepth 100000

theorem countP_lt {p q : Nat → Bool} (h : ∀ x, p x = true → q x = true) {k : Nat} (hq : q k = true) (hp : p k = false) : ∀ {l : List Nat}, k ∈ l → l.countP p < l.countP q
  | x :: l, hk => by
    rw [List.countP_cons, List.countP_cons]
    have hle : l.countP p ≤ l.countP q := List.countP_mono_left fun x _ => h x
    rcases List.mem_cons.1 hk with rfl | hk
    · rw [hq, hp]; simp; omega
    · have h1 := countP_lt h hq hp hk
      have h2 : (if p x = true then 1 else 0) ≤ (if q x = true then 1 else 0) := by
        by_cases e : p x = true
        · rw [if_pos e, if_pos (h x e)]; exact Nat.le_refl _
        · rw [if_neg e]; exact Nat.zero_le _
      omega
theorem acyc_of {P : List Sl} (h : ∀ i, (atP P i).used = true → ¬ Rch P (atP P i).node.kids i) : Acyc P := by
  classical
  refine ⟨fun i => (List.range P.length).countP fun j => decide (Rch P (atP P i).node.kids j), fun i hi k hk hu => ?_⟩
  refine countP_lt (k := k.toNat) (fun x hx => ?_) ?_ ?_ ?_
  · have hx := of_decide_eq_true hx
    exact decide_eq_true (hx.sub fun y hy hyu => .kid (.root hk hu) hy hyu)
  · exact decide_eq_true (.root hk hu)
  · exact decide_eq_false (h _ (usedB_iff.1 hu).2)
  · simpa using (usedB_lt hu).2
/-- A set of used slots each of which is a kid of another one of it. -/
def Shut (P : List Sl) (S : Nat → Prop) : Prop := ∀ i, S i → (atP P i).used = true ∧ ∃ j, S j ∧ (i : Int) ∈ (atP P j).node.kids
theorem Shut.dec {P : List Sl} {S : Nat → Prop} {k : Int} {V : List Int} (hS : Shut P S) (hu : usedB P k = true) (hf : Fair P (k :: V)) : Shut (decP P k) S := by
  have key : ∀ i, S i → (atP (decP P k) i).used = true ∧ (atP (decP P k) i).node = (atP P i).node := fun i hi => by
    obtain ⟨h1, j, hj, hk⟩ := hS i hi
    rw [atP_decP hu]
    by_cases e : i = k.toNat
    · rw [if_pos e]
      have hki : (i : Int) = k := by have := (usedB_lt hu).1; omega
      have hc := hf.cnt i h1
      have hm : (i : Int) ∈ kidsA P := mem_kidsA.2 ⟨j, (hS j hj).1, hk⟩
      have h2 : 0 < (kidsA P).count (i : Int) := List.count_pos_iff.2 hm
      rw [hki, List.cons_append, List.count_cons_self, List.count_append] at hc
      rw [hki] at h2
      have hne : ¬ (atP P i).refs - 1 = 0 := by rw [hc]; omega
      unfold decS
      rw [if_neg hne]
      exact ⟨h1, rfl⟩
    · rw [if_neg e]; exact ⟨h1, rfl⟩
  intro i hi
  obtain ⟨h1, j, hj, hk⟩ := hS i hi
  exact ⟨(key i hi).1, j, hj, by rw [(key j hj).2]; exact hk⟩
theorem shut_dr {P R : List Sl} {W : List Int} (h : DR P W R) (S : Nat → Prop) : Shut P S → Fair P W → ∀ i, S i → (atP R i).used = true := by
  induction h with
  | done P => exact fun hS _ i hi => (hS i hi).1
  | skip hp hu _ ih =>
    intro hS hf
    have := hf.all _ (List.mem_append_left _ (hp.mem_iff.2 List.mem_cons_self))
    rw [hu] at this; cases this
  | step hp hu _ ih => exact fun hS hf => ih (hS.dec hu (hf.perm hp)) (hf.perm hp).dec
theorem decK_sub {s : Sl} {k : Int} (h : k ∈ decK s) : k ∈ s.node.kids := by
  unfold decK at h
  split at h
  · exact h
  · simp at h
theorem freed_rch {P R : List Sl} {W : List Int} (h : DR P W R) : ∀ i, (atP P i).used = true → (atP R i).used = false → Rch P W i := by
  induction h with
  | done P => intro i h1 h2; rw [h1] at h2; cases h2
  | skip hp hu _ ih => exact fun i h1 h2 => (ih i h1 h2).mono fun k hk => hp.mem_iff.2 (List.mem_cons_of_mem _ hk)
  | @step P R W V k hp hu _ ih =>
    intro i h1 h2
    have hkW : k ∈ W := hp.mem_iff.2 List.mem_cons_self
    by_cases h3 : (atP (decP P k) i).used = true
    · refine ((less_dec hu).back (ih i h3 h2)).sub fun y hy hyu => ?_
      rcases List.mem_append.1 hy with h4 | h4
      · exact .root (hp.mem_iff.2 (List.mem_cons_of_mem _ h4)) hyu
      · exact .kid (.root hkW hu) (decK_sub h4) hyu
    · rw [atP_decP hu] at h3
      by_cases e : i = k.toNat
      · subst e; exact .root hkW hu
      · rw [if_neg e] at h3; exact absurd h1 h3
/-- The zero value. -/
def zeroB (s : Sl) : Bool := !s.used && !s.lost && s.refs == 0 && (s.node.pairs.length + s.node.pivots.length + s.node.kids.length + s.node.sums.length + s.node.buf.length == 0)
theorem zeroB_iff {s : Sl} : zeroB s = true ↔ s = zSl := by
  constructor
  · intro h
    obtain ⟨u, l, r, ⟨a, b, c, d, e⟩⟩ := s
    unfold zeroB at h
    simp only [Bool.and_eq_true, Bool.not_eq_true', beq_iff_eq] at h
    obtain ⟨⟨⟨rfl, rfl⟩, rfl⟩, h⟩ := h
    have h0 : a = [] := List.length_eq_zero_iff.1 (by omega)
    have h1 : b = [] := List.length_eq_zero_iff.1 (by omega)
    have h2 : c = [] := List.length_eq_zero_iff.1 (by omega)
    have h3 : d = [] := List.length_eq_zero_iff.1 (by omega)
    have h4 : e = [] := List.length_eq_zero_iff.1 (by omega)
    subst h0 h1 h2 h3 h4
    rfl
  · rintro rfl; rfl
theorem spoil_zero {s : Sl} (hu : s.used = false) : spoilB s = false ↔ s = zSl := by
  rw [← zeroB_iff]
  unfold spoilB zeroB
  rw [hu]
  obtain ⟨u, l, r, ⟨a, b, c, d, e⟩⟩ := s
  generalize a.length + b.length + c.length + d.length + e.length = n
  cases l <;> simp
theorem spoil_used {s : Sl} (hu : s.used = true) : spoilB s = false := by unfold spoilB; rw [hu]; rfl
/-- What the definition asks of a slot. -/
def okI (P : List Sl) (W : List Int) (i : Nat) : Bool :=
  if (atP P i).used then ((atP P i).refs == (((W ++ kidsA P).count (i : Int) : Nat) : Int)) && decide ((i : Int) ∈ reachP P W) && !decide ((i : Int) ∈ reachP P (atP P i).node.kids) else zeroB (atP P i)
def soundR (P : List Sl) (W : List Int) : Bool := (W ++ kidsA P).all (usedB P) && (List.range P.length).all (okI P W)
theorem mem_reachN {P : List Sl} {W : List Int} {i : Nat} : (i : Int) ∈ reachP P W ↔ Rch P W i := by
  rw [mem_reach, show ((i : Int)).toNat = i by omega]
  exact ⟨fun h => h.2, fun h => ⟨by omega, h⟩⟩
theorem atP_mem {P : List Sl} {s : Sl} (h : s ∈ P) : ∃ i, i < P.length ∧ atP P i = s := by
  obtain ⟨i, hi, rfl⟩ := List.mem_iff_getElem.1 h
  exact ⟨i, hi, atP_lt hi⟩
theorem no_spoil {P : List Sl} : P.any spoilB = false ↔ ∀ i, (atP P i).used = false → atP P i = zSl := by
  constructor
  · intro h i hu
    rcases Nat.lt_or_ge i P.length with hi | hi
    · have h1 := List.any_eq_false.1 h (atP P i) (by rw [atP_lt hi]; exact List.getElem_mem hi)
      exact (spoil_zero hu).1 (by simpa using h1)
    · exact atP_ge hi
  · intro h
    rw [List.any_eq_false]
    intro s hs
    obtain ⟨i, hi, rfl⟩ := atP_mem hs
    by_cases hu : (atP P i).used = true
    · rw [spoil_used hu]; simp
    · have hu : (atP P i).used = false := by simpa using hu
      rw [(spoil_zero hu).2 (h i hu)]; simp
theorem flat_congr {α β : Type} {f g : α → List β} : ∀ {l : List α}, (∀ x ∈ l, f x = g x) → l.flatMap f = l.flatMap g
  | [], _ => rfl
  | x :: l, h => by
    rw [List.flatMap_cons, List.flatMap_cons, h x List.mem_cons_self, flat_congr fun y hy => h y (List.mem_cons_of_mem _ hy)]
theorem heldA_own {P : List Sl} (W : List Int) (h : ∀ i, (atP P i).used = false → atP P i = zSl) : heldA P W = W ++ kidsA P := by
  unfold heldA kidsA
  congr 1
  refine flat_congr fun s hs => ?_
  obtain ⟨i, hi, rfl⟩ := atP_mem hs
  unfold ownK
  by_cases hu : (atP P i).used = true
  · rw [if_pos hu]
  · rw [if_neg hu, h i (by simpa using hu)]; rfl
theorem live_zero {P : List Sl} : liveP P = 0 ↔ ∀ i, (atP P i).used = false := by
  unfold liveP
  rw [List.countP_eq_zero]
  constructor
  · intro h i
    rcases Nat.lt_or_ge i P.length with hi | hi
    · have := h (atP P i) (by rw [atP_lt hi]; exact List.getElem_mem hi)
      simpa using this
    · rw [atP_ge hi]; rfl
  · intro h s hs
    obtain ⟨i, hi, rfl⟩ := atP_mem hs
    rw [h i]; simp
theorem Rch.held {P : List Sl} {W : List Int} {i : Nat} (h : Rch P W i) : (i : Int) ∈ W ++ kidsA P := by
  cases h with
  | @root k h1 h2 =>
    have := (usedB_lt h2).1
    rw [show ((k.toNat : Nat) : Int) = k by omega]
    exact List.mem_append_left _ h1
  | @kid j k h1 h2 h3 =>
    have := (usedB_lt h3).1
    rw [show ((k.toNat : Nat) : Int) = k by omega]
    exact List.mem_append_right _ (mem_kidsA.2 ⟨j, h1.used, h2⟩)
theorem sound_eq (P : List Sl) (W : List Int) : soundP P W = soundR P W := by
  have hdr := runL_dr (muP P W) P W (Nat.le_refl _)
  rw [Bool.eq_iff_iff]
  unfold soundP soundR
  simp only [Bool.and_eq_true, Bool.not_eq_true', beq_iff_eq]
  constructor
  · rintro ⟨⟨⟨h1, h2⟩, h3⟩, h4⟩
    have hz := no_spoil.1 h1
    rw [heldA_own W hz] at h2 h3
    have hf : Fair P W := ⟨fun k hk => List.all_eq_true.1 h2 k hk, fun i hi => by
      unfold countB at h3
      have := List.all_eq_true.1 h3 i (by simpa using used_lt hi)
      simpa using this⟩
    have hl := live_zero.1 h4
    refine ⟨h2, List.all_eq_true.2 fun i hi => ?_⟩
    unfold okI
    by_cases hu : (atP P i).used = true
    · rw [if_pos hu, hf.cnt i hu]
      have hr := freed_rch hdr i hu (hl i)
      have hc : ¬ Rch P (atP P i).node.kids i := fun hc => by
        have hS : Shut P (Rch P (atP P i).node.kids) := fun j hj => by
          refine ⟨hj.used, ?_⟩
          cases hj with
          | @root k h1 h2 =>
            have := (usedB_lt h2).1
            exact ⟨i, hc, by rw [show ((k.toNat : Nat) : Int) = k by omega]; exact h1⟩
          | @kid j' k h1 h2 h3 =>
            have := (usedB_lt h3).1
            exact ⟨j', h1, by rw [show ((k.toNat : Nat) : Int) = k by omega]; exact h2⟩
        have := shut_dr hdr _ hS hf i hc
        rw [hl i] at this; cases this
      rw [decide_eq_true (mem_reachN.2 hr), decide_eq_false (fun h => hc (mem_reachN.1 h))]
      simp
    · rw [if_neg hu, hz i (by simpa using hu)]; rfl
  · rintro ⟨h2, h3⟩
    have hok : ∀ i, okI P W i = true ∨ atP P i = zSl := fun i => by
      rcases Nat.lt_or_ge i P.length with hi | hi
      · exact .inl (List.all_eq_true.1 h3 i (by simpa using hi))
      · exact .inr (atP_ge hi)
    have hz : ∀ i, (atP P i).used = false → atP P i = zSl := fun i hu => by
      rcases hok i with h | h
      · unfold okI at h
        rw [hu] at h
        exact zeroB_iff.1 (by simpa using h)
      · exact h
    have hyes : ∀ i, (atP P i).used = true → (atP P i).refs = (((W ++ kidsA P).count (i : Int) : Nat) : Int) ∧ Rch P W i ∧ ¬ Rch P (atP P i).node.kids i := fun i hu => by
      rcases hok i with h | h
      · unfold okI at h
        rw [if_pos hu] at h
        simp only [Bool.and_eq_true, Bool.not_eq_true', beq_iff_eq, decide_eq_true_eq, decide_eq_false_iff_not] at h
        obtain ⟨⟨a, b⟩, c⟩ := h
        exact ⟨a, mem_reachN.1 b, fun d => c (mem_reachN.2 d)⟩
      · rw [h] at hu; cases hu
    have hf : Fair P W := ⟨fun k hk => List.all_eq_true.1 h2 k hk, fun i hi => (hyes i hi).1⟩
    have ht : Tidy P := ⟨hz, fun i hi => by
      rw [(hyes i hi).1]
      have := List.count_pos_iff.2 (hyes i hi).2.1.held
      omega⟩
    have ha : Acyc P := acyc_of fun i hi => (hyes i hi).2.2
    have hR : Fair (runL (muP P W) P W) [] := hdr.fair (X := []) (by rw [List.append_nil]; exact hf)
    rw [heldA_own W hz]
    refine ⟨⟨⟨no_spoil.2 hz, h2⟩, ?_⟩, live_zero.2 fun i => ?_⟩
    · unfold countB
      rw [List.all_eq_true]
      intro i hi
      by_cases hu : (atP P i).used = true
      · rw [(hyes i hu).1]; simp
      · have hu : (atP P i).used = false := by simpa using hu
        have h0 : (W ++ kidsA P).count (i : Int) = 0 := by
          rw [List.count_eq_zero]
          intro hm
          have := hf.all _ hm
          rw [usedB_nat, hu] at this; cases this
        rw [h0, hz i hu]; rfl
    · have hn : ¬ Rch P [] i := fun h => by
        have : ∀ j, Rch P [] j → False := fun j hj => by
          induction hj with
          | root h1 _ => simp at h1
          | kid _ _ _ ih => exact ih
        exact this i h
      have := (used_after hdr.less hR (hdr.tidy ht) ha i)
      by_cases hu : (atP (runL (muP P W) P W) i).used = true
      · exact absurd (this.1 hu) hn
      · simpa using hu

end Go.Proofs.Ytlgangcldlphnaa
