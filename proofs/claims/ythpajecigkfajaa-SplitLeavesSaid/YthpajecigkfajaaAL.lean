/-
  A drawn region whose operations but the last one wait for some others: each yields a value of its own kind, whatever the order; the last one comes when all are done. No program.
-/
import Derived.Test.YthpajecigkfajaaAJ
import Derived.OrdersHeld
namespace Go.Proofs.Ythpajecigkfajaa
open Go.RowKit Go.Sort
set_option linter.unusedVariables false
set_option maxRecDepth 100000

theorem least_of (p : Nat → Prop) : ∀ n, p n → ∃ i, i ≤ n ∧ p i ∧ ∀ j, j < i → ¬ p j := fun n => by
  induction n using Nat.strongRecOn with
  | ind n ih =>
    intro hn
    by_cases h : ∃ j, j < n ∧ p j
    · obtain ⟨j, hj, hp⟩ := h
      obtain ⟨i, h1, h2, h3⟩ := ih j hj hp
      exact ⟨i, by omega, h2, h3⟩
    · exact ⟨n, Nat.le_refl _, hn, fun j hj hp => h ⟨j, hj, hp⟩⟩
theorem done_any {P : Program} {md : Region.Mode} {ops : Array Oper} {Q : Exit → Act → World → Prop} {listed : Array Bool} {a : Act} {w : World} (h : Region.ready md ops listed = []) (hq : Q .normal a w) : ∀ fuel, wpAny P md ops Q fuel listed a w
  | 0 => ⟨h, hq⟩
  | fuel + 1 => ⟨fun _ => hq, fun i hi => by rw [h] at hi; cases hi⟩
theorem getD_set13 (l : Array Bool) (i j : Nat) (d : Bool) : (l.setIfInBounds i true).getD j d = if i = j ∧ j < l.size then true else l.getD j d := by
  simp only [Array.getD_eq_getD_getElem?, Array.getElem?_setIfInBounds]
  by_cases h : i = j
  · subst h
    by_cases h2 : i < l.size
    · simp [h2]
    · simp [h2]
  · simp [h]
theorem put_getD (a : Act) (d j : Nat) (v : Value) (h : d < a.tmps.size) : (a.put (some d) v).tmps.getD j undef = if d = j then v else a.tmps.getD j undef := by
  unfold Act.put
  simp only [Array.getD_eq_getD_getElem?, Array.getElem?_setIfInBounds]
  by_cases e : d = j
  · subst e; simp [h]
  · simp [e]
/-- What the operations that are done have yielded. -/
structure Lat (md : Region.Mode) (ops : Array Oper) (G : Nat → Value → World → Prop) (S : World → Prop) (a0 : Act) (listed : Array Bool) (a : Act) (w : World) : Prop where
  size : a.tmps.size = a0.tmps.size
  defs : a.defers = a0.defers
  hold : S w
  frame : ∀ j, (∀ (i : Nat) o, ops[i]? = some o → o.dst ≠ some j) → a.tmps.getD j undef = a0.tmps.getD j undef
  vals : ∀ (i : Nat) o d, ops[i]? = some o → listed.getD i false = true → o.dst = some d → G i (a.tmps.getD d undef) w
theorem lattice {P : Program} {md : Region.Mode} {ops : Array Oper} {Q : Exit → Act → World → Prop} {k : Nat} (hk : ops.size = k + 1)
    (hguard : ∀ (i : Nat) o, ops[i]? = some o → o.guard = none) (hafter : ∀ (i : Nat) o, ops[i]? = some o → ∀ e ∈ o.after, e.on < i)
    (hlast : ∀ o, ops[k]? = some o → ∀ i, i < k → ∃ e ∈ o.after, e.on = i ∧ Region.binds md e = true)
    (hdst : ∀ (i j : Nat) oi oj d, ops[i]? = some oi → ops[j]? = some oj → oi.dst = some d → oj.dst = some d → i = j)
    (G : Nat → Value → World → Prop) (S : World → Prop) (a0 : Act) (hN : ∀ (i : Nat) o d, ops[i]? = some o → o.dst = some d → d < a0.tmps.size)
    (hstep : ∀ (i : Nat) o (a : Act) (w : World), i < k → ops[i]? = some o → S w →
      (∀ j, (∀ (i' : Nat) o', ops[i']? = some o' → o'.dst ≠ some j) → a.tmps.getD j undef = a0.tmps.getD j undef) →
      (∀ e ∈ o.after, Region.binds md e = true → ∀ oe d, ops[e.on]? = some oe → oe.dst = some d → G e.on (a.tmps.getD d undef) w) →
      o.wp P a w (fun a' w' => ∃ v, a' = a.put o.dst v ∧ G i v w' ∧ S w' ∧ ∀ i' v', G i' v' w → G i' v' w') Q)
    (hfin : ∀ o (a : Act) (w : World), ops[k]? = some o → S w → a.tmps.size = a0.tmps.size → a.defers = a0.defers →
      (∀ j, (∀ (i' : Nat) o', ops[i']? = some o' → o'.dst ≠ some j) → a.tmps.getD j undef = a0.tmps.getD j undef) →
      (∀ (i : Nat) o' d, i < k → ops[i]? = some o' → o'.dst = some d → G i (a.tmps.getD d undef) w) → o.wp P a w (fun a' w' => Q .normal a' w') Q) :
    ∀ (fuel : Nat) (listed : Array Bool) (a : Act) (w : World), listed.size = k + 1 → listed.getD k true = false → listed.toList.count false ≤ fuel → Lat md ops G S a0 listed a w → wpAny P md ops Q fuel listed a w := by
  intro fuel
  induction fuel with
  | zero =>
    intro listed a w hs hkk hc hL
    exfalso
    have hmem : false ∈ listed.toList := by
      have hlt : k < listed.size := by omega
      have : listed[k] = false := by simpa [Array.getD_eq_getD_getElem?, hlt] using hkk
      rw [← this]; exact Array.mem_toList_iff.2 (Array.getElem_mem hlt)
    have := List.count_pos_iff.2 hmem
    omega
  | succ fuel ih =>
    intro listed a w hs hkk hc hL
    refine ⟨fun hr => ?_, fun i hi => ?_⟩
    · exfalso
      obtain ⟨i, h1, h2, h3⟩ := least_of (fun i => listed.getD i true = false) k hkk
      have hlt : i < ops.size := by omega
      have : i ∈ Region.ready md ops listed := by
        rw [mem_ready]
        refine ⟨h2, ops[i], Array.getElem?_eq_getElem hlt, fun e he hb => ?_⟩
        have hei := hafter i _ (Array.getElem?_eq_getElem hlt) e he
        have := h3 e.on hei
        have hel : e.on < listed.size := by omega
        simp only [Array.getD_eq_getD_getElem?, hel, Array.getElem?_eq_getElem, Option.getD_some] at this ⊢
        simpa using this
      rw [hr] at this; cases this
    · rw [mem_ready] at hi
      obtain ⟨hun, o, ho, hdeps⟩ := hi
      have hil : i < ops.size := (Array.getElem?_eq_some_iff.1 ho).1
      have hlt : i < listed.size := by omega
      have hw : Region.wanted o (yielded ops a.tmps) = true := by simp [Region.wanted, hguard i o ho]
      unfold wpOp
      rw [ho]
      simp only
      rw [if_pos hw]
      left
      by_cases hik : i = k
      · subst hik
        have hall : ∀ j, j < i → listed.getD j false = true := fun j hj => by
          obtain ⟨e, he, rfl, hb⟩ := hlast o ho j hj
          exact hdeps e he hb
        refine Oper.wp_mono (fun a' w' hq => done_any ?_ hq fuel) (hfin o a w ho hL.hold hL.size hL.defs hL.frame (fun j o' d hj ho' hd => hL.vals j o' d ho' (hall j hj) hd))
        rw [List.eq_nil_iff_forall_not_mem]
        intro j hj
        rw [mem_ready] at hj
        obtain ⟨h1, oj, hoj, -⟩ := hj
        have hjl : j < ops.size := (Array.getElem?_eq_some_iff.1 hoj).1
        rw [getD_set13] at h1
        by_cases hji : i = j
        · rw [if_pos ⟨hji, by omega⟩] at h1; cases h1
        · rw [if_neg (fun h => hji h.1)] at h1
          have := hall j (by omega)
          have hj2 : j < listed.size := by omega
          simp only [Array.getD_eq_getD_getElem?, hj2, Array.getElem?_eq_getElem, Option.getD_some] at this h1
          rw [this] at h1; cases h1
      · have hik2 : i < k := by omega
        refine Oper.wp_mono (fun a' w' hq => ?_) (hstep i o a w hik2 ho hL.hold hL.frame (fun e he hb oe d hoe hd => hL.vals e.on oe d hoe (hdeps e he hb) hd))
        obtain ⟨v, rfl, hv, hS', hkeep⟩ := hq
        have hfal : listed[i] = false := by simpa [Array.getD_eq_getD_getElem?, hlt] using hun
        refine ih _ _ w' (by simpa using hs) ?_ ?_ ?_
        · rw [getD_set13, if_neg (fun h => hik h.1)]; exact hkk
        · have hi2 : i < listed.toList.length := by simpa using hlt
          have hcp := List.count_pos_iff.2 (show false ∈ listed.toList by rw [← hfal]; exact Array.mem_toList_iff.2 (Array.getElem_mem hlt))
          rw [Array.toList_setIfInBounds, List.count_set hi2]
          have e1 : listed.toList[i] = false := by simpa using hfal
          rw [e1]
          show listed.toList.count false - 1 + 0 ≤ fuel
          omega
        · cases hd : o.dst with
          | none =>
            refine ⟨hL.size, hL.defs, hS', hL.frame, fun j oj d hoj hl hdj => ?_⟩
            by_cases hji : i = j
            · subst hji; rw [ho] at hoj; injection hoj with e; subst e; rw [hd] at hdj; cases hdj
            · rw [getD_set13, if_neg (fun h => hji h.1)] at hl
              exact hkeep _ _ (hL.vals j oj d hoj hl hdj)
          | some d =>
            have hdlt : d < a.tmps.size := by rw [hL.size]; exact hN i o d ho hd
            refine ⟨by show (a.tmps.setIfInBounds d v).size = _; rw [Array.size_setIfInBounds]; exact hL.size, hL.defs, hS', fun j hj => ?_, fun j oj dj hoj hl hdj => ?_⟩
            · rw [put_getD a d j v hdlt, if_neg (fun e => by subst e; exact hj i o ho hd)]
              exact hL.frame j hj
            · rw [put_getD a d dj v hdlt]
              by_cases hji : i = j
              · subst hji; rw [ho] at hoj; injection hoj with e; subst e; rw [hd] at hdj; injection hdj with e; rw [if_pos e]; exact hv
              · rw [if_neg (fun e => hji (hdst i j o oj d ho hoj hd (by rw [e]; exact hdj)))]
                rw [getD_set13, if_neg (fun h => hji h.1)] at hl
                exact hkeep _ _ (hL.vals j oj dj hoj hl hdj)

end Go.Proofs.Ythpajecigkfajaa
