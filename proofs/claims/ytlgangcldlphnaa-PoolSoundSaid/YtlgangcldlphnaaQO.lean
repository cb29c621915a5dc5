/-
  Walks: the law PoolReaches.
-/
import Derived.Test.YtlgangcldlphnaaQN
import Derived.Test.YtlgangcldlphnaaQL
import Derived.Test.YtlgangcldlphnaaQC
namespace Go.Proofs.Ytlgangcldlphnaa
open Go.RowKit Go.Sort
set_option linter.unusedVariables false
set_option maxRecDepth 100000

theorem at_i8 {w : World} {v : Value} {l : List Int} (h : IsI8s w v l) (i : Nat) (hi : i < l.length) : ∃ b off cap, v = .slice (some ⟨b, off, none⟩) l.length cap ∧ b < w.heap.size ∧ w.cell? ⟨b, off + i, none⟩ = some (.int .i8 l[i]) := by
  obtain ⟨hp, a, cap, rfl, h2, h3, h4⟩ := h
  obtain ⟨b, off, rfl, hlt, hc⟩ := h4 (by rintro rfl; simp at hi)
  exact ⟨b, off, cap, rfl, hlt, hc i hi⟩
theorem IsI8s.below {w w' : World} {v : Value} {l : List Int} (h : IsI8s w v l) (hb : Below w.heap.size w w') : IsI8s w' v l := by
  obtain ⟨hp, a, cap, rfl, h2, h3, h4⟩ := h
  refine ⟨hp, a, cap, rfl, h2, h3, fun hne => ?_⟩
  obtain ⟨b, off, rfl, hlt, hc⟩ := h4 hne
  exact ⟨b, off, rfl, Nat.lt_of_lt_of_le hlt hb.size, fun i hi => (hb.cell (p := ⟨b, off + i, none⟩) (by exact hlt)).trans (hc i hi)⟩
theorem IsI8s.slice {w : World} {v : Value} {l : List Int} (h : IsI8s w v l) : ∃ a cap, v = .slice a l.length cap ∧ (l.length : Int) ≤ 9223372036854775807 := by
  obtain ⟨hp, a, cap, rfl, h2, h3, h4⟩ := h
  unfold maxLen at h3
  exact ⟨a, cap, rfl, by omega⟩
theorem rch_append {P : List Sl} {A B : List Int} {i : Nat} : Rch P (A ++ B) i ↔ Rch P A i ∨ Rch P B i := by
  constructor
  · intro h
    induction h with
    | root h1 h2 => exact (List.mem_append.1 h1).elim (fun h => .inl (.root h h2)) (fun h => .inr (.root h h2))
    | kid h1 h2 h3 ih => exact ih.elim (fun h => .inl (.kid h h2 h3)) (fun h => .inr (.kid h h2 h3))
  · rintro (h | h)
    · exact h.mono fun k hk => List.mem_append_left _ hk
    · exact h.mono fun k hk => List.mem_append_right _ hk
theorem rch_nil {P : List Sl} {i : Nat} : ¬ Rch P [] i := by
  intro h
  have : ∀ j, Rch P [] j → False := fun j hj => by
    induction hj with
    | root h1 _ => simp at h1
    | kid _ _ _ ih => exact ih
  exact this i h
theorem reach_nil (P : List Sl) : reachP P [] = [] := by
  rw [List.eq_nil_iff_forall_not_mem]
  intro k hk
  exact rch_nil (mem_reach.1 hk).2
theorem reach_le (P : List Sl) (W : List Int) : (reachP P W).length ≤ P.length := idxM_len _ _
theorem run_makeB (w : World) (n : Nat) (hn : n ≤ 1000000) : (Instr.makeSlice 69 (.int .i64 (n : Int)) (.int .i64 (n : Int))).run Try.prog w = .ok (.slice (some ⟨w.heap.size, 0, none⟩) n n) (w.alloc (.cells (marksA (List.replicate n false)) 4)) := by
  obtain ⟨i0, hi, hz0, hz1, hz2⟩ := info_parts infoB
  have hr := run_make (P := Try.prog) w 69 4 i0 (.bool false) Try.underlying69 hi hz0 .i64 .i64 (n : Int) (n : Int) (by omega) (Int.le_refl _) (by rw [hz2]; omega) (by omega)
  rw [hz1] at hr
  simp only [Int.toNat_natCast] at hr
  rw [hr]
  congr 3
  rw [← made_marks]
/-- What the marks tell: what some of the roots reach. -/
def Kn (P : List Sl) (A : List Int) (m : List Bool) : Prop := m.length = P.length ∧ ∀ i, mkd m i = true ↔ Rch P A i
theorem Kn.nil (P : List Sl) : Kn P [] (List.replicate P.length false) := ⟨by simp, fun i => by rw [mk_rep]; exact ⟨(fun h => by cases h), fun h => absurd h rch_nil⟩⟩
/-- .. and the first ones of what one more root reaches. -/
def Kn2 (P : List Sl) (A : List Int) (x : Int) (k : Nat) (m : List Bool) : Prop := m.length = P.length ∧ ∀ i : Nat, mkd m i = true ↔ Rch P A i ∨ (i : Int) ∈ (reachP P [x]).take k
theorem Kn.two {P : List Sl} {A : List Int} {m : List Bool} (h : Kn P A m) (x : Int) : Kn2 P A x 0 m := ⟨h.1, fun i => by rw [h.2 i]; simp⟩
theorem Kn2.one {P : List Sl} {A : List Int} {x : Int} {m : List Bool} (h : Kn2 P A x (reachP P [x]).length m) : Kn P (A ++ [x]) m :=
  ⟨h.1, fun i => by rw [h.2 i, List.take_length, mem_reachN, rch_append]⟩
theorem Kn2.next {P : List Sl} {A : List Int} {x : Int} {k j : Nat} {m : List Bool} (h : Kn2 P A x k m) (hk : k < (reachP P [x]).length) (hj : (reachP P [x])[k] = (j : Int)) (hl : j < P.length) : Kn2 P A x (k + 1) (m.set j true) :=
  ⟨by rw [List.length_set]; exact h.1, fun i => by
    rw [mk_set _ _ (by rw [h.1]; exact hl), List.take_succ_eq_append_getElem hk, hj, List.mem_append, List.mem_singleton, ← or_assoc, ← h.2 i]
    by_cases e : i = j
    · subst e; simp
    · rw [if_neg e]
      have : ¬ (i : Int) = (j : Int) := by omega
      simp [this]⟩

end Go.Proofs.Ytlgangcldlphnaa
