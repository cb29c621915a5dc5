/-
  Plain facts and laws on rows for SpanNorm.
-/
import Derived.Test.YtenhjpopdmiekaaZX1
import Derived.Test.YtenhjpopdmiekaaZWJ
import Derived.Laws.OwnMore
namespace Go.Proofs.Ytenhjpopdmiekaa
open Go.RowKit Go.Sort
set_option linter.unusedVariables false

theorem norm_inB (l : List Sp) (k : Bs) : inB (normS l) k = inB l k := by
  rw [Bool.eq_iff_iff, inB_iff, inB_iff]; exact norm_in l k
theorem nrm_at {l : List Sp} (hn : Nrm l) (j : Nat) (h : j + 1 < l.length) : l[j].2.isEmpty = false ∧ Op.bytesLess l[j].2 l[j + 1].1 = true := by
  induction l generalizing j with
  | nil => simp at h
  | cons s r ih =>
    cases j with
    | zero =>
      have h1 : 0 < r.length := by simpa using h
      have h2 := hn.2.1 r[0] (List.getElem_mem h1)
      have hne : s.2 ≠ [] := by intro e; rw [e, hiP_nil] at h2; exact top_max _ h2
      rw [hiP_ne hne] at h2
      exact ⟨by simpa using hne, h2⟩
    | succ j => exact ih hn.2.2 j (by simpa using h)

theorem turn_back (m n L : Nat) (h : m < L) : ((m + (L - n % L)) % L + n) % L = m := by
  have h0 : n % L < L := Nat.mod_lt _ (by omega)
  rw [Nat.mod_add_mod]
  have e : m + (L - n % L) + n = m + L * (n / L + 1) := by
    have := Nat.div_add_mod n L
    rw [Nat.mul_add, Nat.mul_one]
    omega
  rw [e, Nat.add_mul_mod_self_left, Nat.mod_eq_of_lt h]
theorem turned_keys {l T : List Sp} {n : Nat} (hl : T.length = l.length) (h : ∀ j, j < T.length → T[j]? = l[(j + n) % l.length]?) (k : Bs) : InL T k ↔ InL l k := by
  constructor
  · rintro ⟨s, hs, hk⟩
    obtain ⟨j, hj, rfl⟩ := List.mem_iff_getElem.1 hs
    have := h j hj
    rw [List.getElem?_eq_getElem hj] at this
    exact ⟨_, List.mem_of_getElem? this.symm, hk⟩
  · rintro ⟨s, hs, hk⟩
    obtain ⟨m, hm, rfl⟩ := List.mem_iff_getElem.1 hs
    have hj : (m + (l.length - n % l.length)) % l.length < T.length := by rw [hl]; exact Nat.mod_lt _ (by omega)
    have := h _ hj
    rw [turn_back m n _ hm, List.getElem?_eq_getElem hm] at this
    exact ⟨_, List.mem_of_getElem? this, hk⟩
theorem turned_step {l T : List Sp} {n k q : Nat} (hT : T.length = k) (h : ∀ j, j < T.length → T[j]? = l[(j + n) % l.length]?) (hq : (k + n) % l.length = q) (hl : q < l.length) : ∀ j, j < (T ++ [l[q]]).length → (T ++ [l[q]])[j]? = l[(j + n) % l.length]? := by
  intro j hj
  rw [List.length_append] at hj
  simp at hj
  by_cases h1 : j < T.length
  · rw [List.getElem?_append_left h1]; exact h j h1
  · have : j = k := by omega
    subst this
    rw [List.getElem?_append_right (by omega), hT, hq, List.getElem?_eq_getElem hl]; simp
def swapL (T : List Sp) (i : Nat) (h : i + 1 < T.length) : List Sp := (T.set i T[i + 1]).set (i + 1) (T[i]'(by omega))
theorem swapL_len (T : List Sp) (i : Nat) (h : i + 1 < T.length) : (swapL T i h).length = T.length := by simp [swapL]
theorem swapL_keys (T : List Sp) (i : Nat) (h : i + 1 < T.length) (k : Bs) : InL (swapL T i h) k ↔ InL T k := by
  have hp : (swapL T i h).Perm T := List.set_set_perm (by omega) h
  unfold InL
  simp only [hp.mem_iff]
theorem flatS_set (T : List Sp) (i : Nat) (s : Sp) : (T.set i s).flatMap encS = ((T.flatMap encS).set (i * 2) (.string (Str s.1))).set (i * 2 + 1) (.string (Str s.2)) ∨ T.length ≤ i := by
  induction T generalizing i with
  | nil => right; simp
  | cons t r ih =>
    have e : ∀ (t : Sp) r, (t :: r).flatMap encS = .string (Str t.1) :: .string (Str t.2) :: r.flatMap encS := fun t r => rfl
    cases i with
    | zero => left; rw [List.set_cons_zero, e, e]; rfl
    | succ i =>
      rcases ih i with h | h
      · left
        rw [List.set_cons_succ, e, e, h]
        have h2 : (i + 1) * 2 = i * 2 + 1 + 1 := by omega
        rw [h2]; rfl
      · right; simp; omega
theorem own_set {w : World} {base g n cap : Nat} {T : List Sp} (h : w.ownsRow base 29 2 (.slice (some ⟨g, 0, none⟩) n cap) n (T.flatMap encS)) (i : Nat) (s : Sp) (hi : i < T.length) (hb : base ≤ w.heap.size) :
    ((w.setCell ⟨g, i * 2, none⟩ (.string (Str s.1))).setCell ⟨g, i * 2 + 1, none⟩ (.string (Str s.2))).ownsRow base 29 2 (.slice (some ⟨g, 0, none⟩) n cap) n ((T.set i s).flatMap encS) ∧
    Below base w ((w.setCell ⟨g, i * 2, none⟩ (.string (Str s.1))).setCell ⟨g, i * 2 + 1, none⟩ (.string (Str s.2))) := by
  have hg := h.lt g rfl
  obtain ⟨h1, g1⟩ := h.stored (i * 2) (.string (Str s.1))
  obtain ⟨h2, g2⟩ := h1.stored (i * 2 + 1) (.string (Str s.2))
  have hs : base ≤ (w.setCell ⟨g, i * 2, none⟩ (.string (Str s.1))).heap.size := by simpa using hb
  refine ⟨?_, Below.grown (Below.grown (Below.refl _ _) g1 hb (fun q hq => by cases hq; exact hg.1)) g2 hs (fun q hq => by cases hq; exact hg.1)⟩
  rcases flatS_set T i s with e | e
  · rw [e]; exact h2
  · omega
theorem own_swap {w : World} {base g cap n : Nat} {T : List Sp} (h : w.ownsRow base 29 2 (.slice (some ⟨g, 0, none⟩) n cap) n (T.flatMap encS)) (i : Nat) (hi : i + 1 < T.length) (hb : base ≤ w.heap.size) :
    ((((w.setCell ⟨g, i * 2, none⟩ (.string (Str T[i + 1].1))).setCell ⟨g, i * 2 + 1, none⟩ (.string (Str T[i + 1].2))).setCell ⟨g, (i + 1) * 2, none⟩ (.string (Str (T[i]'(by omega)).1))).setCell ⟨g, (i + 1) * 2 + 1, none⟩ (.string (Str (T[i]'(by omega)).2))).ownsRow base 29 2 (.slice (some ⟨g, 0, none⟩) n cap) n ((swapL T i hi).flatMap encS) ∧
    Below base w ((((w.setCell ⟨g, i * 2, none⟩ (.string (Str T[i + 1].1))).setCell ⟨g, i * 2 + 1, none⟩ (.string (Str T[i + 1].2))).setCell ⟨g, (i + 1) * 2, none⟩ (.string (Str (T[i]'(by omega)).1))).setCell ⟨g, (i + 1) * 2 + 1, none⟩ (.string (Str (T[i]'(by omega)).2))) := by
  obtain ⟨h1, b1⟩ := own_set h i T[i + 1] (by omega) hb
  obtain ⟨h2, b2⟩ := own_set h1 (i + 1) (T[i]'(by omega)) (by simpa using hi) (by simpa using hb)
  exact ⟨h2, b1.trans b2⟩
theorem own_form {w : World} {base n : Nat} {e : TypeId} {v : Value} {xs : List Value} (h : w.ownsRow base e 2 v n xs) : ∃ p cap, v = .slice p n cap ∧ n ≤ cap ∧ cap ≤ maxLen ∧ (0 < n → ∃ g, p = some ⟨g, 0, none⟩) := by
  rcases h.2 with ⟨rfl, h0⟩ | ⟨g, cap, cur, rfl, _, _, hn, hm, _⟩
  · subst h0; exact ⟨none, 0, rfl, Nat.le_refl _, by unfold maxLen; omega, fun h => absurd h (by omega)⟩
  · exact ⟨_, cap, rfl, hn, hm, fun _ => ⟨g, rfl⟩⟩
theorem own_cells {w : World} {base g n cap : Nat} {T : List Sp} (h : w.ownsRow base 29 2 (.slice (some ⟨g, 0, none⟩) n cap) n (T.flatMap encS)) (i : Nat) (hi : i < T.length) :
    w.cell? ⟨g, i * 2, none⟩ = some (.string (Str T[i].1)) ∧ w.cell? ⟨g, i * 2 + 1, none⟩ = some (.string (Str T[i].2)) := by
  have hl := h.1
  rw [flatS_len] at hl
  have f := flatS_get T i hi
  exact ⟨(h.cellAt _ (by omega)).trans f.1, (h.cellAt _ (by omega)).trans f.2⟩
theorem one_spans {w : World} (s : Sp) : IsSpans (w.alloc (.cells #[.string (Str s.1), .string (Str s.2)] 29)) (.slice (some ⟨w.heap.size, 0, none⟩) 1 1) [s] := by
  refine ⟨_, 1, rfl, Nat.le_refl _, by unfold maxLen; omega, fun _ => ⟨w.heap.size, 0, rfl, by simp, fun i hi => ?_⟩⟩
  obtain rfl : i = 0 := by simpa using hi
  have hB : Blk (w.alloc (.cells #[.string (Str s.1), .string (Str s.2)] 29)) w.heap.size 29 #[.string (Str s.1), .string (Str s.2)] := Blk.new _ _ _
  exact ⟨hB.c0 0 _ rfl, hB.c0 1 _ rfl⟩

end Go.Proofs.Ytenhjpopdmiekaa
