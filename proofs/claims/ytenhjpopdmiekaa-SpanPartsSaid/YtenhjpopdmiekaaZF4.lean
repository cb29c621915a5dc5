/-
  What a []string is that came in as an argument (package span).
-/
import Derived.Test.YtenhjpopdmiekaaZF2
import Derived.Test.YtenhjpopdmiekaaZW5
namespace Go.Proofs.Ytenhjpopdmiekaa
open Go.ChangeShapes Go.WideShapes Go.ChangeAt Go.RowKit Go.Deep

section
variable {H : Type} {enc : TypeId × Value → H} {W : World} {base : Nat} {r : Reach} {v : Value} {d : DataW H} {p : List MemPlace}

theorem rows_str {a : Addr} : ∀ n : Nat, (∀ i, i < n → ∃ x : Bs, W.cell? (a.add i) = some (.string (Str x))) →
    ∃ l : List Bs, l.length = n ∧ ∀ i (h : i < l.length), W.cell? (a.add i) = some (.string (Str l[i]))
  | 0, _ => ⟨[], rfl, fun i h => absurd h (by simp)⟩
  | n + 1, h => by
    obtain ⟨l, hl, hc⟩ := rows_str n (fun i hi => h i (by omega))
    obtain ⟨x, h1⟩ := h n (by omega)
    refine ⟨l ++ [x], by simp [hl], fun i hi => ?_⟩
    by_cases hin : i < l.length
    · rw [List.getElem_append_left hin]; exact hc i hin
    · have : i = n := by simp at hi; omega
      subst this
      rw [List.getElem_append_right (by omega)]
      simp [hl]
      exact h1
theorem open_strs (hval : Value.okWide Try.prog W r base 32 v) (hd : DataW.Trod enc Try.prog W 0 (fun _ => true) true 32 v d p) : ∃ l, IsStrs W v l := by
  obtain ⟨a, len, cap, rfl⟩ := okWide_slice Try.underlying32 hval
  obtain ⟨fuel, hf⟩ := hd
  have hf' : DataW.trod enc Try.prog W 0 (fun _ => true) true fuel 32 [.slice a len cap] = some (d, p) := by simpa [Value.cells] using hf
  rcases open_slice Try.underlying32 hf' with ⟨hcs, _⟩ | ⟨x, len', cap', m, n, D, Pl, hcs, _, hl, hm, hmm, _, hi⟩
  · simp only [List.cons.injEq, and_true] at hcs
    rw [hcs]
    exact ⟨[], none, 0, rfl, Nat.le_refl _, by unfold maxLen; omega, fun h => absurd rfl h⟩
  · simp only [List.cons.injEq, and_true] at hcs
    rw [hcs]
    simp only [↓reduceIte] at hmm
    have e2 : Try.prog.cellsOf 9 = 1 := by kernel_rfl
    have hrow : ∀ i, i < len' → ∃ s : Bs, W.cell? (x.add i) = some (.string (Str s)) := by
      intro i hil
      obtain ⟨cs', hc, ht⟩ := hi i (by omega)
      rw [e2] at hc
      obtain ⟨_, hlen, hcell⟩ := World.cells?_some hc
      match cs', hlen with
      | [c0], _ =>
        obtain ⟨s, rfl, _⟩ := one_str ht
        have h0 := hcell 0 (by omega)
        rw [Go.Deep.add_add] at h0
        exact ⟨s, by simpa using h0⟩
    obtain ⟨l, hll, hc⟩ := rows_str len' hrow
    refine ⟨l, some x, cap', by rw [hll], by omega, hm, fun hne => ?_⟩
    have h0 : 0 < l.length := List.length_pos_iff.2 hne
    obtain ⟨b, off, spot⟩ := x
    have hc0 := hc 0 h0
    have hspot : spot = none := by simpa [Addr.add] using World.cell?_spot hc0
    subst hspot
    have hadd : ∀ i, (⟨b, off, none⟩ : Addr).add i = ⟨b, off + i, none⟩ := by intro i; unfold Addr.add; split <;> simp_all
    rw [hadd] at hc0
    refine ⟨b, off, rfl, cell_lt hc0, fun i hi => ?_⟩
    have hci := hc i hi
    rw [hadd] at hci
    exact hci
end
end Go.Proofs.Ytenhjpopdmiekaa
