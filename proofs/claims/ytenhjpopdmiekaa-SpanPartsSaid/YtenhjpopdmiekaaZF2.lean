/-
  What a slice of spans is that came in as an argument (package span).
-/
import Derived.Test.YtenhjpopdmiekaaZF
import Derived.Deep.Slices
namespace Go.Proofs.Ytenhjpopdmiekaa
open Go.ChangeShapes Go.WideShapes Go.ChangeAt Go.RowKit Go.Deep
open Go.ChangeMaps (open_string shut_string)

section
variable {H : Type} {enc : TypeId × Value → H} {W : World} {base : Nat} {r : Reach} {v : Value} {d : DataW H} {p : List MemPlace}

theorem elem_span {fuel : Nat} {cs : List Value} {y : DataW H × List MemPlace} (h : DataW.trod enc Try.prog W 0 (fun _ => true) true fuel 29 cs = some y) (hl : cs.length = 2) : ∃ a b : Bs, cs = [.string (Str a), .string (Str b)] := by
  obtain ⟨xs, n, _, _, _, hxs, hf⟩ := DataW.trod_struct Try.underlying29 h
  match cs, hl with
  | [c0, c1], _ =>
    match xs, hxs with
    | [y0, y1], _ =>
      have e : Try.prog.cellsOf 9 = 1 := by kernel_rfl
      have g0 := hf 0 _ rfl
      have g1 := hf 1 _ rfl
      try simp only [e] at g0 g1
      simp [e] at g0 g1
      obtain ⟨a, rfl, _⟩ := one_str g0
      obtain ⟨b, rfl, _⟩ := one_str g1
      exact ⟨a, b, rfl⟩
theorem rows_span {a : Addr} : ∀ n : Nat, (∀ i, i < n → ∃ x y : Bs, W.cell? (a.add (i * 2)) = some (.string (Str x)) ∧ W.cell? (a.add (i * 2 + 1)) = some (.string (Str y))) →
    ∃ l : List Sp, l.length = n ∧ ∀ i (h : i < l.length), W.cell? (a.add (i * 2)) = some (.string (Str l[i].1)) ∧ W.cell? (a.add (i * 2 + 1)) = some (.string (Str l[i].2))
  | 0, _ => ⟨[], rfl, fun i h => absurd h (by simp)⟩
  | n + 1, h => by
    obtain ⟨l, hl, hc⟩ := rows_span n (fun i hi => h i (by omega))
    obtain ⟨x, y, h1, h2⟩ := h n (by omega)
    refine ⟨l ++ [(x, y)], by simp [hl], fun i hi => ?_⟩
    by_cases hin : i < l.length
    · rw [List.getElem_append_left hin]; exact hc i hin
    · have : i = n := by simp at hi; omega
      subst this
      rw [List.getElem_append_right (by omega)]
      simp [hl]
      exact ⟨h1, h2⟩
theorem open_spans (hval : Value.okWide Try.prog W r base 22 v) (hd : DataW.Trod enc Try.prog W 0 (fun _ => true) true 22 v d p) : ∃ l, IsSpans W v l := by
  obtain ⟨a, len, cap, rfl⟩ := okWide_slice Try.underlying22 hval
  obtain ⟨fuel, hf⟩ := hd
  have hf' : DataW.trod enc Try.prog W 0 (fun _ => true) true fuel 22 [.slice a len cap] = some (d, p) := by simpa [Value.cells] using hf
  rcases open_slice Try.underlying22 hf' with ⟨hcs, _⟩ | ⟨x, len', cap', m, n, D, Pl, hcs, _, hl, hm, hmm, _, hi⟩
  · simp only [List.cons.injEq, and_true] at hcs
    rw [hcs]
    exact ⟨[], none, 0, rfl, Nat.le_refl _, by unfold maxLen; omega, fun h => absurd rfl h⟩
  · simp only [List.cons.injEq, and_true] at hcs
    rw [hcs]
    simp only [↓reduceIte] at hmm
    have e2 : Try.prog.cellsOf 29 = 2 := by kernel_rfl
    have hrow : ∀ i, i < len' → ∃ s t : Bs, W.cell? (x.add (i * 2)) = some (.string (Str s)) ∧ W.cell? (x.add (i * 2 + 1)) = some (.string (Str t)) := by
      intro i hil
      obtain ⟨cs', hc, ht⟩ := hi i (by omega)
      rw [e2] at hc
      obtain ⟨_, hlen, hcell⟩ := World.cells?_some hc
      obtain ⟨s, t, rfl⟩ := elem_span ht hlen
      have h0 := hcell 0 (by omega)
      have h1 := hcell 1 (by omega)
      rw [Go.Deep.add_add] at h0 h1
      exact ⟨s, t, h0, h1⟩
    obtain ⟨l, hll, hc⟩ := rows_span len' hrow
    refine ⟨l, some x, cap', by rw [hll], by omega, hm, fun hne => ?_⟩
    have h0 : 0 < l.length := List.length_pos_iff.2 hne
    obtain ⟨b, off, spot⟩ := x
    have hc0 := (hc 0 h0).1
    have hspot : spot = none := by simpa [Addr.add] using World.cell?_spot hc0
    subst hspot
    have hadd : ∀ i, (⟨b, off, none⟩ : Addr).add i = ⟨b, off + i, none⟩ := by intro i; unfold Addr.add; split <;> simp_all
    rw [hadd] at hc0
    refine ⟨b, off, rfl, cell_lt hc0, fun i hi => ?_⟩
    have hci := hc i hi
    rw [hadd, hadd] at hci
    exact hci
end
end Go.Proofs.Ytenhjpopdmiekaa
