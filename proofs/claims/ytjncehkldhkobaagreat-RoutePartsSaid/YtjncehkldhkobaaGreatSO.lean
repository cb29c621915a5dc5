/-
  What arguments are: lists of bytes, texts, two texts, lists of texts.
-/
import Derived.Test.YtjncehkldhkobaaGreatNQJ
import Derived.Test.YtjncehkldhkobaaGreatNDX
import Derived.Deep.Slices
namespace Go.Proofs.YtjncehkldhkobaaGreat
open Go.ChangeShapes Go.WideShapes Go.ChangeAt Go.RowKit Go.Deep Go.Sort
open Go.ChangeMaps (open_string shut_string)
set_option linter.unusedVariables false
set_option maxRecDepth 100000
section
variable {H : Type} {enc : TypeId × Value → H} {W : World} {base : Nat} {r : Reach} {v : Value} {d : DataW H} {p : List MemPlace}
theorem cells_bytes {fuel : Nat} {c : Value} {y : DataW H × List MemPlace} (hf : DataW.trod enc Tryz.prog W 0 (fun _ => true) true fuel 23 [c] = some y) : ∃ l, IsBytes W c l := by
  rcases open_ints Tryz.underlying23 Tryz.underlying5 (by kernel_rfl) hf with ⟨hcs, _⟩ | ⟨x, len, cap, zs, hcs, _, hl, hm, hz, _, hcell, hwz⟩
  · simp only [List.cons.injEq, and_true] at hcs
    subst hcs
    exact ⟨[], none, 0, rfl, Nat.le_refl _, by unfold maxLen; omega, fun h => absurd rfl h⟩
  · simp only [List.cons.injEq, and_true] at hcs
    subst hcs
    simp only [↓reduceIte] at hz
    refine ⟨(zs.take len).map fun n => UInt8.ofNat n.toNat, some x, cap, ?_, ?_, hm, fun hne => ?_⟩
    · simp; omega
    · simp; omega
    · have hlen : ((zs.take len).map fun n => UInt8.ofNat n.toNat).length = len := by simp; omega
      have h0 : 0 < len := by
        rcases Nat.eq_zero_or_pos len with h | h
        · subst h; exact absurd rfl hne
        · exact h
      obtain ⟨b, off, spot⟩ := x
      have hc := hcell 0 (by omega)
      have hspot : spot = none := by simpa [Addr.add] using World.cell?_spot hc
      subst hspot
      have hc0 := hc
      simp only [Addr.add, Nat.add_zero] at hc0
      refine ⟨b, off, rfl, cell_lt hc0, fun i hi => ?_⟩
      have hi' : i < len := by omega
      have hci := hcell i (by omega)
      have hadd : (⟨b, off, none⟩ : Addr).add i = ⟨b, off + i, none⟩ := by unfold Addr.add; split <;> simp_all
      rw [hadd] at hci
      have hmem : zs.getD i 0 ∈ zs := by rw [List.getD_eq_getElem?_getD, List.getElem?_eq_getElem (by omega)]; exact List.getElem_mem _
      have hw := bounds_u8 (hwz _ hmem)
      refine Eq.trans hci ?_
      simp only [List.getElem_map, List.getElem_take]
      rw [List.getD_eq_getElem?_getD, List.getElem?_eq_getElem (by omega)] at hw ⊢
      simp only [Option.getD_some] at hw ⊢
      congr 2
      rw [UInt8.toNat_ofNat']
      omega
theorem open_bytes (hval : Value.okWide Tryz.prog W r base 23 v) (hd : DataW.Trod enc Tryz.prog W 0 (fun _ => true) true 23 v d p) : ∃ l, IsBytes W v l := by
  obtain ⟨a, len, cap, rfl⟩ := okWide_slice Tryz.underlying23 hval
  obtain ⟨fuel, hf⟩ := hd
  exact cells_bytes (c := .slice a len cap) (by simpa [Value.cells] using hf)
end
open Go.ChangeShapes Go.WideShapes Go.ChangeAt Go.RowKit
/-- A text. -/
def IsStr (_w : World) (v : Value) (l : Bs) : Prop := v = .string (Str l) ∧ l.length ≤ maxLen
/-- Two texts. -/
def IsTwo (_w : World) (v : Value) (s : Bs × Bs) : Prop := v = .agg #[.string (Str s.1), .string (Str s.2)] ∧ s.1.length ≤ maxLen ∧ s.2.length ≤ maxLen

section
variable {H : Type} {enc : TypeId × Value → H} {W : World} {base : Nat} {r : Reach} {v : Value} {d : DataW H} {p : List MemPlace}
theorem open_str (hval : Value.okWide Tryz.prog W r base 9 v) (hd : DataW.Trod enc Tryz.prog W 0 (fun _ => true) true 9 v d p) : ∃ l : Bs, IsStr W v l := by
  obtain ⟨s, rfl, _, _, hs⟩ := open_string Tryz.underlying9 hval hd
  exact ⟨s.toList, by rw [Lib.toList_data]; rfl, by rw [Lib.toList_data, ← Lib.size_eq]; exact hs⟩
theorem one_str {fuel : Nat} {c : Value} {y : DataW H × List MemPlace} (h : DataW.trod enc Tryz.prog W 0 (fun _ => true) true fuel 9 [c] = some y) : ∃ l : Bs, c = .string (Str l) ∧ l.length ≤ maxLen := by
  obtain ⟨s, e, _, hs⟩ := DataW.trod_string Tryz.underlying9 h
  simp only [List.cons.injEq, and_true] at e
  subst e
  exact ⟨s.toList, by rw [Lib.toList_data]; rfl, by rw [Lib.toList_data, ← Lib.size_eq]; exact hs⟩
theorem open_two (hval : Value.okWide Tryz.prog W r base 44 v) (hd : DataW.Trod enc Tryz.prog W 0 (fun _ => true) true 44 v d p) : ∃ x, IsTwo W v x := by
  obtain ⟨cs, rfl, hsz⟩ := okWide_arr Tryz.underlying44 hval
  obtain ⟨c0, c1, rfl⟩ := Joins.array2 (hsz.trans (by kernel_rfl))
  obtain ⟨fuel, hf⟩ := hd
  obtain ⟨xs, m, _, _, _, hx, hi⟩ := DataW.trod_array Tryz.underlying44 hf
  match xs, hx with
  | [y0, y1], _ =>
    have e : Tryz.prog.cellsOf 9 = 1 := by kernel_rfl
    have g0 := hi 0 (by omega)
    have g1 := hi 1 (by omega)
    rw [e] at g0 g1
    simp [Value.cells] at g0 g1
    obtain ⟨l0, h0, b0⟩ := one_str g0
    obtain ⟨l1, h1, b1⟩ := one_str g1
    subst h0 h1
    exact ⟨(l0, l1), rfl, b0, b1⟩

end
open Go.ChangeShapes Go.WideShapes Go.ChangeAt Go.RowKit Go.Deep
section
variable {H : Type} {enc : TypeId × Value → H} {W : World} {base : Nat} {r : Reach} {v : Value} {d : DataW H} {p : List MemPlace}
theorem rows_str {a : Addr} : ∀ n : Nat, (∀ i, i < n → ∃ x : Bs, W.cell? (a.add i) = some (.string (Str x))) →
    ∃ l : List Bs, l.length = n ∧ ∀ i (h : i < l.length), W.cell? (a.add i) = some (.string (Str l[i]))
  | 0, _ => ⟨[], rfl, fun i h => absurd h (by simp)⟩
  | n + 1, h => by
    obtain ⟨l, hl, hc⟩ := rows_str n (fun i hi => h i (by omega))
    obtain ⟨x, h1⟩ := h n (by omega)
    refine ⟨l ++ [x], by simp [hl], fun i hi => ?_⟩
    by_cases hin : i < l.length
    · rw [List.getElem_append_left hin]; exact hc i hin
    · have : i = n := by simp at hi; omega
      subst this
      rw [List.getElem_append_right (by omega)]
      simp [hl]
      exact h1
theorem open_strs (hval : Value.okWide Tryz.prog W r base 27 v) (hd : DataW.Trod enc Tryz.prog W 0 (fun _ => true) true 27 v d p) : ∃ l, IsStrs W v l := by
  obtain ⟨a, len, cap, rfl⟩ := okWide_slice Tryz.underlying27 hval
  obtain ⟨fuel, hf⟩ := hd
  have hf' : DataW.trod enc Tryz.prog W 0 (fun _ => true) true fuel 27 [.slice a len cap] = some (d, p) := by simpa [Value.cells] using hf
  rcases open_slice Tryz.underlying27 hf' with ⟨hcs, _⟩ | ⟨x, len', cap', m, n, D, Pl, hcs, _, hl, hm, hmm, _, hi⟩
  · simp only [List.cons.injEq, and_true] at hcs
    rw [hcs]
    exact ⟨[], none, 0, rfl, Nat.le_refl _, by unfold maxLen; omega, fun h => absurd rfl h⟩
  · simp only [List.cons.injEq, and_true] at hcs
    rw [hcs]
    simp only [↓reduceIte] at hmm
    have e2 : Tryz.prog.cellsOf 9 = 1 := by kernel_rfl
    have hrow : ∀ i, i < len' → ∃ s : Bs, W.cell? (x.add i) = some (.string (Str s)) := by
      intro i hil
      obtain ⟨cs', hc, ht⟩ := hi i (by omega)
      rw [e2] at hc
      obtain ⟨_, hlen, hcell⟩ := World.cells?_some hc
      match cs', hlen with
      | [c0], _ =>
        obtain ⟨s, rfl, _⟩ := one_str ht
        have h0 := hcell 0 (by omega)
        rw [Go.Deep.add_add] at h0
        exact ⟨s, by simpa using h0⟩
    obtain ⟨l, hll, hc⟩ := rows_str len' hrow
    refine ⟨l, some x, cap', by rw [hll], by omega, hm, fun hne => ?_⟩
    have h0 : 0 < l.length := List.length_pos_iff.2 hne
    obtain ⟨b, off, spot⟩ := x
    have hc0 := hc 0 h0
    have hspot : spot = none := by simpa [Addr.add] using World.cell?_spot hc0
    subst hspot
    have hadd : ∀ i, (⟨b, off, none⟩ : Addr).add i = ⟨b, off + i, none⟩ := by intro i; unfold Addr.add; split <;> simp_all
    rw [hadd] at hc0
    refine ⟨b, off, rfl, cell_lt hc0, fun i hi => ?_⟩
    have hci := hc i hi
    rw [hadd] at hci
    exact hci
end

end Go.Proofs.YtjncehkldhkobaaGreat
