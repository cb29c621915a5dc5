/-
  Plain: what the leaves of a table are.
-/
import Derived.Test.YthpajecigkfajaaAK
namespace Go.Proofs.Ythpajecigkfajaa
open Go.RowKit Go.Sort
set_option linter.unusedVariables false

structure Leaves (PL : List Pr) (m : Nat) (LN : List Nd) (LP : List Bs) : Prop where
  some : 1 ≤ LN.length
  most : LN.length ≤ max 1 PL.length
  cnt : LP.length + 1 = LN.length
  one : LN.length = 1 ↔ PL.length ≤ m
  each : ∀ i (h : i < LN.length), LN[i].pairs.length ≤ m ∧ LN[i].kids = []
  flat : (LN.map (·.pairs)).flatten = PL
  low : ∀ i (h : i < LN.length) (h2 : 0 < i) (h3 : i - 1 < LP.length), ∀ x ∈ LN[i].pairs, Op.bytesLess x.1 LP[i - 1] = false
  high : ∀ i (h : i < LN.length) (h2 : i < LP.length), ∀ x ∈ LN[i].pairs, Op.bytesLess x.1 LP[i] = true
  order : ∀ i (h : i < LP.length) (h2 : 0 < i), Op.bytesLess (LP[i - 1]'(by omega)) LP[i] = true
theorem keyP1_mem {p : List Pr} (h : p ≠ []) : ∃ x, x ∈ p ∧ keyP1 p = x.1 ∧ ∃ r, p = x :: r := by
  cases p with
  | nil => exact absurd rfl h
  | cons x r => exact ⟨x, List.mem_cons_self, rfl, r, rfl⟩
theorem leaves_ok (PL : List Pr) (m : Nat) (hm : 1 ≤ m) (hs : Srt PL) : Leaves PL m (leafN PL m) (leafP PL m) := by
  by_cases hl : PL = []
  · subst hl
    have e1 : leafN ([] : List Pr) (m : Int) = [noNd] := by unfold leafN; rw [if_pos rfl]
    have e2 : leafP ([] : List Pr) (m : Int) = [] := by unfold leafP; rw [cut_nil]; rfl
    rw [e1, e2]
    exact ⟨by simp, by simp, by simp, by simp, fun i h => by
        obtain rfl : i = 0 := by simpa using h
        exact ⟨Nat.zero_le _, rfl⟩, rfl, fun i h h2 h3 => by simp at h3, fun i h h2 => by simp at h2, fun i h => by simp at h⟩
  · have e1 : leafN PL (m : Int) = (cutL PL (m : Int)).map leafX := by unfold leafN; rw [if_neg hl]
    have e2 : leafP PL (m : Int) = ((cutL PL (m : Int)).drop 1).map keyP1 := rfl
    obtain ⟨c, q, r, e, h1, h2, h3, h4, h5, h6, h7, h8⟩ := cutL_sizes PL m hm hl
    have hne := cutL_ne PL m hm
    have hfl := cutL_flat PL m hm
    have hlen : (cutL PL (m : Int)).length = c := by rw [e, cutS_len]
    rw [← e] at h8
    rw [e1, e2]
    generalize cutL PL (m : Int) = PS at *
    have hsz : ∀ i (h : i < PS.length), PS[i].length ≤ m := fun i h => by
      rw [sizes_at h8 i h]
      split
      · rw [if_pos (by omega)] at h6; omega
      · split at h6 <;> omega
    have hpw : PS.flatten.Pairwise (fun x y => Op.bytesLess x.1 y.1 = true) := by rw [hfl]; exact hs
    rw [List.pairwise_flatten] at hpw
    obtain ⟨hin, hbt⟩ := hpw
    rw [List.pairwise_iff_getElem] at hbt
    have hk : ∀ i (h : i < PS.length), ∃ x, x ∈ PS[i] ∧ keyP1 PS[i] = x.1 ∧ ∃ r, PS[i] = x :: r := fun i h => keyP1_mem (hne _ (List.getElem_mem h))
    refine ⟨by simp; omega, by simp; omega, by simp; omega, ?_, fun i h => ?_, ?_, fun i h h0 h3 x hx => ?_, fun i h h0 x hx => ?_, fun i h h0 => ?_⟩
    · rw [List.length_map, hlen]
      constructor
      · rintro rfl
        have : r = 0 := by omega
        subst this
        split at h6 <;> omega
      · intro hle
        by_cases hc : c = 1
        · exact hc
        · exfalso
          obtain ⟨d, rfl⟩ : ∃ d, c = d + 2 := ⟨c - 2, by omega⟩
          have : 1 * m ≤ (d + 2 - 1) * m := Nat.mul_le_mul_right _ (by omega)
          omega
    · have h9 : i < PS.length := by simpa using h
      rw [List.getElem_map]
      exact ⟨hsz i h9, rfl⟩
    · rw [List.map_map]
      have : ((fun x : Nd => x.pairs) ∘ leafX) = id := rfl
      rw [this, List.map_id]; exact hfl
    · have h9 : i < PS.length := by simpa using h
      rw [List.getElem_map] at hx
      rw [List.getElem_map, List.getElem_drop]
      have e3 : 1 + (i - 1) = i := by omega
      simp only [e3]
      obtain ⟨y, hy, hky, rr, hr⟩ := hk i h9
      rw [hky]
      have hx : x ∈ PS[i] := hx
      rw [hr] at hx
      rcases List.mem_cons.1 hx with rfl | hx
      · exact less_irrefl _
      · have := hin _ (List.getElem_mem h9)
        rw [hr, List.pairwise_cons] at this
        exact less_asymm (this.1 x hx)
    · have h9 : i < PS.length := by simpa using h
      rw [List.getElem_map] at hx
      have h10 : i + 1 < PS.length := by simp at h0; omega
      rw [List.getElem_map, List.getElem_drop]
      have e3 : 1 + i = i + 1 := by omega
      simp only [e3]
      obtain ⟨y, hy, hky, -⟩ := hk (i + 1) h10
      rw [hky]
      exact hbt i (i + 1) h9 h10 (by omega) x hx y hy
    · have h10 : i + 1 < PS.length := by simp at h; omega
      rw [List.getElem_map, List.getElem_map, List.getElem_drop, List.getElem_drop]
      have e3 : 1 + i = i + 1 := by omega
      have e4 : 1 + (i - 1) = i := by omega
      simp only [e3, e4]
      obtain ⟨y, hy, hky, -⟩ := hk (i + 1) h10
      obtain ⟨z, hz, hkz, -⟩ := hk i (by omega)
      rw [hky, hkz]
      exact hbt i (i + 1) (by omega) h10 (by omega) z hz y hy

end Go.Proofs.Ythpajecigkfajaa
