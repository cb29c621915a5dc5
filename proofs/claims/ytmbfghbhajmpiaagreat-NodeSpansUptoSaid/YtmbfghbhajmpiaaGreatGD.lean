/-
  What the arguments of laws are, said of the world: raw pairs, and spans.
-/
import Derived.Test.YtmbfghbhajmpiaaGreatGC
import Derived.Test.YtmbfghbhajmpiaaGreatNDX
import Derived.Test.YtmbfghbhajmpiaaGreatRows
import Derived.ProofKit
import Derived.OpenShut
import Derived.ShutString
import Derived.ChangeOld
import Derived.Below
import Derived.Lib.SmallJoins
import Derived.Deep.Slices
namespace Go.Proofs.YtmbfghbhajmpiaaGreat
namespace T4
open Go.ChangeShapes Go.WideShapes Go.ChangeAt Go.RowKit Go.Deep
open Go.ChangeMaps (open_string shut_string)
set_option linter.unusedVariables false
set_option maxRecDepth 100000
variable {H : Type} {enc : TypeId × Value → H} {W : World} {base : Nat} {r : Reach} {v : Value} {d : DataW H} {p : List MemPlace}
theorem cellsU8 : Tryz.prog.cellsOf 5 = 1 := by kernel_rfl
theorem okWide_arr {n : Nat} {e t : TypeId} (ht : Tryz.prog.underlying t = some (.array n e)) (h : Value.okWide Tryz.prog W r base t v) : ∃ cs, v = .agg cs ∧ cs.size = Tryz.prog.cellsOf t := by
  simp only [Value.okWide, ht] at h
  obtain ⟨cs, h1, h2, _⟩ := h
  exact ⟨cs, h1, h2⟩
theorem one_u8 {fuel : Nat} {c : Value} {y : DataW H × List MemPlace} (h : DataW.trod enc Tryz.prog W 0 (fun _ => true) true fuel 5 [c] = some y) : ∃ n : Nat, c = .int .u8 n ∧ n < 256 := by
  obtain ⟨n, e, _, hn⟩ := DataW.trod_int Tryz.underlying5 h
  simp only [List.cons.injEq, and_true] at e
  have hb := bounds_u8 hn
  exact ⟨n.toNat, by rw [e, Int.toNat_of_nonneg hb.1], by omega⟩
theorem elem_raw {fuel : Nat} {cs : List Value} {y : DataW H × List MemPlace} (h : DataW.trod enc Tryz.prog W 0 (fun _ => true) true fuel 129 cs = some y) (hl : cs.length = 3) :
    ∃ x : Rw, cs = [.int .u8 x.1, .int .u8 x.2.1, .int .u8 x.2.2] ∧ SmallR x := by
  obtain ⟨xs, m, _, _, _, hx, hi⟩ := DataW.trod_array Tryz.underlying129 h
  match cs, hl with
  | [c0, c1, c2], _ =>
    match xs, hx with
    | [y0, y1, y2], _ =>
      have g0 := hi 0 (by omega)
      have g1 := hi 1 (by omega)
      have g2 := hi 2 (by omega)
      rw [cellsU8] at g0 g1 g2
      simp at g0 g1 g2
      obtain ⟨a0, rfl, h0⟩ := one_u8 g0
      obtain ⟨a1, rfl, h1⟩ := one_u8 g1
      obtain ⟨a2, rfl, h2⟩ := one_u8 g2
      exact ⟨(a0, a1, a2), rfl, h0, h1, h2⟩
theorem rows_raw {a : Addr} : ∀ n : Nat, (∀ i, i < n → ∃ x : Rw, (W.cell? (a.add (i * 3)) = some (.int .u8 x.1) ∧ W.cell? (a.add (i * 3 + 1)) = some (.int .u8 x.2.1) ∧ W.cell? (a.add (i * 3 + 2)) = some (.int .u8 x.2.2)) ∧ SmallR x) →
    ∃ l : List Rw, l.length = n ∧ (∀ x ∈ l, SmallR x) ∧ ∀ i (h : i < l.length), W.cell? (a.add (i * 3)) = some (.int .u8 l[i].1) ∧ W.cell? (a.add (i * 3 + 1)) = some (.int .u8 l[i].2.1) ∧ W.cell? (a.add (i * 3 + 2)) = some (.int .u8 l[i].2.2)
  | 0, _ => ⟨[], rfl, fun x hx => by simp at hx, fun i h => absurd h (by simp)⟩
  | n + 1, h => by
    obtain ⟨l, hl, hs, hc⟩ := rows_raw n (fun i hi => h i (by omega))
    obtain ⟨x, h1, h2⟩ := h n (by omega)
    refine ⟨l ++ [x], by simp [hl], fun z hz => ?_, fun i hi => ?_⟩
    · rcases List.mem_append.1 hz with hz | hz
      · exact hs z hz
      · simp at hz; subst hz; exact h2
    · by_cases hin : i < l.length
      · rw [List.getElem_append_left hin]; exact hc i hin
      · have : i = n := by simp at hi; omega
        subst this
        rw [List.getElem_append_right (by omega)]
        simp [hl]
        exact h1
theorem cells_r4s {fuel : Nat} {c : Value} {y : DataW H × List MemPlace} (hf' : DataW.trod enc Tryz.prog W 0 (fun _ => true) true fuel 22 [c] = some y) : ∃ l, IsRaws W c l := by
  rcases open_slice Tryz.underlying22 hf' with ⟨hcs, _⟩ | ⟨x, len', cap', m, n, D, Pl, hcs, _, hl, hm, hmm, _, hi⟩
  · simp only [List.cons.injEq, and_true] at hcs
    rw [hcs]
    exact ⟨[], none, 0, rfl, Nat.le_refl _, by unfold maxLen; omega, fun x hx => by simp at hx, fun h => absurd rfl h⟩
  · simp only [List.cons.injEq, and_true] at hcs
    rw [hcs]
    simp only [↓reduceIte] at hmm
    have e3 : Tryz.prog.cellsOf 129 = 3 := by kernel_rfl
    have hrow : ∀ i, i < len' → ∃ x' : Rw, (W.cell? (x.add (i * 3)) = some (.int .u8 x'.1) ∧ W.cell? (x.add (i * 3 + 1)) = some (.int .u8 x'.2.1) ∧ W.cell? (x.add (i * 3 + 2)) = some (.int .u8 x'.2.2)) ∧ SmallR x' := by
      intro i hil
      obtain ⟨cs', hc, ht⟩ := hi i (by omega)
      rw [e3] at hc
      obtain ⟨_, hlen, hcell⟩ := World.cells?_some hc
      obtain ⟨q, rfl, hs⟩ := elem_raw ht hlen
      have h0 := hcell 0 (by omega)
      have h1 := hcell 1 (by omega)
      have h2 := hcell 2 (by omega)
      rw [Go.Deep.add_add] at h0 h1 h2
      exact ⟨q, ⟨h0, h1, h2⟩, hs⟩
    obtain ⟨l, hll, hs, hc⟩ := rows_raw len' hrow
    refine ⟨l, some x, cap', by rw [hll], by omega, hm, hs, fun hne => ?_⟩
    have h0 : 0 < l.length := List.length_pos_iff.2 hne
    obtain ⟨b, off, spot⟩ := x
    have hc0 := (hc 0 h0).1
    have hspot : spot = none := by simpa [Addr.add] using World.cell?_spot hc0
    subst hspot
    have hadd : ∀ i, (⟨b, off, none⟩ : Addr).add i = ⟨b, off + i, none⟩ := by intro i; unfold Addr.add; split <;> simp_all
    rw [hadd] at hc0
    refine ⟨b, off, rfl, cell_lt hc0, fun i hi => ?_⟩
    have hci := hc i hi
    rw [hadd, hadd, hadd] at hci
    exact hci
section
variable {H : Type} {enc : TypeId × Value → H} {W : World} {base : Nat} {r : Reach} {v : Value} {d : DataW H} {p : List MemPlace}
end

end T4
end Go.Proofs.YtmbfghbhajmpiaaGreat
