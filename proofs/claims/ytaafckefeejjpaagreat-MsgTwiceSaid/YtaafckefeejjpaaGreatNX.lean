/-
  What the arguments of the laws of package msg are, said of the world.
-/
import Derived.Test.YtaafckefeejjpaaGreatNE
import Derived.Test.YtaafckefeejjpaaGreatKB
import Derived.Test.YtaafckefeejjpaaGreatRows
import Derived.ProofKit
import Derived.OpenShut
import Derived.ShutString
import Derived.ChangeOld
import Derived.Below
import Derived.Lib.SmallJoins
import Derived.Deep.Slices
namespace Go.Proofs.YtaafckefeejjpaaGreat
open Go.ChangeShapes Go.WideShapes Go.ChangeAt Go.RowKit Go.Deep
open Go.ChangeMaps (open_string shut_string)
set_option linter.unusedVariables false
set_option maxRecDepth 100000

theorem ownNone : ownKnob Tryz.prog.godebug = none := by kernel_rfl
theorem laidOutA : laidOutB Tryz.prog = true := by kernel_rfl

/-- Six bytes that describe a message, two times six. -/
abbrev R6 := Nat × Nat × Nat × Nat × Nat × Nat
def rawA (x : R6) : Array Value := raw6 x.1 x.2.1 x.2.2.1 x.2.2.2.1 x.2.2.2.2.1 x.2.2.2.2.2
def madeX (x : R6) : Ms := madeM x.1 x.2.1 x.2.2.1 x.2.2.2.1 x.2.2.2.2.1 x.2.2.2.2.2
def SmallX (x : R6) : Prop := Small6 x.1 x.2.1 x.2.2.1 x.2.2.2.1 x.2.2.2.2.1 x.2.2.2.2.2
def IsRaw6 (_w : World) (v : Value) (x : R6) : Prop := v = .agg (rawA x) ∧ SmallX x
def IsRaw6x2 (_w : World) (v : Value) (x : R6 × R6) : Prop := v = .agg (rawA x.1 ++ rawA x.2) ∧ SmallX x.1 ∧ SmallX x.2

section
variable {H : Type} {enc : TypeId × Value → H} {W : World} {base : Nat} {r : Reach} {v : Value} {d : DataW H} {p : List MemPlace}

theorem array6 {α : Type} {cs : Array α} (h : cs.size = 6) : ∃ c0 c1 c2 c3 c4 c5, cs = #[c0, c1, c2, c3, c4, c5] := by
  obtain ⟨l⟩ := cs
  match l, h with
  | [a, b, c, d, e, f], _ => exact ⟨a, b, c, d, e, f, rfl⟩
theorem array12 {α : Type} {cs : Array α} (h : cs.size = 12) : ∃ c0 c1 c2 c3 c4 c5 c6 c7 c8 c9 c10 c11, cs = #[c0, c1, c2, c3, c4, c5, c6, c7, c8, c9, c10, c11] := by
  obtain ⟨l⟩ := cs
  match l, h with
  | [a, b, c, d, e, f, g, h, i, j, k, l], _ => exact ⟨a, b, c, d, e, f, g, h, i, j, k, l, rfl⟩
theorem cellsU8 : Tryz.prog.cellsOf 5 = 1 := by kernel_rfl
theorem okWide_arr {n : Nat} {e t : TypeId} (ht : Tryz.prog.underlying t = some (.array n e)) (h : Value.okWide Tryz.prog W r base t v) : ∃ cs, v = .agg cs ∧ cs.size = Tryz.prog.cellsOf t := by
  simp only [Value.okWide, ht] at h
  obtain ⟨cs, h1, h2, _⟩ := h
  exact ⟨cs, h1, h2⟩
theorem one_u8 {fuel : Nat} {c : Value} {y : DataW H × List MemPlace} (h : DataW.trod enc Tryz.prog W 0 (fun _ => true) true fuel 5 [c] = some y) : ∃ n : Nat, c = .int .u8 n ∧ n < 256 := by
  obtain ⟨n, e, _, hn⟩ := DataW.trod_int Tryz.underlying5 h
  simp only [List.cons.injEq, and_true] at e
  have hb := bounds_u8 hn
  exact ⟨n.toNat, by rw [e, Int.toNat_of_nonneg hb.1], by omega⟩
theorem elem_three {fuel : Nat} {cs : List Value} {y : DataW H × List MemPlace} (h : DataW.trod enc Tryz.prog W 0 (fun _ => true) true fuel 93 cs = some y) (hl : cs.length = 3) :
    ∃ x : Rw, cs = [.int .u8 x.1, .int .u8 x.2.1, .int .u8 x.2.2] ∧ SmallR x := by
  obtain ⟨xs, m, _, _, _, hx, hi⟩ := DataW.trod_array Tryz.underlying93 h
  match cs, hl with
  | [c0, c1, c2], _ =>
    match xs, hx with
    | [y0, y1, y2], _ =>
      have g0 := hi 0 (by omega)
      have g1 := hi 1 (by omega)
      have g2 := hi 2 (by omega)
      rw [cellsU8] at g0 g1 g2
      simp at g0 g1 g2
      obtain ⟨a0, rfl, h0⟩ := one_u8 g0
      obtain ⟨a1, rfl, h1⟩ := one_u8 g1
      obtain ⟨a2, rfl, h2⟩ := one_u8 g2
      exact ⟨(a0, a1, a2), rfl, h0, h1, h2⟩
theorem elem_six {fuel : Nat} {cs : List Value} {y : DataW H × List MemPlace} (h : DataW.trod enc Tryz.prog W 0 (fun _ => true) true fuel 52 cs = some y) (hl : cs.length = 6) :
    ∃ x : R6, cs = (rawA x).toList ∧ SmallX x := by
  obtain ⟨xs, m, _, _, _, hx, hi⟩ := DataW.trod_array Tryz.underlying52 h
  match cs, hl with
  | [c0, c1, c2, c3, c4, c5], _ =>
    match xs, hx with
    | [y0, y1, y2, y3, y4, y5], _ =>
      have g0 := hi 0 (by omega)
      have g1 := hi 1 (by omega)
      have g2 := hi 2 (by omega)
      have g3 := hi 3 (by omega)
      have g4 := hi 4 (by omega)
      have g5 := hi 5 (by omega)
      rw [cellsU8] at g0 g1 g2 g3 g4 g5
      simp at g0 g1 g2 g3 g4 g5
      obtain ⟨a0, rfl, h0⟩ := one_u8 g0
      obtain ⟨a1, rfl, h1⟩ := one_u8 g1
      obtain ⟨a2, rfl, h2⟩ := one_u8 g2
      obtain ⟨a3, rfl, h3⟩ := one_u8 g3
      obtain ⟨a4, rfl, h4⟩ := one_u8 g4
      obtain ⟨a5, rfl, h5⟩ := one_u8 g5
      exact ⟨(a0, a1, a2, a3, a4, a5), rfl, h0, h1, h2, h3, h4, h5⟩
theorem open_raw6 (hval : Value.okWide Tryz.prog W r base 52 v) (hd : DataW.Trod enc Tryz.prog W 0 (fun _ => true) true 52 v d p) : ∃ x, IsRaw6 W v x := by
  obtain ⟨cs, rfl, hsz⟩ := okWide_arr Tryz.underlying52 hval
  obtain ⟨c0, c1, c2, c3, c4, c5, rfl⟩ := array6 (hsz.trans (by kernel_rfl))
  obtain ⟨fuel, hf⟩ := hd
  have hf' : DataW.trod enc Tryz.prog W 0 (fun _ => true) true fuel 52 [c0, c1, c2, c3, c4, c5] = some (d, p) := by simpa [Value.cells] using hf
  obtain ⟨x, e, hs⟩ := elem_six hf' rfl
  exact ⟨x, by rw [show (#[c0, c1, c2, c3, c4, c5] : Array Value) = [c0, c1, c2, c3, c4, c5].toArray from rfl, e], hs⟩
theorem open_raw6x2 (hval : Value.okWide Tryz.prog W r base 70 v) (hd : DataW.Trod enc Tryz.prog W 0 (fun _ => true) true 70 v d p) : ∃ x, IsRaw6x2 W v x := by
  obtain ⟨cs, rfl, hsz⟩ := okWide_arr Tryz.underlying70 hval
  obtain ⟨c0, c1, c2, c3, c4, c5, c6, c7, c8, c9, c10, c11, rfl⟩ := array12 (hsz.trans (by kernel_rfl))
  obtain ⟨fuel, hf⟩ := hd
  obtain ⟨xs, m, _, _, _, hx, hi⟩ := DataW.trod_array Tryz.underlying70 hf
  match xs, hx with
  | [y0, y1], _ =>
    have e : Tryz.prog.cellsOf 52 = 6 := by kernel_rfl
    have g0 := hi 0 (by omega)
    have g1 := hi 1 (by omega)
    rw [e] at g0 g1
    simp [Value.cells] at g0 g1
    obtain ⟨x, e0, h0⟩ := elem_six g0 rfl
    obtain ⟨y, e1, h1⟩ := elem_six g1 rfl
    refine ⟨(x, y), ?_, h0, h1⟩
    rw [show (#[c0, c1, c2, c3, c4, c5, c6, c7, c8, c9, c10, c11] : Array Value) = [c0, c1, c2, c3, c4, c5].toArray ++ [c6, c7, c8, c9, c10, c11].toArray from rfl, e0, e1]
theorem rows_raw {a : Addr} : ∀ n : Nat, (∀ i, i < n → ∃ x : Rw, (W.cell? (a.add (i * 3)) = some (.int .u8 x.1) ∧ W.cell? (a.add (i * 3 + 1)) = some (.int .u8 x.2.1) ∧ W.cell? (a.add (i * 3 + 2)) = some (.int .u8 x.2.2)) ∧ SmallR x) →
    ∃ l : List Rw, l.length = n ∧ (∀ x ∈ l, SmallR x) ∧ ∀ i (h : i < l.length), W.cell? (a.add (i * 3)) = some (.int .u8 l[i].1) ∧ W.cell? (a.add (i * 3 + 1)) = some (.int .u8 l[i].2.1) ∧ W.cell? (a.add (i * 3 + 2)) = some (.int .u8 l[i].2.2)
  | 0, _ => ⟨[], rfl, fun x hx => by simp at hx, fun i h => absurd h (by simp)⟩
  | n + 1, h => by
    obtain ⟨l, hl, hs, hc⟩ := rows_raw n (fun i hi => h i (by omega))
    obtain ⟨x, h1, h2⟩ := h n (by omega)
    refine ⟨l ++ [x], by simp [hl], fun z hz => ?_, fun i hi => ?_⟩
    · rcases List.mem_append.1 hz with hz | hz
      · exact hs z hz
      · simp at hz; subst hz; exact h2
    · by_cases hin : i < l.length
      · rw [List.getElem_append_left hin]; exact hc i hin
      · have : i = n := by simp at hi; omega
        subst this
        rw [List.getElem_append_right (by omega)]
        simp [hl]
        exact h1
theorem cells_raws {fuel : Nat} {c : Value} {y : DataW H × List MemPlace} (hf' : DataW.trod enc Tryz.prog W 0 (fun _ => true) true fuel 65 [c] = some y) : ∃ l, IsRaws W c l := by
  rcases open_slice Tryz.underlying65 hf' with ⟨hcs, _⟩ | ⟨x, len', cap', m, n, D, Pl, hcs, _, hl, hm, hmm, _, hi⟩
  · simp only [List.cons.injEq, and_true] at hcs
    rw [hcs]
    exact ⟨[], none, 0, rfl, Nat.le_refl _, by unfold maxLen; omega, fun x hx => by simp at hx, fun h => absurd rfl h⟩
  · simp only [List.cons.injEq, and_true] at hcs
    rw [hcs]
    simp only [↓reduceIte] at hmm
    have e3 : Tryz.prog.cellsOf 93 = 3 := by kernel_rfl
    have hrow : ∀ i, i < len' → ∃ x' : Rw, (W.cell? (x.add (i * 3)) = some (.int .u8 x'.1) ∧ W.cell? (x.add (i * 3 + 1)) = some (.int .u8 x'.2.1) ∧ W.cell? (x.add (i * 3 + 2)) = some (.int .u8 x'.2.2)) ∧ SmallR x' := by
      intro i hil
      obtain ⟨cs', hc, ht⟩ := hi i (by omega)
      rw [e3] at hc
      obtain ⟨_, hlen, hcell⟩ := World.cells?_some hc
      obtain ⟨q, rfl, hs⟩ := elem_three ht hlen
      have h0 := hcell 0 (by omega)
      have h1 := hcell 1 (by omega)
      have h2 := hcell 2 (by omega)
      rw [Go.Deep.add_add] at h0 h1 h2
      exact ⟨q, ⟨h0, h1, h2⟩, hs⟩
    obtain ⟨l, hll, hs, hc⟩ := rows_raw len' hrow
    refine ⟨l, some x, cap', by rw [hll], by omega, hm, hs, fun hne => ?_⟩
    have h0 : 0 < l.length := List.length_pos_iff.2 hne
    obtain ⟨b, off, spot⟩ := x
    have hc0 := (hc 0 h0).1
    have hspot : spot = none := by simpa [Addr.add] using World.cell?_spot hc0
    subst hspot
    have hadd : ∀ i, (⟨b, off, none⟩ : Addr).add i = ⟨b, off + i, none⟩ := by intro i; unfold Addr.add; split <;> simp_all
    rw [hadd] at hc0
    refine ⟨b, off, rfl, cell_lt hc0, fun i hi => ?_⟩
    have hci := hc i hi
    rw [hadd, hadd, hadd] at hci
    exact hci
theorem open_raws (hval : Value.okWide Tryz.prog W r base 65 v) (hd : DataW.Trod enc Tryz.prog W 0 (fun _ => true) true 65 v d p) : ∃ l, IsRaws W v l := by
  obtain ⟨a, len, cap, rfl⟩ := okWide_slice Tryz.underlying65 hval
  obtain ⟨fuel, hf⟩ := hd
  exact cells_raws (c := .slice a len cap) (by simpa [Value.cells] using hf)
end

end Go.Proofs.YtaafckefeejjpaaGreat
