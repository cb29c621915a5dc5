/-
  What the arguments of the laws of package pool are, said of the world.
-/
import Derived.Test.YtlgangcldlphnaaPZ
import Derived.Test.YtlgangcldlphnaaRows
import Derived.ProofKit
import Derived.OpenShut
import Derived.ShutString
import Derived.ChangeOld
import Derived.Below
import Derived.Lib.SmallJoins
import Derived.Deep.Slices
namespace Go.Proofs.Ytlgangcldlphnaa
open Go.ChangeShapes Go.WideShapes Go.ChangeAt Go.RowKit Go.Deep
open Go.ChangeMaps (open_string shut_string)
set_option linter.unusedVariables false
set_option maxRecDepth 100000

theorem ownNone : ownKnob Try.prog.godebug = none := by kernel_rfl
theorem laidOutA : laidOutB Try.prog = true := by kernel_rfl
def IsBool (_w : World) (v : Value) (b : Bool) : Prop := v = .bool b
theorem rows_any {α : Type} {R : α → Nat → Prop} : ∀ n : Nat, (∀ i, i < n → ∃ x, R x i) → ∃ l : List α, l.length = n ∧ ∀ i (h : i < l.length), R l[i] i
  | 0, _ => ⟨[], rfl, fun i h => absurd h (by simp)⟩
  | n + 1, h => by
    obtain ⟨l, hl, hc⟩ := rows_any n (fun i hi => h i (by omega))
    obtain ⟨x, h1⟩ := h n (by omega)
    refine ⟨l ++ [x], by simp [hl], fun i hi => ?_⟩
    by_cases hin : i < l.length
    · rw [List.getElem_append_left hin]; exact hc i hin
    · have : i = n := by simp at hi; omega
      subst this
      rw [List.getElem_append_right (by omega)]
      simp [hl]
      exact h1
section
variable {H : Type} {enc : TypeId × Value → H} {W : World} {base : Nat} {r : Reach} {v : Value} {d : DataW H} {p : List MemPlace}
theorem okWide_arr {n : Nat} {e t : TypeId} (ht : Try.prog.underlying t = some (.array n e)) (h : Value.okWide Try.prog W r base t v) : ∃ cs, v = .agg cs ∧ cs.size = Try.prog.cellsOf t := by
  simp only [Value.okWide, ht] at h
  obtain ⟨cs, h1, h2, _⟩ := h
  exact ⟨cs, h1, h2⟩
theorem one_u8 {fuel : Nat} {c : Value} {y : DataW H × List MemPlace} (h : DataW.trod enc Try.prog W 0 (fun _ => true) true fuel 5 [c] = some y) : ∃ n : Nat, c = .int .u8 n ∧ n < 256 := by
  obtain ⟨n, e, _, hn⟩ := DataW.trod_int Try.underlying5 h
  simp only [List.cons.injEq, and_true] at e
  have hb := bounds_u8 hn
  exact ⟨n.toNat, by rw [e, Int.toNat_of_nonneg hb.1], by omega⟩
theorem cells_any {α : Type} {en : α → List Value} {P : α → Prop} {S E : TypeId} {k : Nat} (hS : Try.prog.underlying S = some (.slice E)) (hE : Try.prog.cellsOf E = k) (hk : 0 < k) (hen : ∀ x, (en x).length = k)
    (elem : ∀ {fuel : Nat} {cs : List Value} {y : DataW H × List MemPlace}, DataW.trod enc Try.prog W 0 (fun _ => true) true fuel E cs = some y → cs.length = k → ∃ x, cs = en x ∧ P x)
    {fuel : Nat} {c : Value} {y : DataW H × List MemPlace} (hf' : DataW.trod enc Try.prog W 0 (fun _ => true) true fuel S [c] = some y) :
    ∃ l : List α, (∀ x ∈ l, P x) ∧ ∃ a cap, c = .slice a l.length cap ∧ l.length ≤ cap ∧ cap ≤ maxLen ∧ (l ≠ [] → ∃ b off, a = some ⟨b, off, none⟩ ∧ b < W.heap.size ∧ ∀ i (h : i < l.length) (j : Nat) (u : Value), (en l[i])[j]? = some u → W.cell? ⟨b, off + i * k + j, none⟩ = some u) := by
  rcases open_slice hS hf' with ⟨hcs, _⟩ | ⟨x, len', cap', m, n, D, Pl, hcs, _, hl, hm, hmm, _, hi⟩
  · simp only [List.cons.injEq, and_true] at hcs
    rw [hcs]
    exact ⟨[], (fun x hx => by cases hx), none, 0, rfl, Nat.le_refl _, by unfold maxLen; omega, fun h => absurd rfl h⟩
  · simp only [List.cons.injEq, and_true] at hcs
    rw [hcs]
    simp only [↓reduceIte] at hmm
    have hrow : ∀ i, i < len' → ∃ t : α, (∀ (j : Nat) (u : Value), (en t)[j]? = some u → W.cell? (x.add (i * k + j)) = some u) ∧ P t := by
      intro i hil
      obtain ⟨cs', hc, ht⟩ := hi i (by omega)
      rw [hE] at hc
      obtain ⟨_, hlen, hcell⟩ := World.cells?_some hc
      obtain ⟨t, rfl, hp⟩ := elem ht hlen
      refine ⟨t, fun j u hu => ?_, hp⟩
      have hj : j < k := by
        rw [← hen t]
        exact (List.getElem?_eq_some_iff.1 hu).1
      have h0 := hcell j (by omega)
      rw [Go.Deep.add_add] at h0
      rw [h0]; exact hu
    obtain ⟨l, hll, hc⟩ := rows_any (R := fun t i => (∀ (j : Nat) (u : Value), (en t)[j]? = some u → W.cell? (x.add (i * k + j)) = some u) ∧ P t) len' hrow
    refine ⟨l, fun t ht => ?_, some x, cap', by rw [hll], by omega, hm, fun hne => ?_⟩
    · obtain ⟨i, hi', rfl⟩ := List.mem_iff_getElem.1 ht
      exact (hc i hi').2
    · have h0 : 0 < l.length := List.length_pos_iff.2 hne
      obtain ⟨b, off, spot⟩ := x
      have hz : 0 < (en l[0]).length := by rw [hen]; exact hk
      have hc0 := (hc 0 h0).1 0 _ (List.getElem?_eq_getElem hz)
      have hspot : spot = none := by simpa [Addr.add] using World.cell?_spot hc0
      subst hspot
      have hadd : ∀ i, (⟨b, off, none⟩ : Addr).add i = ⟨b, off + i, none⟩ := by intro i; unfold Addr.add; split <;> simp_all
      rw [hadd] at hc0
      refine ⟨b, off, rfl, cell_lt hc0, fun i hi j u hu => ?_⟩
      have hci := (hc i hi).1 j u hu
      rw [hadd, ← Nat.add_assoc] at hci
      exact hci
def enP (x : Pr) : List Value := [.string (Str x.1), .string (Str x.2.1), .int .i64 x.2.2]
def enSm (s : Sm) : List Value := [.int .i64 s.1.1, .int .i64 s.1.2, .int .i64 s.2.1, .int .i64 s.2.2]
def enM (m : Ms) : List Value := [.int .i64 m.kind, .string (Str m.key), .string (Str m.val), .string (Str m.lo), .string (Str m.hi), .string (Str m.src), .string (Str m.dst), .int .i64 m.n]
theorem elem_r11 {fuel : Nat} {cs : List Value} {y : DataW H × List MemPlace} (h : DataW.trod enc Try.prog W 0 (fun _ => true) true fuel 24 cs = some y) (hl : cs.length = 4) : ∃ x : R4, cs = encR x ∧ x.ok := by
  obtain ⟨xs, m, _, _, _, hx, hi⟩ := DataW.trod_array Try.underlying24 h
  match cs, hl with
  | [c0, c1, c2, c3], _ =>
    match xs, hx with
    | [y0, y1, y2, y3], _ =>
      have e : Try.prog.cellsOf 5 = 1 := by kernel_rfl
      have g0 := hi 0 (by omega)
      have g1 := hi 1 (by omega)
      have g2 := hi 2 (by omega)
      have g3 := hi 3 (by omega)
      rw [e] at g0 g1 g2 g3
      simp at g0 g1 g2 g3
      obtain ⟨a0, rfl, h0⟩ := one_u8 g0
      obtain ⟨a1, rfl, h1⟩ := one_u8 g1
      obtain ⟨a2, rfl, h2⟩ := one_u8 g2
      obtain ⟨a3, rfl, h3⟩ := one_u8 g3
      exact ⟨⟨a0, a1, a2, a3⟩, rfl, h0, h1, h2, h3⟩
theorem open_r11s (hval : Value.okWide Try.prog W r base 22 v) (hd : DataW.Trod enc Try.prog W 0 (fun _ => true) true 22 v d p) : ∃ l, IsRaws W v l := by
  obtain ⟨a, len, cap, rfl⟩ := okWide_slice Try.underlying22 hval
  obtain ⟨fuel, hf⟩ := hd
  obtain ⟨l, hP, a', cap', h1, h2, h3, h4⟩ := cells_any (c := .slice a len cap) (en := encR) (P := R4.ok) Try.underlying22 (by kernel_rfl) (by decide : 0 < 4) (fun _ => rfl) (fun h hl => elem_r11 h hl) (by simpa [Value.cells] using hf)
  unfold maxLen at h3
  exact ⟨l, hP, a', cap', h1, by omega, h4⟩
theorem open_i16 (hval : Value.okWide Try.prog W r base 73 v) (hd : DataW.Trod enc Try.prog W 0 (fun _ => true) true 73 v d p) : ∃ n : Int, v = .int .i16 n ∧ -32768 ≤ n ∧ n < 32768 := by
  obtain ⟨n, rfl, _, _, hn⟩ := open_int Try.underlying73 hval hd
  have hb := bounds_i16 hn
  exact ⟨n, rfl, by omega⟩
theorem open_boolV (hval : Value.okWide Try.prog W r base 4 v) (hd : DataW.Trod enc Try.prog W 0 (fun _ => true) true 4 v d p) : ∃ b : Bool, v = .bool b := okWide_bool Try.underlying4 hval
end

end Go.Proofs.Ytlgangcldlphnaa
