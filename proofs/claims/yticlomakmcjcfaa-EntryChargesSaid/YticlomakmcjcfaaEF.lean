/-
  What the arguments of the laws of package entry are, said of the world.
-/
import Derived.Test.YticlomakmcjcfaaEWA
import Derived.Test.YticlomakmcjcfaaRows
import Derived.ProofKit
import Derived.OpenShut
import Derived.ShutString
import Derived.ChangeOld
import Derived.Below
import Derived.Lib.SmallJoins
import Derived.Deep.Slices
namespace Go.Proofs.Yticlomakmcjcfaa
open Go.ChangeShapes Go.WideShapes Go.ChangeAt Go.RowKit Go.Deep
open Go.ChangeMaps (open_string shut_string)
set_option maxRecDepth 1000000
set_option linter.unusedVariables false

theorem ownNone : ownKnob Try.prog.godebug = none := by kernel_rfl
theorem laidOutA : laidOutB Try.prog = true := by kernel_rfl

/-- A text, a byte, a number. -/
def IsStr (_w : World) (v : Value) (l : Bs) : Prop := v = .string (Str l) ∧ l.length ≤ maxLen
def IsU8 (_w : World) (v : Value) (n : Nat) : Prop := v = .int .u8 n ∧ n < 256
def IsU16 (_w : World) (v : Value) (n : Nat) : Prop := v = .int .u16 n ∧ n < 65536
def IsI32 (_w : World) (v : Value) (n : Int) : Prop := v = .int .i32 n ∧ -2147483648 ≤ n ∧ n ≤ 2147483647
def IsInt (_w : World) (v : Value) (n : Int) : Prop := v = .int .i64 n
/-- An entry. -/
def IsEnt (_w : World) (v : Value) (e : Ent) : Prop := v = .agg #[.int .i64 e.kind, .int .i64 e.size, .int .i64 e.links, .int .i64 e.id, .int .i64 e.owner, .string (Str e.text)] ∧ e.text.length ≤ maxLen
/-- A raw entry. -/
structure RawE where
  k : Nat
  o : Nat
  a : Nat
  b : Nat
  t : Bs
def IsRawE (_w : World) (v : Value) (x : RawE) : Prop := v = .agg #[.int .u8 x.k, .int .u8 x.o, .int .u16 x.a, .int .u16 x.b, .string (Str x.t)] ∧ x.k < 256 ∧ x.o < 256 ∧ x.a < 65536 ∧ x.b < 65536 ∧ x.t.length ≤ maxLen

section
variable {H : Type} {enc : TypeId × Value → H} {W : World} {base : Nat} {r : Reach} {v : Value} {d : DataW H} {p : List MemPlace}

theorem cell_lt {w : World} {b o : Nat} {v : Value} (h : w.cell? ⟨b, o, none⟩ = some v) : b < w.heap.size := by
  unfold World.cell? at h
  simp only at h
  cases hb : w.heap[b]? with
  | none => rw [hb] at h; cases h
  | some x => rw [Array.getElem?_eq_some_iff] at hb; exact hb.1

theorem one_str {fuel : Nat} {c : Value} {y : DataW H × List MemPlace} (h : DataW.trod enc Try.prog W 0 (fun _ => true) true fuel 9 [c] = some y) : ∃ l : Bs, c = .string (Str l) ∧ l.length ≤ maxLen := by
  obtain ⟨s, e, _, hs⟩ := DataW.trod_string Try.underlying9 h
  simp only [List.cons.injEq, and_true] at e
  subst e
  exact ⟨s.toList, by rw [Lib.toList_data]; rfl, by rw [Lib.toList_data, ← Lib.size_eq]; exact hs⟩

theorem one_int {fuel : Nat} {c : Value} {y : DataW H × List MemPlace} (h : DataW.trod enc Try.prog W 0 (fun _ => true) true fuel 3 [c] = some y) : ∃ n : Int, c = .int .i64 n := by
  obtain ⟨n, e, _, _⟩ := DataW.trod_int Try.underlying3 h
  simp only [List.cons.injEq, and_true] at e
  exact ⟨n, e⟩

theorem open_str (hval : Value.okWide Try.prog W r base 9 v) (hd : DataW.Trod enc Try.prog W 0 (fun _ => true) true 9 v d p) : ∃ l : Bs, IsStr W v l := by
  obtain ⟨s, rfl, _, _, hs⟩ := open_string Try.underlying9 hval hd
  exact ⟨s.toList, by rw [Lib.toList_data]; rfl, by rw [Lib.toList_data, ← Lib.size_eq]; exact hs⟩

theorem open_u8 (hval : Value.okWide Try.prog W r base 5 v) (hd : DataW.Trod enc Try.prog W 0 (fun _ => true) true 5 v d p) : ∃ n : Nat, IsU8 W v n := by
  obtain ⟨n, rfl, _, _, hn⟩ := open_int Try.underlying5 hval hd
  have hb := bounds_u8 hn
  exact ⟨n.toNat, by rw [Int.toNat_of_nonneg hb.1], by omega⟩

theorem open_u16 (hval : Value.okWide Try.prog W r base 42 v) (hd : DataW.Trod enc Try.prog W 0 (fun _ => true) true 42 v d p) : ∃ n : Nat, IsU16 W v n := by
  obtain ⟨n, rfl, _, _, hn⟩ := open_int Try.underlying42 hval hd
  have hb := bounds_u16 hn
  exact ⟨n.toNat, by rw [Int.toNat_of_nonneg hb.1], by omega⟩

theorem open_i32 (hval : Value.okWide Try.prog W r base 21 v) (hd : DataW.Trod enc Try.prog W 0 (fun _ => true) true 21 v d p) : ∃ n : Int, IsI32 W v n := by
  obtain ⟨n, rfl, _, _, hn⟩ := open_int Try.underlying21 hval hd
  have hb := bounds_i32 hn
  exact ⟨n, rfl, hb.1, hb.2⟩

theorem open_i64 (hval : Value.okWide Try.prog W r base 3 v) (hd : DataW.Trod enc Try.prog W 0 (fun _ => true) true 3 v d p) : ∃ n : Int, IsInt W v n := by
  obtain ⟨n, rfl, _, _, hn⟩ := open_int Try.underlying3 hval hd
  exact ⟨n, rfl⟩

theorem list_six {l : List Value} (h : l.length = 6) : ∃ c0 c1 c2 c3 c4 c5, l = [c0, c1, c2, c3, c4, c5] := by
  match l, h with
  | [c0, c1, c2, c3, c4, c5], _ => exact ⟨c0, c1, c2, c3, c4, c5, rfl⟩
theorem list_five {l : List Value} (h : l.length = 5) : ∃ c0 c1 c2 c3 c4, l = [c0, c1, c2, c3, c4] := by
  match l, h with
  | [c0, c1, c2, c3, c4], _ => exact ⟨c0, c1, c2, c3, c4, rfl⟩

theorem cellsInt : Try.prog.cellsOf 3 = 1 := by kernel_rfl
theorem cellsStr : Try.prog.cellsOf 9 = 1 := by kernel_rfl

theorem open_ent (hval : Value.okWide Try.prog W r base 78 v) (hd : DataW.Trod enc Try.prog W 0 (fun _ => true) true 78 v d p) : ∃ x, IsEnt W v x := by
  obtain ⟨cs, rfl, hsz⟩ := okWide_struct Try.underlying78 hval
  obtain ⟨l⟩ := cs
  obtain ⟨c0, c1, c2, c3, c4, c5, rfl⟩ := list_six (l := l) (hsz.trans (by kernel_rfl))
  obtain ⟨fuel, hf⟩ := hd
  obtain ⟨xs, n, _, _, _, hxs, hg⟩ := DataW.trod_struct Try.underlying78 hf
  match xs, hxs with
  | [y0, y1, y2, y3, y4, y5], _ =>
    have g0 := hg 0 _ rfl
    have g1 := hg 1 _ rfl
    have g2 := hg 2 _ rfl
    have g3 := hg 3 _ rfl
    have g4 := hg 4 _ rfl
    have g5 := hg 5 _ rfl
    simp [Value.cells, cellsInt, cellsStr] at g0 g1 g2 g3 g4 g5
    obtain ⟨a0, rfl⟩ := one_int g0
    obtain ⟨a1, rfl⟩ := one_int g1
    obtain ⟨a2, rfl⟩ := one_int g2
    obtain ⟨a3, rfl⟩ := one_int g3
    obtain ⟨a4, rfl⟩ := one_int g4
    obtain ⟨t, rfl, ht⟩ := one_str g5
    exact ⟨⟨a0, a1, a2, a3, a4, t⟩, rfl, ht⟩

theorem cellsU8 : Try.prog.cellsOf 5 = 1 := by kernel_rfl
theorem cellsU16 : Try.prog.cellsOf 42 = 1 := by kernel_rfl

theorem elem_pair {fuel : Nat} {cs : List Value} {y : DataW H × List MemPlace} (h : DataW.trod enc Try.prog W 0 (fun _ => true) true fuel 81 cs = some y) (hl : cs.length = 3) :
    ∃ (a b : Bs) (n : Int), cs = [.string (Str a), .string (Str b), .int .i64 n] ∧ a.length ≤ maxLen ∧ b.length ≤ maxLen := by
  obtain ⟨xs, n, _, _, _, hxs, hf⟩ := DataW.trod_struct Try.underlying81 h
  match cs, hl with
  | [c0, c1, c2], _ =>
    match xs, hxs with
    | [y0, y1, y2], _ =>
      have g0 := hf 0 _ rfl
      have g1 := hf 1 _ rfl
      have g2 := hf 2 _ rfl
      simp [cellsInt, cellsStr] at g0 g1 g2
      obtain ⟨a, rfl, ha⟩ := one_str g0
      obtain ⟨b, rfl, hb⟩ := one_str g1
      obtain ⟨n, rfl⟩ := one_int g2
      exact ⟨a, b, n, rfl, ha, hb⟩

theorem rows_pair {a : Addr} : ∀ n : Nat, (∀ i, i < n → ∃ (x y : Bs) (m : Int), (W.cell? (a.add (i * 3)) = some (.string (Str x)) ∧ W.cell? (a.add (i * 3 + 1)) = some (.string (Str y)) ∧ W.cell? (a.add (i * 3 + 2)) = some (.int .i64 m)) ∧ x.length ≤ maxLen ∧ y.length ≤ maxLen) →
    ∃ l : List Pr, l.length = n ∧ (∀ x ∈ l, x.1.length ≤ maxLen ∧ x.2.1.length ≤ maxLen) ∧ ∀ i (h : i < l.length), W.cell? (a.add (i * 3)) = some (.string (Str l[i].1)) ∧ W.cell? (a.add (i * 3 + 1)) = some (.string (Str l[i].2.1)) ∧ W.cell? (a.add (i * 3 + 2)) = some (.int .i64 l[i].2.2)
  | 0, _ => ⟨[], rfl, fun x hx => by simp at hx, fun i h => absurd h (by simp)⟩
  | n + 1, h => by
    obtain ⟨l, hl, hs, hc⟩ := rows_pair n (fun i hi => h i (by omega))
    obtain ⟨x, y, m, h1, h2⟩ := h n (by omega)
    refine ⟨l ++ [(x, y, m)], by simp [hl], fun z hz => ?_, fun i hi => ?_⟩
    · rcases List.mem_append.1 hz with hz | hz
      · exact hs z hz
      · simp at hz; subst hz; exact h2
    · by_cases hin : i < l.length
      · rw [List.getElem_append_left hin]; exact hc i hin
      · have : i = n := by simp at hi; omega
        subst this
        rw [List.getElem_append_right (by omega)]
        simp [hl]
        exact h1

theorem open_pairs (hval : Value.okWide Try.prog W r base 79 v) (hd : DataW.Trod enc Try.prog W 0 (fun _ => true) true 79 v d p) : ∃ l, IsPairs W v l := by
  obtain ⟨a, len, cap, rfl⟩ := okWide_slice Try.underlying79 hval
  obtain ⟨fuel, hf⟩ := hd
  have hf' : DataW.trod enc Try.prog W 0 (fun _ => true) true fuel 79 [.slice a len cap] = some (d, p) := by simpa [Value.cells] using hf
  rcases open_slice Try.underlying79 hf' with ⟨hcs, _⟩ | ⟨x, len', cap', m, n, D, Pl, hcs, _, hl, hm, hmm, _, hi⟩
  · simp only [List.cons.injEq, and_true] at hcs
    rw [hcs]
    exact ⟨[], none, 0, rfl, Nat.le_refl _, by unfold maxLen; omega, fun x hx => by simp at hx, fun h => absurd rfl h⟩
  · simp only [List.cons.injEq, and_true] at hcs
    rw [hcs]
    simp only [↓reduceIte] at hmm
    have e3 : Try.prog.cellsOf 81 = 3 := by kernel_rfl
    have hrow : ∀ i, i < len' → ∃ (s t : Bs) (q : Int), (W.cell? (x.add (i * 3)) = some (.string (Str s)) ∧ W.cell? (x.add (i * 3 + 1)) = some (.string (Str t)) ∧ W.cell? (x.add (i * 3 + 2)) = some (.int .i64 q)) ∧ s.length ≤ maxLen ∧ t.length ≤ maxLen := by
      intro i hil
      obtain ⟨cs', hc, ht⟩ := hi i (by omega)
      rw [e3] at hc
      obtain ⟨_, hlen, hcell⟩ := World.cells?_some hc
      obtain ⟨s, t, q, rfl, hs, ht'⟩ := elem_pair ht hlen
      have h0 := hcell 0 (by omega)
      have h1 := hcell 1 (by omega)
      have h2 := hcell 2 (by omega)
      rw [Go.Deep.add_add] at h0 h1 h2
      exact ⟨s, t, q, ⟨h0, h1, h2⟩, hs, ht'⟩
    obtain ⟨l, hll, hs, hc⟩ := rows_pair len' hrow
    refine ⟨l, some x, cap', by rw [hll], by omega, hm, hs, fun hne => ?_⟩
    have h0 : 0 < l.length := List.length_pos_iff.2 hne
    obtain ⟨b, off, spot⟩ := x
    have hc0 := (hc 0 h0).1
    have hspot : spot = none := by simpa [Addr.add] using World.cell?_spot hc0
    subst hspot
    have hadd : ∀ i, (⟨b, off, none⟩ : Addr).add i = ⟨b, off + i, none⟩ := by intro i; unfold Addr.add; split <;> simp_all
    rw [hadd] at hc0
    refine ⟨b, off, rfl, cell_lt hc0, fun i hi => ?_⟩
    have hci := hc i hi
    rw [hadd, hadd, hadd] at hci
    exact hci
end
end Go.Proofs.Yticlomakmcjcfaa
