/-
  What the arguments of the laws of package table are, said of the world.
-/
import Derived.Test.YtbbiobhffelaaaaTWE
import Derived.Test.YtbbiobhffelaaaaRows
import Derived.ProofKit
import Derived.OpenShut
import Derived.ShutString
import Derived.ChangeOld
import Derived.Below
import Derived.Lib.SmallJoins
import Derived.Deep.Slices
namespace Go.Proofs.Ytbbiobhffelaaaa
open Go.ChangeShapes Go.WideShapes Go.ChangeAt Go.RowKit Go.Deep
open Go.ChangeMaps (open_string shut_string)
set_option linter.unusedVariables false

theorem ownNone : ownKnob Try.prog.godebug = none := by kernel_rfl
theorem laidOutA : laidOutB Try.prog = true := by kernel_rfl

/-- A text, a byte, few bytes, few lists of raw pairs. -/
def IsStr (_w : World) (v : Value) (l : Bs) : Prop := v = .string (Str l) ∧ l.length ≤ maxLen
def IsU8 (_w : World) (v : Value) (n : Nat) : Prop := v = .int .u8 n ∧ n < 256
def IsU8x2 (_w : World) (v : Value) (x : Nat × Nat) : Prop := v = .agg #[.int .u8 x.1, .int .u8 x.2] ∧ x.1 < 256 ∧ x.2 < 256
def IsU8x3 (_w : World) (v : Value) (x : Rw) : Prop := v = .agg #[.int .u8 x.1, .int .u8 x.2.1, .int .u8 x.2.2] ∧ SmallR x
def IsU8x4 (_w : World) (v : Value) (x : Nat × Nat × Nat × Nat) : Prop := v = .agg #[.int .u8 x.1, .int .u8 x.2.1, .int .u8 x.2.2.1, .int .u8 x.2.2.2] ∧ x.1 < 256 ∧ x.2.1 < 256 ∧ x.2.2.1 < 256 ∧ x.2.2.2 < 256
def IsRaw2 (w : World) (v : Value) (x : (Value × List Rw) × (Value × List Rw)) : Prop := v = .agg #[x.1.1, x.2.1] ∧ IsRaws w x.1.1 x.1.2 ∧ IsRaws w x.2.1 x.2.2
def IsRaw3 (w : World) (v : Value) (x : (Value × List Rw) × (Value × List Rw) × (Value × List Rw)) : Prop := v = .agg #[x.1.1, x.2.1.1, x.2.2.1] ∧ IsRaws w x.1.1 x.1.2 ∧ IsRaws w x.2.1.1 x.2.1.2 ∧ IsRaws w x.2.2.1 x.2.2.2

section
variable {H : Type} {enc : TypeId × Value → H} {W : World} {base : Nat} {r : Reach} {v : Value} {d : DataW H} {p : List MemPlace}

theorem one_str {fuel : Nat} {c : Value} {y : DataW H × List MemPlace} (h : DataW.trod enc Try.prog W 0 (fun _ => true) true fuel 9 [c] = some y) : ∃ l : Bs, c = .string (Str l) ∧ l.length ≤ maxLen := by
  obtain ⟨s, e, _, hs⟩ := DataW.trod_string Try.underlying9 h
  simp only [List.cons.injEq, and_true] at e
  subst e
  exact ⟨s.toList, by rw [Lib.toList_data]; rfl, by rw [Lib.toList_data, ← Lib.size_eq]; exact hs⟩

theorem one_int {fuel : Nat} {c : Value} {y : DataW H × List MemPlace} (h : DataW.trod enc Try.prog W 0 (fun _ => true) true fuel 3 [c] = some y) : ∃ n : Int, c = .int .i64 n := by
  obtain ⟨n, e, _, _⟩ := DataW.trod_int Try.underlying3 h
  simp only [List.cons.injEq, and_true] at e
  exact ⟨n, e⟩

theorem open_str (hval : Value.okWide Try.prog W r base 9 v) (hd : DataW.Trod enc Try.prog W 0 (fun _ => true) true 9 v d p) : ∃ l : Bs, IsStr W v l := by
  obtain ⟨s, rfl, _, _, hs⟩ := open_string Try.underlying9 hval hd
  exact ⟨s.toList, by rw [Lib.toList_data]; rfl, by rw [Lib.toList_data, ← Lib.size_eq]; exact hs⟩

theorem open_u8 (hval : Value.okWide Try.prog W r base 5 v) (hd : DataW.Trod enc Try.prog W 0 (fun _ => true) true 5 v d p) : ∃ n : Nat, IsU8 W v n := by
  obtain ⟨n, rfl, _, _, hn⟩ := open_int Try.underlying5 hval hd
  have hb := bounds_u8 hn
  exact ⟨n.toNat, by rw [Int.toNat_of_nonneg hb.1], by omega⟩

theorem cellsU8 : Try.prog.cellsOf 5 = 1 := by kernel_rfl
theorem cellsInt : Try.prog.cellsOf 3 = 1 := by kernel_rfl
theorem cellsStr : Try.prog.cellsOf 9 = 1 := by kernel_rfl
theorem okWide_arr {n : Nat} {e t : TypeId} (ht : Try.prog.underlying t = some (.array n e)) (h : Value.okWide Try.prog W r base t v) : ∃ cs, v = .agg cs ∧ cs.size = Try.prog.cellsOf t := by
  simp only [Value.okWide, ht] at h
  obtain ⟨cs, h1, h2, _⟩ := h
  exact ⟨cs, h1, h2⟩
theorem one_u8 {fuel : Nat} {c : Value} {y : DataW H × List MemPlace} (h : DataW.trod enc Try.prog W 0 (fun _ => true) true fuel 5 [c] = some y) : ∃ n : Nat, c = .int .u8 n ∧ n < 256 := by
  obtain ⟨n, e, _, hn⟩ := DataW.trod_int Try.underlying5 h
  simp only [List.cons.injEq, and_true] at e
  have hb := bounds_u8 hn
  exact ⟨n.toNat, by rw [e, Int.toNat_of_nonneg hb.1], by omega⟩
theorem open_u8x2 (hval : Value.okWide Try.prog W r base 34 v) (hd : DataW.Trod enc Try.prog W 0 (fun _ => true) true 34 v d p) : ∃ x, IsU8x2 W v x := by
  obtain ⟨cs, rfl, hsz⟩ := okWide_arr Try.underlying34 hval
  obtain ⟨c0, c1, rfl⟩ := Joins.array2 (hsz.trans (by kernel_rfl))
  obtain ⟨fuel, hf⟩ := hd
  obtain ⟨xs, m, _, _, _, hx, hi⟩ := DataW.trod_array Try.underlying34 hf
  match xs, hx with
  | [y0, y1], _ =>
    have e : Try.prog.cellsOf 5 = 1 := cellsU8
    have g0 := hi 0 (by omega)
    have g1 := hi 1 (by omega)
    rw [e] at g0 g1
    simp [Value.cells] at g0 g1
    obtain ⟨a0, rfl, h0⟩ := one_u8 g0
    obtain ⟨a1, rfl, h1⟩ := one_u8 g1
    exact ⟨(a0, a1), rfl, h0, h1⟩
theorem open_u8x3 (hval : Value.okWide Try.prog W r base 44 v) (hd : DataW.Trod enc Try.prog W 0 (fun _ => true) true 44 v d p) : ∃ x, IsU8x3 W v x := by
  obtain ⟨cs, rfl, hsz⟩ := okWide_arr Try.underlying44 hval
  obtain ⟨c0, c1, c2, rfl⟩ := Joins.array3 (hsz.trans (by kernel_rfl))
  obtain ⟨fuel, hf⟩ := hd
  obtain ⟨xs, m, _, _, _, hx, hi⟩ := DataW.trod_array Try.underlying44 hf
  match xs, hx with
  | [y0, y1, y2], _ =>
    have e : Try.prog.cellsOf 5 = 1 := cellsU8
    have g0 := hi 0 (by omega)
    have g1 := hi 1 (by omega)
    have g2 := hi 2 (by omega)
    rw [e] at g0 g1 g2
    simp [Value.cells] at g0 g1 g2
    obtain ⟨a0, rfl, h0⟩ := one_u8 g0
    obtain ⟨a1, rfl, h1⟩ := one_u8 g1
    obtain ⟨a2, rfl, h2⟩ := one_u8 g2
    exact ⟨(a0, a1, a2), rfl, h0, h1, h2⟩
theorem open_u8x4 (hval : Value.okWide Try.prog W r base 24 v) (hd : DataW.Trod enc Try.prog W 0 (fun _ => true) true 24 v d p) : ∃ x, IsU8x4 W v x := by
  obtain ⟨cs, rfl, hsz⟩ := okWide_arr Try.underlying24 hval
  obtain ⟨c0, c1, c2, c3, rfl⟩ := Joins.array4 (hsz.trans (by kernel_rfl))
  obtain ⟨fuel, hf⟩ := hd
  obtain ⟨xs, m, _, _, _, hx, hi⟩ := DataW.trod_array Try.underlying24 hf
  match xs, hx with
  | [y0, y1, y2, y3], _ =>
    have e : Try.prog.cellsOf 5 = 1 := cellsU8
    have g0 := hi 0 (by omega)
    have g1 := hi 1 (by omega)
    have g2 := hi 2 (by omega)
    have g3 := hi 3 (by omega)
    rw [e] at g0 g1 g2 g3
    simp [Value.cells] at g0 g1 g2 g3
    obtain ⟨a0, rfl, h0⟩ := one_u8 g0
    obtain ⟨a1, rfl, h1⟩ := one_u8 g1
    obtain ⟨a2, rfl, h2⟩ := one_u8 g2
    obtain ⟨a3, rfl, h3⟩ := one_u8 g3
    exact ⟨(a0, a1, a2, a3), rfl, h0, h1, h2, h3⟩
theorem open_raw (hval : Value.okWide Try.prog W r base 47 v) (hd : DataW.Trod enc Try.prog W 0 (fun _ => true) true 47 v d p) : ∃ x, IsU8x3 W v x := by
  obtain ⟨cs, rfl, hsz⟩ := okWide_arr Try.underlying47 hval
  obtain ⟨c0, c1, c2, rfl⟩ := Joins.array3 (hsz.trans (by kernel_rfl))
  obtain ⟨fuel, hf⟩ := hd
  obtain ⟨xs, m, _, _, _, hx, hi⟩ := DataW.trod_array Try.underlying47 hf
  match xs, hx with
  | [y0, y1, y2], _ =>
    have e : Try.prog.cellsOf 5 = 1 := cellsU8
    have g0 := hi 0 (by omega)
    have g1 := hi 1 (by omega)
    have g2 := hi 2 (by omega)
    rw [e] at g0 g1 g2
    simp [Value.cells] at g0 g1 g2
    obtain ⟨a0, rfl, h0⟩ := one_u8 g0
    obtain ⟨a1, rfl, h1⟩ := one_u8 g1
    obtain ⟨a2, rfl, h2⟩ := one_u8 g2
    exact ⟨(a0, a1, a2), rfl, h0, h1, h2⟩
theorem elem_raw {fuel : Nat} {cs : List Value} {y : DataW H × List MemPlace} (h : DataW.trod enc Try.prog W 0 (fun _ => true) true fuel 47 cs = some y) (hl : cs.length = 3) :
    ∃ x : Rw, cs = [.int .u8 x.1, .int .u8 x.2.1, .int .u8 x.2.2] ∧ SmallR x := by
  obtain ⟨xs, m, _, _, _, hx, hi⟩ := DataW.trod_array Try.underlying47 h
  match cs, hl with
  | [c0, c1, c2], _ =>
    match xs, hx with
    | [y0, y1, y2], _ =>
      have g0 := hi 0 (by omega)
      have g1 := hi 1 (by omega)
      have g2 := hi 2 (by omega)
      rw [cellsU8] at g0 g1 g2
      simp at g0 g1 g2
      obtain ⟨a0, rfl, h0⟩ := one_u8 g0
      obtain ⟨a1, rfl, h1⟩ := one_u8 g1
      obtain ⟨a2, rfl, h2⟩ := one_u8 g2
      exact ⟨(a0, a1, a2), rfl, h0, h1, h2⟩
theorem rows_raw {a : Addr} : ∀ n : Nat, (∀ i, i < n → ∃ x : Rw, (W.cell? (a.add (i * 3)) = some (.int .u8 x.1) ∧ W.cell? (a.add (i * 3 + 1)) = some (.int .u8 x.2.1) ∧ W.cell? (a.add (i * 3 + 2)) = some (.int .u8 x.2.2)) ∧ SmallR x) →
    ∃ l : List Rw, l.length = n ∧ (∀ x ∈ l, SmallR x) ∧ ∀ i (h : i < l.length), W.cell? (a.add (i * 3)) = some (.int .u8 l[i].1) ∧ W.cell? (a.add (i * 3 + 1)) = some (.int .u8 l[i].2.1) ∧ W.cell? (a.add (i * 3 + 2)) = some (.int .u8 l[i].2.2)
  | 0, _ => ⟨[], rfl, fun x hx => by simp at hx, fun i h => absurd h (by simp)⟩
  | n + 1, h => by
    obtain ⟨l, hl, hs, hc⟩ := rows_raw n (fun i hi => h i (by omega))
    obtain ⟨x, h1, h2⟩ := h n (by omega)
    refine ⟨l ++ [x], by simp [hl], fun z hz => ?_, fun i hi => ?_⟩
    · rcases List.mem_append.1 hz with hz | hz
      · exact hs z hz
      · simp at hz; subst hz; exact h2
    · by_cases hin : i < l.length
      · rw [List.getElem_append_left hin]; exact hc i hin
      · have : i = n := by simp at hi; omega
        subst this
        rw [List.getElem_append_right (by omega)]
        simp [hl]
        exact h1
theorem cells_raws {fuel : Nat} {c : Value} {y : DataW H × List MemPlace} (hf' : DataW.trod enc Try.prog W 0 (fun _ => true) true fuel 22 [c] = some y) : ∃ l, IsRaws W c l := by
  rcases open_slice Try.underlying22 hf' with ⟨hcs, _⟩ | ⟨x, len', cap', m, n, D, Pl, hcs, _, hl, hm, hmm, _, hi⟩
  · simp only [List.cons.injEq, and_true] at hcs
    rw [hcs]
    exact ⟨[], none, 0, rfl, Nat.le_refl _, by unfold maxLen; omega, fun x hx => by simp at hx, fun h => absurd rfl h⟩
  · simp only [List.cons.injEq, and_true] at hcs
    rw [hcs]
    simp only [↓reduceIte] at hmm
    have e3 : Try.prog.cellsOf 47 = 3 := by kernel_rfl
    have hrow : ∀ i, i < len' → ∃ x' : Rw, (W.cell? (x.add (i * 3)) = some (.int .u8 x'.1) ∧ W.cell? (x.add (i * 3 + 1)) = some (.int .u8 x'.2.1) ∧ W.cell? (x.add (i * 3 + 2)) = some (.int .u8 x'.2.2)) ∧ SmallR x' := by
      intro i hil
      obtain ⟨cs', hc, ht⟩ := hi i (by omega)
      rw [e3] at hc
      obtain ⟨_, hlen, hcell⟩ := World.cells?_some hc
      obtain ⟨q, rfl, hs⟩ := elem_raw ht hlen
      have h0 := hcell 0 (by omega)
      have h1 := hcell 1 (by omega)
      have h2 := hcell 2 (by omega)
      rw [Go.Deep.add_add] at h0 h1 h2
      exact ⟨q, ⟨h0, h1, h2⟩, hs⟩
    obtain ⟨l, hll, hs, hc⟩ := rows_raw len' hrow
    refine ⟨l, some x, cap', by rw [hll], by omega, hm, hs, fun hne => ?_⟩
    have h0 : 0 < l.length := List.length_pos_iff.2 hne
    obtain ⟨b, off, spot⟩ := x
    have hc0 := (hc 0 h0).1
    have hspot : spot = none := by simpa [Addr.add] using World.cell?_spot hc0
    subst hspot
    have hadd : ∀ i, (⟨b, off, none⟩ : Addr).add i = ⟨b, off + i, none⟩ := by intro i; unfold Addr.add; split <;> simp_all
    rw [hadd] at hc0
    refine ⟨b, off, rfl, cell_lt hc0, fun i hi => ?_⟩
    have hci := hc i hi
    rw [hadd, hadd, hadd] at hci
    exact hci
theorem open_raws (hval : Value.okWide Try.prog W r base 22 v) (hd : DataW.Trod enc Try.prog W 0 (fun _ => true) true 22 v d p) : ∃ l, IsRaws W v l := by
  obtain ⟨a, len, cap, rfl⟩ := okWide_slice Try.underlying22 hval
  obtain ⟨fuel, hf⟩ := hd
  exact cells_raws (c := .slice a len cap) (by simpa [Value.cells] using hf)
theorem open_raw2 (hval : Value.okWide Try.prog W r base 23 v) (hd : DataW.Trod enc Try.prog W 0 (fun _ => true) true 23 v d p) : ∃ x, IsRaw2 W v x := by
  obtain ⟨cs, rfl, hsz⟩ := okWide_arr Try.underlying23 hval
  obtain ⟨c0, c1, rfl⟩ := Joins.array2 (hsz.trans (by kernel_rfl))
  obtain ⟨fuel, hf⟩ := hd
  obtain ⟨xs, m, _, _, _, hx, hi⟩ := DataW.trod_array Try.underlying23 hf
  match xs, hx with
  | [y0, y1], _ =>
    have e : Try.prog.cellsOf 22 = 1 := by kernel_rfl
    have g0 := hi 0 (by omega)
    have g1 := hi 1 (by omega)
    rw [e] at g0 g1
    simp [Value.cells] at g0 g1
    obtain ⟨l0, h0⟩ := cells_raws g0
    obtain ⟨l1, h1⟩ := cells_raws g1
    exact ⟨((c0, l0), (c1, l1)), rfl, h0, h1⟩
theorem open_raw3 (hval : Value.okWide Try.prog W r base 53 v) (hd : DataW.Trod enc Try.prog W 0 (fun _ => true) true 53 v d p) : ∃ x, IsRaw3 W v x := by
  obtain ⟨cs, rfl, hsz⟩ := okWide_arr Try.underlying53 hval
  obtain ⟨c0, c1, c2, rfl⟩ := Joins.array3 (hsz.trans (by kernel_rfl))
  obtain ⟨fuel, hf⟩ := hd
  obtain ⟨xs, m, _, _, _, hx, hi⟩ := DataW.trod_array Try.underlying53 hf
  match xs, hx with
  | [y0, y1, y2], _ =>
    have e : Try.prog.cellsOf 22 = 1 := by kernel_rfl
    have g0 := hi 0 (by omega)
    have g1 := hi 1 (by omega)
    have g2 := hi 2 (by omega)
    rw [e] at g0 g1 g2
    simp [Value.cells] at g0 g1 g2
    obtain ⟨l0, h0⟩ := cells_raws g0
    obtain ⟨l1, h1⟩ := cells_raws g1
    obtain ⟨l2, h2⟩ := cells_raws g2
    exact ⟨((c0, l0), (c1, l1), (c2, l2)), rfl, h0, h1, h2⟩
theorem elem_pair {fuel : Nat} {cs : List Value} {y : DataW H × List MemPlace} (h : DataW.trod enc Try.prog W 0 (fun _ => true) true fuel 30 cs = some y) (hl : cs.length = 3) :
    ∃ (a b : Bs) (n : Int), cs = [.string (Str a), .string (Str b), .int .i64 n] ∧ a.length ≤ maxLen ∧ b.length ≤ maxLen := by
  obtain ⟨xs, n, _, _, _, hxs, hf⟩ := DataW.trod_struct Try.underlying30 h
  match cs, hl with
  | [c0, c1, c2], _ =>
    match xs, hxs with
    | [y0, y1, y2], _ =>
      have g0 := hf 0 _ rfl
      have g1 := hf 1 _ rfl
      have g2 := hf 2 _ rfl
      simp [cellsInt, cellsStr] at g0 g1 g2
      obtain ⟨a, rfl, ha⟩ := one_str g0
      obtain ⟨b, rfl, hb⟩ := one_str g1
      obtain ⟨n, rfl⟩ := one_int g2
      exact ⟨a, b, n, rfl, ha, hb⟩

theorem rows_pair {a : Addr} : ∀ n : Nat, (∀ i, i < n → ∃ (x y : Bs) (m : Int), (W.cell? (a.add (i * 3)) = some (.string (Str x)) ∧ W.cell? (a.add (i * 3 + 1)) = some (.string (Str y)) ∧ W.cell? (a.add (i * 3 + 2)) = some (.int .i64 m)) ∧ x.length ≤ maxLen ∧ y.length ≤ maxLen) →
    ∃ l : List Pr, l.length = n ∧ (∀ x ∈ l, x.1.length ≤ maxLen ∧ x.2.1.length ≤ maxLen) ∧ ∀ i (h : i < l.length), W.cell? (a.add (i * 3)) = some (.string (Str l[i].1)) ∧ W.cell? (a.add (i * 3 + 1)) = some (.string (Str l[i].2.1)) ∧ W.cell? (a.add (i * 3 + 2)) = some (.int .i64 l[i].2.2)
  | 0, _ => ⟨[], rfl, fun x hx => by simp at hx, fun i h => absurd h (by simp)⟩
  | n + 1, h => by
    obtain ⟨l, hl, hs, hc⟩ := rows_pair n (fun i hi => h i (by omega))
    obtain ⟨x, y, m, h1, h2⟩ := h n (by omega)
    refine ⟨l ++ [(x, y, m)], by simp [hl], fun z hz => ?_, fun i hi => ?_⟩
    · rcases List.mem_append.1 hz with hz | hz
      · exact hs z hz
      · simp at hz; subst hz; exact h2
    · by_cases hin : i < l.length
      · rw [List.getElem_append_left hin]; exact hc i hin
      · have : i = n := by simp at hi; omega
        subst this
        rw [List.getElem_append_right (by omega)]
        simp [hl]
        exact h1

theorem open_pairs (hval : Value.okWide Try.prog W r base 26 v) (hd : DataW.Trod enc Try.prog W 0 (fun _ => true) true 26 v d p) : ∃ l, IsPairs W v l := by
  obtain ⟨a, len, cap, rfl⟩ := okWide_slice Try.underlying26 hval
  obtain ⟨fuel, hf⟩ := hd
  have hf' : DataW.trod enc Try.prog W 0 (fun _ => true) true fuel 26 [.slice a len cap] = some (d, p) := by simpa [Value.cells] using hf
  rcases open_slice Try.underlying26 hf' with ⟨hcs, _⟩ | ⟨x, len', cap', m, n, D, Pl, hcs, _, hl, hm, hmm, _, hi⟩
  · simp only [List.cons.injEq, and_true] at hcs
    rw [hcs]
    exact ⟨[], none, 0, rfl, Nat.le_refl _, by unfold maxLen; omega, fun x hx => by simp at hx, fun h => absurd rfl h⟩
  · simp only [List.cons.injEq, and_true] at hcs
    rw [hcs]
    simp only [↓reduceIte] at hmm
    have e3 : Try.prog.cellsOf 30 = 3 := by kernel_rfl
    have hrow : ∀ i, i < len' → ∃ (s t : Bs) (q : Int), (W.cell? (x.add (i * 3)) = some (.string (Str s)) ∧ W.cell? (x.add (i * 3 + 1)) = some (.string (Str t)) ∧ W.cell? (x.add (i * 3 + 2)) = some (.int .i64 q)) ∧ s.length ≤ maxLen ∧ t.length ≤ maxLen := by
      intro i hil
      obtain ⟨cs', hc, ht⟩ := hi i (by omega)
      rw [e3] at hc
      obtain ⟨_, hlen, hcell⟩ := World.cells?_some hc
      obtain ⟨s, t, q, rfl, hs, ht'⟩ := elem_pair ht hlen
      have h0 := hcell 0 (by omega)
      have h1 := hcell 1 (by omega)
      have h2 := hcell 2 (by omega)
      rw [Go.Deep.add_add] at h0 h1 h2
      exact ⟨s, t, q, ⟨h0, h1, h2⟩, hs, ht'⟩
    obtain ⟨l, hll, hs, hc⟩ := rows_pair len' hrow
    refine ⟨l, some x, cap', by rw [hll], by omega, hm, hs, fun hne => ?_⟩
    have h0 : 0 < l.length := List.length_pos_iff.2 hne
    obtain ⟨b, off, spot⟩ := x
    have hc0 := (hc 0 h0).1
    have hspot : spot = none := by simpa [Addr.add] using World.cell?_spot hc0
    subst hspot
    have hadd : ∀ i, (⟨b, off, none⟩ : Addr).add i = ⟨b, off + i, none⟩ := by intro i; unfold Addr.add; split <;> simp_all
    rw [hadd] at hc0
    refine ⟨b, off, rfl, cell_lt hc0, fun i hi => ?_⟩
    have hci := hc i hi
    rw [hadd, hadd, hadd] at hci
    exact hci
end
end Go.Proofs.Ytbbiobhffelaaaa
