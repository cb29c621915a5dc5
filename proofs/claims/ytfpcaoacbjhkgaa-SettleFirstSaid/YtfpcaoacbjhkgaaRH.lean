/-
  Rows of spans under the name keys: taken apart, appended to, and told by their cells.
-/
import Derived.Test.YtfpcaoacbjhkgaaRG
namespace Go.Proofs.Ytfpcaoacbjhkgaa
open Go.RowKit Go.Sort
set_option linter.unusedVariables false

theorem sizeSp : (Try.prog.info? 32).map (·.size) = some 2 := by
  have h := infoS
  cases hq : Try.prog.info? 32 with
  | none => rw [hq] at h; simp at h
  | some i => rw [hq] at h; simp at h; simp [h.2.1]
/-- The row of a slice that the call owns. -/
theorem own_row {w : World} {base g n cap : Nat} {l : List Sp} (h : w.ownsRow base 32 2 (.slice (some ⟨g, 0, none⟩) n cap) n (l.flatMap encS)) :
    ∃ cur : List Value, w.heap[g]? = some (.cells cur.toArray 32 (0, 0)) ∧ cur.length = cap * 2 ∧ cur.take (n * 2) = l.flatMap encS ∧ base ≤ g ∧ n ≤ cap ∧ cap ≤ maxLen ∧ n = l.length := by
  have hl := h.1
  rw [flatS_len] at hl
  rcases h.2 with ⟨h', _⟩ | ⟨g', cap', cur, h', hb, hg, hn, hm, hs, ht⟩
  · cases h'
  · injection h' with h1 h2 h3
    injection h1 with h1
    injection h1 with h1
    subst h1 h3
    exact ⟨cur.toList, by simpa using hg, by simpa using hs, ht, hb, hn, hm, by omega⟩
theorem row_own {w : World} {base g n cap : Nat} {l : List Sp} {cur : List Value} (hg : w.heap[g]? = some (.cells cur.toArray 32 (0, 0))) (hs : cur.length = cap * 2) (ht : cur.take (n * 2) = l.flatMap encS) (hb : base ≤ g) (hn : n ≤ cap) (hm : cap ≤ maxLen) (hl : n = l.length) :
    w.ownsRow base 32 2 (.slice (some ⟨g, 0, none⟩) n cap) n (l.flatMap encS) :=
  ⟨by rw [flatS_len, hl], .inr ⟨g, cap, cur.toArray, rfl, hb, hg, hn, hm, by simpa using hs, by simpa using ht⟩⟩
theorem flatS_take (l : List Sp) (i : Nat) : (l.take i).flatMap encS = (l.flatMap encS).take (i * 2) := by
  induction l generalizing i with
  | nil => simp
  | cons s l ih =>
    have e : ∀ (t : Sp) r, (t :: r).flatMap encS = .string (Str t.1) :: .string (Str t.2) :: r.flatMap encS := fun t r => rfl
    cases i with
    | zero => simp
    | succ i =>
      rw [List.take_succ_cons, e, e, ih, show (i + 1) * 2 = i * 2 + 1 + 1 by omega]
      rfl
theorem flatS_drop (l : List Sp) (i : Nat) : (l.drop i).flatMap encS = (l.flatMap encS).drop (i * 2) := by
  induction l generalizing i with
  | nil => simp
  | cons s l ih =>
    have e : ∀ (t : Sp) r, (t :: r).flatMap encS = .string (Str t.1) :: .string (Str t.2) :: r.flatMap encS := fun t r => rfl
    cases i with
    | zero => simp
    | succ i =>
      rw [List.drop_succ_cons, e, ih, show (i + 1) * 2 = i * 2 + 1 + 1 by omega]
      rfl
theorem owns_take {w : World} {base g n cap : Nat} {l : List Sp} (h : w.ownsRow base 32 2 (.slice (some ⟨g, 0, none⟩) n cap) n (l.flatMap encS)) (i : Nat) (hi : i ≤ n) :
    w.ownsRow base 32 2 (.slice (some ⟨g, 0, none⟩) i cap) i ((l.take i).flatMap encS) := by
  obtain ⟨cur, h1, h2, h3, h4, h5, h6, h7⟩ := own_row h
  refine row_own h1 h2 ?_ h4 (by omega) h6 (by rw [List.length_take]; omega)
  rw [flatS_take, ← h3, List.take_take, Nat.min_eq_left (by omega)]
/-- Cells of a row from an element on. -/
theorem row_cells {w : World} {g : Nat} {cur : List Value} (hg : w.heap[g]? = some (.cells cur.toArray 32 (0, 0))) (o : Nat) (j : Nat) (u : Value) (h : (cur.drop o)[j]? = some u) : w.cell? ((⟨g, o, none⟩ : Addr).add j) = some u := by
  rw [List.getElem?_drop] at h
  have e : (⟨g, o, none⟩ : Addr).add j = ⟨g, o + j, none⟩ := by unfold Addr.add; split <;> simp_all
  rw [e]
  unfold World.cell?
  rw [hg]
  simpa using h
theorem append_named {P : Program} (t u e : TypeId) (ht : P.underlying t = some (.slice e)) (hu : P.underlying u = some (.slice e)) (ty : TypeId) (v x : Value) (w : World) : (Builtin.append_ #[t, u] ty #[v, x]).run P w = (Builtin.append_ #[u, u] ty #[v, x]).run P w := by
  unfold Builtin.append_
  simp [run_underlying ht, run_underlying hu]
theorem grownBy_refl (w : World) (row : Option Nat) : w.grownBy w row := ⟨rfl, rfl, rfl, Nat.le_refl _, fun _ _ _ => rfl⟩
theorem grownBy_below {w w' : World} (h : Below w.heap.size w w') (row : Option Nat) : w.grownBy w' row := ⟨h.os, h.tape, h.output, h.size, fun i hi _ => h.block i hi⟩
theorem grownBy_own {w w' : World} {base g : Nat} (h : Below base w w') (ho : ∀ b, b ≠ g → w'.heap[b]? = w.heap[b]?) : w.grownBy w' (some g) := ⟨h.os, h.tape, h.output, h.size, fun i _ hne => ho i fun e => hne (by rw [e])⟩
/-- A slice that the call owns, changed or moved; nothing else is touched. -/
def Turn (v v' : Value) (w w' : World) : Prop := w.grownBy w' v.ownBlock ∧ ∀ j, v'.ownBlock = some j → w.heap.size ≤ j ∨ v.ownBlock = some j
theorem turn_refl (v : Value) (w : World) : Turn v v w w := ⟨grownBy_refl _ _, fun j hj => .inr hj⟩
theorem turn_new {w w' : World} (h : Below w.heap.size w w') (v : Value) (n c : Nat) : Turn v (.slice (some ⟨w.heap.size, 0, none⟩) n c) w w' := ⟨grownBy_below h _, fun j hj => .inl (by have h2 : w.heap.size = j := Option.some.inj hj; omega)⟩
theorem turn_own {w w' : World} {base g : Nat} (h : Below base w w') (ho : ∀ b, b ≠ g → w'.heap[b]? = w.heap[b]?) (n c n' c' : Nat) : Turn (.slice (some ⟨g, 0, none⟩) n c) (.slice (some ⟨g, 0, none⟩) n' c') w w' := ⟨grownBy_own h ho, fun j hj => .inr hj⟩
theorem Turn.trans {a b c : World} {u v x : Value} (h : Turn u v a b) (k : Turn v x b c) : Turn u x a c :=
  ⟨h.1.andThen k.1 h.2, fun j hj => by
    rcases k.2 j hj with h1 | h1
    · exact .inl (Nat.le_trans h.1.size h1)
    · exact h.2 j h1⟩
end Go.Proofs.Ytfpcaoacbjhkgaa
