/-
  Pools in memory: slots as slices of eight cells, rows of the call's own, what stays and what a store turns.
-/
import Derived.Test.YtlgangcldlphnaaPB
namespace Go.Proofs.Ytlgangcldlphnaa
open Go.RowKit Go.Sort
set_option linter.unusedVariables false

/-- A slice, a slot, as they lie in cells. -/
abbrev Slc := Option Addr × Nat × Nat
@[reducible] def slv (s : Slc) : Value := .slice s.1 s.2.1 s.2.2
structure Sv where
  used : Bool
  lost : Bool
  refs : Int
  a : Slc
  b : Slc
  c : Slc
  d : Slc
  e : Slc
def zSv : Sv := ⟨false, false, 0, (none, 0, 0), (none, 0, 0), (none, 0, 0), (none, 0, 0), (none, 0, 0)⟩
def encV (s : Sv) : List Value := [.bool s.used, .bool s.lost, .int .i64 s.refs, slv s.a, slv s.b, slv s.c, slv s.d, slv s.e]
@[reducible] def nodeV (s : Sv) : Value := .agg #[slv s.a, slv s.b, slv s.c, slv s.d, slv s.e]
@[reducible] def slotV (s : Sv) : Value := .agg #[.bool s.used, .bool s.lost, .int .i64 s.refs, slv s.a, slv s.b, slv s.c, slv s.d, slv s.e]
theorem encV_len (s : Sv) : (encV s).length = 8 := rfl
theorem encV_one (s : Sv) : ∀ u ∈ encV s, u.oneCell' = true := by
  intro u hu
  simp [encV] at hu
  rcases hu with rfl | rfl | rfl | rfl | rfl | rfl | rfl | rfl <;> rfl
/-- A slot in memory. -/
structure IsSl (w : World) (v : Sv) (s : Sl) : Prop where
  used : v.used = s.used
  lost : v.lost = s.lost
  refs : v.refs = s.refs
  pairs : IsPairs w (slv v.a) s.node.pairs
  pivots : IsStrs w (slv v.b) s.node.pivots
  kids : IsInts w (slv v.c) s.node.kids
  sums : IsSums w (slv v.d) s.node.sums
  buf : IsMsgs w (slv v.e) s.node.buf
theorem IsSl.below {w w' : World} {v : Sv} {s : Sl} (h : IsSl w v s) (hb : Below w.heap.size w w') : IsSl w' v s :=
  ⟨h.used, h.lost, h.refs, h.pairs.below hb, h.pivots.below hb, h.kids.below hb, h.sums.below hb, h.buf.below hb⟩
theorem IsSl.node {w : World} {v : Sv} {s : Sl} (h : IsSl w v s) : IsNode w (nodeV v) s.node := ⟨_, _, _, _, _, rfl, h.pairs, h.pivots, h.kids, h.sums, h.buf⟩
theorem IsInts.nil (w : World) : IsInts w (.slice none 0 0) [] := ⟨none, 0, rfl, Nat.le_refl _, by unfold maxLen; omega, fun h => absurd rfl h⟩
theorem IsStrs.nil (w : World) : IsStrs w (.slice none 0 0) [] := ⟨none, 0, rfl, Nat.le_refl _, by unfold maxLen; omega, fun h => absurd rfl h⟩
theorem IsSums.nil (w : World) : IsSums w (.slice none 0 0) [] := ⟨none, 0, rfl, Nat.le_refl _, by unfold maxLen; omega, fun h => absurd rfl h⟩
theorem IsMsgs.nil' (w : World) : IsMsgs w (.slice none 0 0) [] := ⟨none, 0, rfl, Nat.le_refl _, by unfold maxLen; omega, fun h => absurd rfl h⟩
theorem isSl_zero (w : World) : IsSl w zSv zSl := ⟨rfl, rfl, rfl, IsPairs.nil w, IsStrs.nil w, IsInts.nil w, IsSums.nil w, IsMsgs.nil' w⟩
/-- A node's lists, as slices. -/
theorem IsNode.sl {w : World} {v : Value} {n : Nd} (h : IsNode w v n) (u l : Bool) (r : Int) : ∃ s : Sv, v = nodeV s ∧ s.used = u ∧ s.lost = l ∧ s.refs = r ∧ IsSl w s ⟨u, l, r, n⟩ := by
  obtain ⟨a, b, c, d, e, rfl, h1, h2, h3, h4, h5⟩ := h
  obtain ⟨a1, a2, rfl, -⟩ := id h1
  obtain ⟨b1, b2, rfl, -⟩ := id h2
  obtain ⟨c1, c2, rfl, -⟩ := id h3
  obtain ⟨d1, d2, rfl, -⟩ := id h4
  obtain ⟨e1, e2, rfl, -⟩ := id h5
  exact ⟨⟨u, l, r, (a1, _, a2), (b1, _, b2), (c1, _, c2), (d1, _, d2), (e1, _, e2)⟩, rfl, rfl, rfl, rfl, ⟨rfl, rfl, rfl, h1, h2, h3, h4, h5⟩⟩
def atV (L : List Sv) (i : Nat) : Sv := L.getD i zSv
/-- All slots of a list in memory. -/
def AllSl (w : World) (L : List Sv) (P : List Sl) : Prop := L.length = P.length ∧ ∀ i, IsSl w (atV L i) (atP P i)
theorem AllSl.below {w w' : World} {L : List Sv} {P : List Sl} (h : AllSl w L P) (hb : Below w.heap.size w w') : AllSl w' L P := ⟨h.1, fun i => (h.2 i).below hb⟩
theorem allSl_nil (w : World) : AllSl w [] [] := ⟨rfl, fun i => by show IsSl w zSv zSl; exact isSl_zero w⟩
theorem atV_set {L : List Sv} {k : Nat} {s : Sv} (i : Nat) (h : k < L.length) : atV (L.set k s) i = if i = k then s else atV L i := by
  unfold atV
  rw [List.getD_eq_getElem?_getD, List.getElem?_set, List.getD_eq_getElem?_getD]
  by_cases e : k = i
  · subst e; simp [h]
  · have : ¬ i = k := fun h => e h.symm
    simp [e, this]
theorem AllSl.set {w : World} {L : List Sv} {P : List Sl} (h : AllSl w L P) {k : Nat} (hk : k < P.length) {v : Sv} {s : Sl} (hs : IsSl w v s) : AllSl w (L.set k v) (P.set k s) :=
  ⟨by simp [h.1], fun i => by
    rw [atV_set i (by rw [h.1]; exact hk), atP_set i hk]
    split
    · exact hs
    · exact h.2 i⟩
theorem atV_push (L : List Sv) (v : Sv) (i : Nat) : atV (L ++ [v]) i = if i = L.length then v else atV L i := by
  unfold atV
  rw [List.getD_eq_getElem?_getD, List.getD_eq_getElem?_getD]
  rcases Nat.lt_trichotomy i L.length with h | h | h
  · rw [List.getElem?_append_left h, if_neg (by omega)]
  · subst h; simp
  · rw [List.getElem?_append_right (by omega), if_neg (by omega), List.getElem?_eq_none (by simp; omega), List.getElem?_eq_none (by omega)]
theorem AllSl.push {w : World} {L : List Sv} {P : List Sl} (h : AllSl w L P) : AllSl w (L ++ [zSv]) (P ++ [zSl]) :=
  ⟨by simp [h.1], fun i => by
    rw [atP_push, atV_push]
    split
    · rename_i e; rw [atP_ge (by rw [e, h.1]; exact Nat.le_refl _)]; exact isSl_zero w
    · exact h.2 i⟩
/-- The eight cells of a slot. -/
def VAt (w : World) (b o : Nat) (s : Sv) : Prop :=
  w.cell? ⟨b, o, none⟩ = some (.bool s.used) ∧ w.cell? ⟨b, o + 1, none⟩ = some (.bool s.lost) ∧ w.cell? ⟨b, o + 2, none⟩ = some (.int .i64 s.refs) ∧ w.cell? ⟨b, o + 3, none⟩ = some (slv s.a) ∧
  w.cell? ⟨b, o + 4, none⟩ = some (slv s.b) ∧ w.cell? ⟨b, o + 5, none⟩ = some (slv s.c) ∧ w.cell? ⟨b, o + 6, none⟩ = some (slv s.d) ∧ w.cell? ⟨b, o + 7, none⟩ = some (slv s.e)
theorem VAt.below {w w' : World} {b o : Nat} {m : Sv} (h : VAt w b o m) {B : Nat} (hb : Below B w w') (hl : b < B) : VAt w' b o m := by
  have e : ∀ k, w'.cell? ⟨b, k, none⟩ = w.cell? ⟨b, k, none⟩ := fun k => hb.cell (p := ⟨b, k, none⟩) hl
  unfold VAt at *
  simp only [e]; exact h
/-- A slice of slots. -/
def IsSlots (w : World) (v : Value) (P : List Sl) : Prop :=
  ∃ L, AllSl w L P ∧ ∃ a cap, v = .slice a P.length cap ∧ P.length ≤ cap ∧ cap ≤ maxLen ∧ (P ≠ [] → ∃ b off, a = some ⟨b, off, none⟩ ∧ b < w.heap.size ∧ ∀ i (h : i < P.length), VAt w b (off + i * 8) (atV L i))
theorem IsSlots.below {w w' : World} {v : Value} {P : List Sl} (h : IsSlots w v P) (hb : Below w.heap.size w w') : IsSlots w' v P := by
  obtain ⟨L, h0, a, cap, h1, h2, h3, h4⟩ := h
  refine ⟨L, h0.below hb, a, cap, h1, h2, h3, fun hl => ?_⟩
  obtain ⟨b, off, e, hlt, hc⟩ := h4 hl
  exact ⟨b, off, e, Nat.lt_of_lt_of_le hlt hb.size, fun i hi => (hc i hi).below hb hlt⟩
theorem IsSlots.nil (w : World) : IsSlots w (.slice none 0 0) [] := ⟨[], allSl_nil w, none, 0, rfl, Nat.le_refl _, by unfold maxLen; omega, fun h => absurd rfl h⟩
theorem IsSlots.slice {w : World} {v : Value} {P : List Sl} (h : IsSlots w v P) : ∃ a cap, v = .slice a P.length cap ∧ P.length ≤ cap ∧ (cap : Int) ≤ 9223372036854775807 ∧ (P.length : Int) ≤ 9223372036854775807 := by
  obtain ⟨L, h0, a, cap, h1, h2, h3, h4⟩ := h
  unfold maxLen at h3
  exact ⟨a, cap, h1, h2, by omega, by omega⟩
/-- A slot of a slice. -/
theorem slot_at {w : World} {v : Value} {P : List Sl} (h : IsSlots w v P) (i : Nat) (hi : i < P.length) : ∃ b off cap s, v = .slice (some ⟨b, off, none⟩) P.length cap ∧ b < w.heap.size ∧ (P.length : Int) ≤ 9223372036854775807 ∧ IsSl w s (atP P i) ∧ VAt w b (off + i * 8) s := by
  obtain ⟨L, h0, a, cap, rfl, h2, h3, h4⟩ := h
  obtain ⟨b, off, rfl, hlt, hc⟩ := h4 (by rintro rfl; simp at hi)
  unfold maxLen at h3
  exact ⟨b, off, cap, atV L i, rfl, hlt, by omega, h0.2 i, hc i hi⟩
/-- A row of slots of the call's own. -/
def OwnSl (w : World) (base : Nat) (v : Value) (P : List Sl) : Prop := ∃ L, AllSl w L P ∧ w.ownsRow base 61 8 v P.length (L.flatMap encV)
theorem OwnSl.below {w w' : World} {base : Nat} {v : Value} {P : List Sl} (h : OwnSl w base v P) (hb : Below w.heap.size w w') : OwnSl w' base v P := by
  obtain ⟨L, h1, h2⟩ := h
  exact ⟨L, h1.below hb, owns_below h2 hb⟩
theorem OwnSl.lower {w : World} {base B : Nat} {v : Value} {P : List Sl} (h : OwnSl w base v P) (hb : B ≤ base) : OwnSl w B v P := by
  obtain ⟨L, h1, h2⟩ := h
  exact ⟨L, h1, owns_lower h2 hb⟩
theorem flatV_get (L : List Sv) (i : Nat) (h : i < L.length) (j : Nat) (hj : j < 8) : (L.flatMap encV)[i * 8 + j]? = (encV (atV L i))[j]? := by
  induction L generalizing i with
  | nil => simp at h
  | cons s L ih =>
    rw [List.flatMap_cons]
    cases i with
    | zero => rw [List.getElem?_append_left (by rw [encV_len]; omega)]; simp [atV]
    | succ i =>
      rw [List.getElem?_append_right (by rw [encV_len]; omega), encV_len, show (i + 1) * 8 + j - 8 = i * 8 + j by omega, ih i (by simpa using h)]
      simp [atV]
theorem flatV_set (L : List Sv) (i : Nat) (h : i < L.length) (j : Nat) (hj : j < 8) (u : Value) (y : Sv) (hy : encV y = (encV (atV L i)).set j u) : (L.flatMap encV).set (i * 8 + j) u = (L.set i y).flatMap encV := by
  induction L generalizing i with
  | nil => simp at h
  | cons s L ih =>
    cases i with
    | zero =>
      rw [List.flatMap_cons, List.set_cons_zero, List.flatMap_cons, hy, List.set_append_left _ _ (by rw [encV_len]; omega)]
      simp [atV]
    | succ i =>
      rw [List.flatMap_cons, List.set_cons_succ, List.flatMap_cons, List.set_append_right _ _ (by rw [encV_len]; omega), encV_len, show (i + 1) * 8 + j - 8 = i * 8 + j by omega]
      rw [ih i (by simpa using h) (by simpa [atV] using hy)]
theorem OwnSl.slots {w : World} {base : Nat} {v : Value} {P : List Sl} (h : OwnSl w base v P) : IsSlots w v P := by
  obtain ⟨L, h1, h2⟩ := h
  refine ⟨L, h1, ?_⟩
  rcases h2.2 with ⟨rfl, h0⟩ | ⟨g, cap, cur, rfl, hb, hg, hn, hm, hsz, htk⟩
  · have : P = [] := List.length_eq_zero_iff.1 h0
    subst this
    exact ⟨none, 0, rfl, Nat.le_refl _, by unfold maxLen; omega, fun h => absurd rfl h⟩
  · refine ⟨_, cap, rfl, hn, hm, fun hne => ⟨g, 0, rfl, (Array.getElem?_eq_some_iff.1 hg).1, fun i hi => ?_⟩⟩
    have hc : ∀ j, j < 8 → w.cell? ⟨g, 0 + i * 8 + j, none⟩ = (encV (atV L i))[j]? := by
      intro j hj
      rw [← flatV_get L i (by rw [h1.1]; exact hi) j hj, Nat.zero_add]
      exact h2.cellAt (i * 8 + j) (by omega)
    exact ⟨hc 0 (by omega), hc 1 (by omega), hc 2 (by omega), hc 3 (by omega), hc 4 (by omega), hc 5 (by omega), hc 6 (by omega), hc 7 (by omega)⟩
/-- The block of a row of the call's own that is not empty. -/
theorem OwnSl.form {w : World} {base : Nat} {v : Value} {P : List Sl} (h : OwnSl w base v P) (hne : 0 < P.length) : ∃ g cap, v = .slice (some ⟨g, 0, none⟩) P.length cap ∧ base ≤ g ∧ g < w.heap.size ∧ P.length ≤ cap ∧ (cap : Int) ≤ 9223372036854775807 ∧ (∀ j, w.frozen? ⟨g, j, none⟩ = false) := by
  obtain ⟨L, h1, h2⟩ := h
  have hf := h2
  rcases h2.2 with ⟨rfl, h0⟩ | ⟨g, cap, cur, rfl, hb, hg, hn, hm, hsz, htk⟩
  · omega
  · unfold maxLen at hm
    exact ⟨g, cap, rfl, hb, (Array.getElem?_eq_some_iff.1 hg).1, hn, by omega, fun j => hf.frozenAt j⟩
/-- The cells of a slot of such a row. -/
theorem OwnSl.at {w : World} {base g n cap : Nat} {P : List Sl} (h : OwnSl w base (.slice (some ⟨g, 0, none⟩) n cap) P) (i : Nat) (hi : i < P.length) : ∃ s, IsSl w s (atP P i) ∧ VAt w g (i * 8) s := by
  obtain ⟨L, h1, h2⟩ := h
  refine ⟨atV L i, h1.2 i, ?_⟩
  have hn : n = P.length := by
    rcases h2.2 with ⟨h', _⟩ | ⟨g', cap', cur, h', _⟩
    · cases h'
    · injection h'
  subst hn
  have hc : ∀ j, j < 8 → w.cell? ⟨g, i * 8 + j, none⟩ = (encV (atV L i))[j]? := by
    intro j hj
    rw [← flatV_get L i (by rw [h1.1]; exact hi) j hj]
    exact h2.cellAt (i * 8 + j) (by omega)
  exact ⟨hc 0 (by omega), hc 1 (by omega), hc 2 (by omega), hc 3 (by omega), hc 4 (by omega), hc 5 (by omega), hc 6 (by omega), hc 7 (by omega)⟩
/-- The same, with the slots' lists as they lay in an elder world. -/
def OwnF (w0 w : World) (base : Nat) (v : Value) (P : List Sl) : Prop := ∃ L, AllSl w0 L P ∧ w.ownsRow base 61 8 v P.length (L.flatMap encV)
theorem OwnF.own {w0 w : World} {base : Nat} {v : Value} {P : List Sl} (h : OwnF w0 w base v P) (hb : Below w0.heap.size w0 w) : OwnSl w base v P := by
  obtain ⟨L, h1, h4⟩ := h
  exact ⟨L, h1.below hb, h4⟩
theorem OwnF.below {w0 w w' : World} {base : Nat} {v : Value} {P : List Sl} (h : OwnF w0 w base v P) (hb : Below w.heap.size w w') : OwnF w0 w' base v P := by
  obtain ⟨L, h1, h4⟩ := h
  exact ⟨L, h1, owns_below h4 hb⟩
theorem OwnF.len {w0 w : World} {base g n cap : Nat} {a : Option Addr} {P : List Sl} (h : OwnF w0 w base (.slice a n cap) P) : n = P.length := by
  obtain ⟨L, h1, h4⟩ := h
  rcases h4.2 with ⟨h', h0⟩ | ⟨g', cap', cur, h', _⟩
  · injection h' with _ e; omega
  · injection h'
theorem OwnF.blk {w0 w : World} {base g n cap : Nat} {P : List Sl} (h : OwnF w0 w base (.slice (some ⟨g, 0, none⟩) n cap) P) : base ≤ g ∧ g < w.heap.size := by
  obtain ⟨L, h1, h4⟩ := h
  exact h4.lt g rfl
theorem OwnF.free {w0 w : World} {base g n cap : Nat} {P : List Sl} (h : OwnF w0 w base (.slice (some ⟨g, 0, none⟩) n cap) P) (j : Nat) : w.frozen? ⟨g, j, none⟩ = false := by
  have hn := h.len (g := g)
  subst hn
  obtain ⟨L, h1, h4⟩ := h
  exact h4.frozenAt j
theorem OwnF.form {w0 w : World} {base : Nat} {v : Value} {P : List Sl} (h : OwnF w0 w base v P) : ∃ a cap, v = .slice a P.length cap ∧ P.length ≤ cap ∧ (cap : Int) ≤ 9223372036854775807 ∧ (0 < P.length → ∃ g, a = some ⟨g, 0, none⟩) := by
  obtain ⟨L, h1, h2⟩ := h
  rcases h2.2 with ⟨rfl, h0⟩ | ⟨g, cap, cur, rfl, hb, hg, hn, hm, hsz, htk⟩
  · exact ⟨none, 0, by rw [h0], by omega, by omega, fun h => by omega⟩
  · unfold maxLen at hm
    exact ⟨_, cap, rfl, hn, by omega, fun _ => ⟨g, rfl⟩⟩
theorem OwnF.at {w0 w : World} {base g n cap : Nat} {P : List Sl} (h : OwnF w0 w base (.slice (some ⟨g, 0, none⟩) n cap) P) (i : Nat) (hi : i < P.length) : ∃ s, IsSl w0 s (atP P i) ∧ VAt w g (i * 8) s := by
  have hn := h.len (g := g)
  obtain ⟨L, h1, h2⟩ := h
  refine ⟨atV L i, h1.2 i, ?_⟩
  subst hn
  have hc : ∀ j, j < 8 → w.cell? ⟨g, i * 8 + j, none⟩ = (encV (atV L i))[j]? := by
    intro j hj
    rw [← flatV_get L i (by rw [h1.1]; exact hi) j hj]
    exact h2.cellAt (i * 8 + j) (by omega)
  exact ⟨hc 0 (by omega), hc 1 (by omega), hc 2 (by omega), hc 3 (by omega), hc 4 (by omega), hc 5 (by omega), hc 6 (by omega), hc 7 (by omega)⟩
/-- Held once more, once less. -/
theorem OwnF.refs {w0 w : World} {base g n cap : Nat} {P : List Sl} (h : OwnF w0 w base (.slice (some ⟨g, 0, none⟩) n cap) P) (i : Nat) (hi : i < P.length) (r : Int) :
    OwnF w0 (w.setCell ⟨g, i * 8 + 2, none⟩ (.int .i64 r)) base (.slice (some ⟨g, 0, none⟩) n cap) (P.set i { atP P i with refs := r }) := by
  have hn := h.len (g := g)
  obtain ⟨L, h1, h4⟩ := h
  subst hn
  refine ⟨L.set i { atV L i with refs := r }, h1.set hi ?_, ?_⟩
  · have := h1.2 i
    exact ⟨this.used, this.lost, rfl, this.pairs, this.pivots, this.kids, this.sums, this.buf⟩
  · have := (h4.stored (i * 8 + 2) (.int .i64 r)).1
    rw [flatV_set L i (by rw [h1.1]; exact hi) 2 (by omega) _ { atV L i with refs := r } rfl] at this
    rw [List.length_set]
    exact this
/-- The world behind a store of a whole slot. -/
@[reducible] def st8s (w : World) (g o : Nat) (s : Sv) : World :=
  (((((((w.setCell ⟨g, o, none⟩ (.bool s.used)).setCell ⟨g, o + 1, none⟩ (.bool s.lost)).setCell ⟨g, o + 2, none⟩ (.int .i64 s.refs)).setCell ⟨g, o + 3, none⟩ (slv s.a)).setCell ⟨g, o + 4, none⟩ (slv s.b)).setCell ⟨g, o + 5, none⟩ (slv s.c)).setCell ⟨g, o + 6, none⟩ (slv s.d)).setCell ⟨g, o + 7, none⟩ (slv s.e)
theorem own_slot {w : World} {base g n cap : Nat} {L : List Sv} (h : w.ownsRow base 61 8 (.slice (some ⟨g, 0, none⟩) n cap) n (L.flatMap encV)) (i : Nat) (hi : i < L.length) (s : Sv) :
    (st8s w g (i * 8) s).ownsRow base 61 8 (.slice (some ⟨g, 0, none⟩) n cap) n ((L.set i s).flatMap encV) := by
  have k0 := (h.stored (i * 8 + 0) (.bool s.used)).1
  have k1 := (k0.stored (i * 8 + 1) (.bool s.lost)).1
  have k2 := (k1.stored (i * 8 + 2) (.int .i64 s.refs)).1
  have k3 := (k2.stored (i * 8 + 3) (slv s.a)).1
  have k4 := (k3.stored (i * 8 + 4) (slv s.b)).1
  have k5 := (k4.stored (i * 8 + 5) (slv s.c)).1
  have k6 := (k5.stored (i * 8 + 6) (slv s.d)).1
  have k7 := (k6.stored (i * 8 + 7) (slv s.e)).1
  let L0 := atV L i
  rw [flatV_set L i hi 0 (by omega) _ { L0 with used := s.used } rfl] at k7
  rw [flatV_set _ i (by simpa using hi) 1 (by omega) _ { L0 with used := s.used, lost := s.lost } (by rw [atV_set _ hi]; simp [encV]), List.set_set] at k7
  rw [flatV_set _ i (by simpa using hi) 2 (by omega) _ { L0 with used := s.used, lost := s.lost, refs := s.refs } (by rw [atV_set _ hi]; simp [encV]), List.set_set] at k7
  rw [flatV_set _ i (by simpa using hi) 3 (by omega) _ { L0 with used := s.used, lost := s.lost, refs := s.refs, a := s.a } (by rw [atV_set _ hi]; simp [encV]), List.set_set] at k7
  rw [flatV_set _ i (by simpa using hi) 4 (by omega) _ { L0 with used := s.used, lost := s.lost, refs := s.refs, a := s.a, b := s.b } (by rw [atV_set _ hi]; simp [encV]), List.set_set] at k7
  rw [flatV_set _ i (by simpa using hi) 5 (by omega) _ { L0 with used := s.used, lost := s.lost, refs := s.refs, a := s.a, b := s.b, c := s.c } (by rw [atV_set _ hi]; simp [encV]), List.set_set] at k7
  rw [flatV_set _ i (by simpa using hi) 6 (by omega) _ { L0 with used := s.used, lost := s.lost, refs := s.refs, a := s.a, b := s.b, c := s.c, d := s.d } (by rw [atV_set _ hi]; simp [encV]), List.set_set] at k7
  rw [flatV_set _ i (by simpa using hi) 7 (by omega) _ s (by rw [atV_set _ hi]; simp [encV]), List.set_set] at k7
  exact k7
theorem below_st8s {B : Nat} {w wx : World} (h : Below B w wx) (g o : Nat) (hb : B ≤ g) (s : Sv) : Below B w (st8s wx g o s) :=
  (((((((h.setCell hb _).setCell hb _).setCell hb _).setCell hb _).setCell hb _).setCell hb _).setCell hb _).setCell hb _
theorem OwnF.slot {w0 w : World} {base g n cap : Nat} {P : List Sl} {v : Sv} {s : Sl} (h : OwnF w0 w base (.slice (some ⟨g, 0, none⟩) n cap) P) (i : Nat) (hi : i < P.length) (hs : IsSl w0 v s) :
    OwnF w0 (st8s w g (i * 8) v) base (.slice (some ⟨g, 0, none⟩) n cap) (P.set i s) := by
  have hn := h.len (g := g)
  obtain ⟨L, h1, h4⟩ := h
  subst hn
  refine ⟨L.set i v, h1.set hi hs, ?_⟩
  rw [List.length_set]
  exact own_slot h4 i (by rw [h1.1]; exact hi) v
/-- A slice of slots whose lists lay so in an elder world. -/
def SlF (w0 w : World) (v : Value) (P : List Sl) : Prop :=
  ∃ L, AllSl w0 L P ∧ ∃ a cap, v = .slice a P.length cap ∧ P.length ≤ cap ∧ cap ≤ maxLen ∧ (P ≠ [] → ∃ b off, a = some ⟨b, off, none⟩ ∧ b < w.heap.size ∧ ∀ i (h : i < P.length), VAt w b (off + i * 8) (atV L i))
theorem IsSlots.slF {w : World} {v : Value} {P : List Sl} (h : IsSlots w v P) : SlF w w v P := h
theorem SlF.slots {w0 w : World} {v : Value} {P : List Sl} (h : SlF w0 w v P) (hb : Below w0.heap.size w0 w) : IsSlots w v P := by
  obtain ⟨L, h0, h1⟩ := h
  exact ⟨L, h0.below hb, h1⟩
theorem SlF.below {w0 w w' : World} {v : Value} {P : List Sl} (h : SlF w0 w v P) (hb : Below w.heap.size w w') : SlF w0 w' v P := by
  obtain ⟨L, h0, a, cap, h1, h2, h3, h4⟩ := h
  refine ⟨L, h0, a, cap, h1, h2, h3, fun hl => ?_⟩
  obtain ⟨b, off, e, hlt, hc⟩ := h4 hl
  exact ⟨b, off, e, Nat.lt_of_lt_of_le hlt hb.size, fun i hi => (hc i hi).below hb hlt⟩
theorem SlF.elder {w0 w1 w : World} {v : Value} {P : List Sl} (h : SlF w0 w v P) (hb : Below w0.heap.size w0 w1) : SlF w1 w v P := by
  obtain ⟨L, h0, h1⟩ := h
  exact ⟨L, h0.below hb, h1⟩
/-- The block of a slice. -/
def blkOf (v : Value) : Option Nat := match v with
  | .slice (some a) _ _ => some a.block
  | _ => none
theorem VAt.set {w : World} {b o : Nat} {s : Sv} (h : VAt w b o s) (c i : Nat) (u : Value) (hne : b ≠ c) : VAt (w.setCell ⟨c, i, none⟩ u) b o s := by
  have e : ∀ k, (w.setCell ⟨c, i, none⟩ u).cell? ⟨b, k, none⟩ = w.cell? ⟨b, k, none⟩ := fun k => by
    unfold World.cell?; rw [Below.heap_setCell _ _ _ _ hne]
  unfold VAt at *
  simp only [e]; exact h
theorem SlF.set {w0 w : World} {v : Value} {P : List Sl} (h : SlF w0 w v P) (c i : Nat) (u : Value) (hne : blkOf v ≠ some c) : SlF w0 (w.setCell ⟨c, i, none⟩ u) v P := by
  obtain ⟨L, h0, a, cap, rfl, h2, h3, h4⟩ := h
  refine ⟨L, h0, a, cap, rfl, h2, h3, fun hl => ?_⟩
  obtain ⟨b, off, rfl, hlt, hc⟩ := h4 hl
  have hbc : b ≠ c := fun e => hne (by rw [e]; rfl)
  exact ⟨b, off, rfl, by simpa using hlt, fun i hi => (hc i hi).set _ _ _ hbc⟩
theorem SlF.nil (w0 w : World) : SlF w0 w (.slice none 0 0) [] := ⟨[], allSl_nil w0, none, 0, rfl, Nat.le_refl _, by unfold maxLen; omega, fun h => absurd rfl h⟩
theorem OwnF.slF {w0 w : World} {base : Nat} {v : Value} {P : List Sl} (h : OwnF w0 w base v P) : SlF w0 w v P := by
  obtain ⟨L, h1, h2⟩ := h
  refine ⟨L, h1, ?_⟩
  rcases h2.2 with ⟨rfl, h0⟩ | ⟨g, cap, cur, rfl, hb, hg, hn, hm, hsz, htk⟩
  · have : P = [] := List.length_eq_zero_iff.1 h0
    subst this
    exact ⟨none, 0, rfl, Nat.le_refl _, by unfold maxLen; omega, fun h => absurd rfl h⟩
  · refine ⟨_, cap, rfl, hn, hm, fun hne => ⟨g, 0, rfl, (Array.getElem?_eq_some_iff.1 hg).1, fun i hi => ?_⟩⟩
    have hc : ∀ j, j < 8 → w.cell? ⟨g, 0 + i * 8 + j, none⟩ = (encV (atV L i))[j]? := by
      intro j hj
      rw [← flatV_get L i (by rw [h1.1]; exact hi) j hj, Nat.zero_add]
      exact h2.cellAt (i * 8 + j) (by omega)
    exact ⟨hc 0 (by omega), hc 1 (by omega), hc 2 (by omega), hc 3 (by omega), hc 4 (by omega), hc 5 (by omega), hc 6 (by omega), hc 7 (by omega)⟩
theorem OwnF.blkOf {w0 w : World} {base : Nat} {v : Value} {P : List Sl} (h : OwnF w0 w base v P) : ∀ b, blkOf v = some b → base ≤ b ∧ b < w.heap.size := by
  obtain ⟨L, h1, h4⟩ := h
  intro b hb
  rcases id h4.2 with ⟨rfl, h0⟩ | ⟨g, cap, cur, rfl, hbb, hg, hn, hm, hsz, htk⟩
  · cases hb
  · injection hb with hb
    subst hb
    exact h4.lt g rfl
/-- A pool comes out of a call: as it went in, or made anew; nothing that was there has turned. -/
structure SlOut (w0 w w' : World) (v v' : Value) (P' : List Sl) : Prop where
  sl : SlF w0 w' v' P'
  blk : ∀ b, blkOf v' = some b → v' = v ∨ w.heap.size ≤ b
  bel : Below w.heap.size w w'
theorem SlF.any {w0 w : World} {v : Value} {P : List Sl} (h : SlF w0 w v P) : ∃ L, AllSl w0 L P ∧ IsAny encV 8 w v L := by
  obtain ⟨L, h0, a, cap, rfl, h2, h3, h4⟩ := h
  refine ⟨L, h0, a, cap, by rw [h0.1], fun hne => ?_⟩
  obtain ⟨b, off, rfl, hlt, hc⟩ := h4 (by intro e; apply hne; apply List.length_eq_zero_iff.1; rw [h0.1, e]; rfl)
  refine ⟨b, off, rfl, fun i hi j u hu => ?_⟩
  have := hc i (by rw [← h0.1]; exact hi)
  have e : L[i] = atV L i := by simp [atV, hi]
  rw [e] at hu
  obtain ⟨c0, c1, c2, c3, c4, c5, c6, c7⟩ := this
  match j, hu with
  | 0, hu => exact c0.trans hu
  | 1, hu => exact c1.trans hu
  | 2, hu => exact c2.trans hu
  | 3, hu => exact c3.trans hu
  | 4, hu => exact c4.trans hu
  | 5, hu => exact c5.trans hu
  | 6, hu => exact c6.trans hu
  | 7, hu => exact c7.trans hu
  | j + 8, hu => simp [encV] at hu
theorem infoSl : (Try.prog.info? 61).map (fun i => (i.zero, i.size, i.bytes)) = some (some (.agg #[.bool false, .bool false, .int .i64 0, .slice none 0 0, .slice none 0 0, .slice none 0 0, .slice none 0 0, .slice none 0 0]), 8, 136) := by kernel_rfl
theorem own_emptySl (W : World) (B : Nat) (hB : B ≤ W.heap.size) : (W.alloc (.cells #[] 61)).ownsRow B 61 8 (.slice (some ⟨W.heap.size, 0, none⟩) 0 0) ([] : List Sv).length (([] : List Sv).flatMap encV) :=
  ⟨rfl, .inr ⟨W.heap.size, 0, #[], rfl, hB, Blk.new _ _ _, Nat.le_refl _, by unfold maxLen; omega, rfl, rfl⟩⟩
/-- A pool: its slots are one field. -/
@[reducible] def poolV (v : Value) : Value := .agg #[v]

end Go.Proofs.Ytlgangcldlphnaa
