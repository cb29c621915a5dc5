/-
  Walks: lists of spans, the small loops of the reference over them.
-/
import Derived.Test.YtenhjpopdmiekaaZW2
import Derived.OwnWalk
namespace Go.Proofs.Ytenhjpopdmiekaa
open Go.RowKit Go.Sort
set_option linter.unusedVariables false

theorem cell_lt {w : World} {b o : Nat} {v : Value} (h : w.cell? ⟨b, o, none⟩ = some v) : b < w.heap.size := by
  unfold World.cell? at h
  simp only at h
  cases hb : w.heap[b]? with
  | none => rw [hb] at h; cases h
  | some x => rw [Array.getElem?_eq_some_iff] at hb; exact hb.1
theorem Grown.keep2 {W W' : World} {b : Nat} {u v : Value} (hg : Grown W W') (h0 : W.cell? ⟨b, 0, none⟩ = some u) (h1 : W.cell? ⟨b, 1, none⟩ = some v) : W'.cell? ⟨b, 0, none⟩ = some u ∧ W'.cell? ⟨b, 1, none⟩ = some v :=
  have hb := hg.below (B := W.heap.size) (Nat.le_refl _)
  ⟨(hb.cell (p := ⟨b, 0, none⟩) (by exact cell_lt h0)).trans h0, (hb.cell (p := ⟨b, 1, none⟩) (by exact cell_lt h1)).trans h1⟩
theorem Grown.keepS {W W' : World} {b : Nat} {u v : Value} (hg : Grown W W') (h : W.cell? ⟨b, 0, none⟩ = some u ∧ W.cell? ⟨b, 1, none⟩ = some v) : W'.cell? ⟨b, 0, none⟩ = some u ∧ W'.cell? ⟨b, 1, none⟩ = some v := Grown.keep2 hg h.1 h.2
theorem Grown.blk {W W' : World} {b : Nat} {T : TypeId} {cs : Array Value} (hg : Grown W W') (h : Blk W b T cs) : Blk W' b T cs := Blk.below h (hg.below (B := W.heap.size) (Nat.le_refl _)) h.lt
/-- What a block of four cells offers to a store. -/
theorem Blk.four {w : World} {b : Nat} {T : TypeId} {x0 x1 x2 x3 : Value} (h : Blk w b T #[x0, x1, x2, x3]) :
    w.cell? ⟨b, 0, none⟩ = some x0 ∧ w.cell? ⟨b, 1, none⟩ = some x1 ∧ w.cell? ⟨b, 2, none⟩ = some x2 ∧ w.cell? ⟨b, 3, none⟩ = some x3 ∧
    w.frozen? ⟨b, 0, none⟩ = false ∧ w.frozen? ⟨b, 1, none⟩ = false ∧ w.frozen? ⟨b, 2, none⟩ = false ∧ w.frozen? ⟨b, 3, none⟩ = false :=
  ⟨h.c0 0 _ rfl, h.c0 1 _ rfl, h.c0 2 _ rfl, h.c0 3 _ rfl, h.free 0, h.free 1, h.free 2, h.free 3⟩
@[reducible] def st4 (w : World) (b : Nat) (y0 y1 y2 y3 : Value) : World := (((w.setCell ⟨b, 0, none⟩ y0).setCell ⟨b, 1, none⟩ y1).setCell ⟨b, 2, none⟩ y2).setCell ⟨b, 3, none⟩ y3
theorem Blk.set4 {w : World} {b : Nat} {T : TypeId} {x0 x1 x2 x3 : Value} (h : Blk w b T #[x0, x1, x2, x3]) (y0 y1 y2 y3 : Value) : Blk (st4 w b y0 y1 y2 y3) b T #[y0, y1, y2, y3] :=
  (((h.setCell 0 y0).setCell 1 y1).setCell 2 y2).setCell 3 y3
theorem Blk.other4 {w : World} {b c : Nat} {T : TypeId} {cs : Array Value} (h : Blk w b T cs) (hne : b ≠ c) (y0 y1 y2 y3 : Value) : Blk (st4 w c y0 y1 y2 y3) b T cs :=
  (((h.setCell_other hne 0 y0).setCell_other hne 1 y1).setCell_other hne 2 y2).setCell_other hne 3 y3
theorem below4 {B : Nat} {w wx : World} (h : Below B w wx) (b : Nat) (hb : B ≤ b) (y0 y1 y2 y3 : Value) : Below B w (st4 wx b y0 y1 y2 y3) :=
  (((h.setCell hb y0).setCell hb y1).setCell hb y2).setCell hb y3
/-- A slice of spans. -/
def IsSpans (w : World) (v : Value) (l : List Sp) : Prop :=
  ∃ a cap, v = .slice a l.length cap ∧ l.length ≤ cap ∧ cap ≤ maxLen ∧ (l ≠ [] → ∃ b off, a = some ⟨b, off, none⟩ ∧ b < w.heap.size ∧
    ∀ i (h : i < l.length), w.cell? ⟨b, off + i * 2, none⟩ = some (.string (Str l[i].1)) ∧ w.cell? ⟨b, off + i * 2 + 1, none⟩ = some (.string (Str l[i].2)))
/-- A slice of strings. -/
def IsStrs (w : World) (v : Value) (l : List Bs) : Prop :=
  ∃ a cap, v = .slice a l.length cap ∧ l.length ≤ cap ∧ cap ≤ maxLen ∧ (l ≠ [] → ∃ b off, a = some ⟨b, off, none⟩ ∧ b < w.heap.size ∧
    ∀ i (h : i < l.length), w.cell? ⟨b, off + i, none⟩ = some (.string (Str l[i])))
theorem IsSpans.below {w w' : World} {v : Value} {l : List Sp} (h : IsSpans w v l) (hb : Below w.heap.size w w') : IsSpans w' v l := by
  obtain ⟨a, cap, h1, h2, h3, h4⟩ := h
  refine ⟨a, cap, h1, h2, h3, fun hl => ?_⟩
  obtain ⟨b, off, e, hlt, hc⟩ := h4 hl
  exact ⟨b, off, e, Nat.lt_of_lt_of_le hlt hb.size, fun i hi => ⟨by rw [hb.cell (by exact hlt)]; exact (hc i hi).1, by rw [hb.cell (by exact hlt)]; exact (hc i hi).2⟩⟩
theorem IsStrs.below {w w' : World} {v : Value} {l : List Bs} (h : IsStrs w v l) (hb : Below w.heap.size w w') : IsStrs w' v l := by
  obtain ⟨a, cap, h1, h2, h3, h4⟩ := h
  refine ⟨a, cap, h1, h2, h3, fun hl => ?_⟩
  obtain ⟨b, off, e, hlt, hc⟩ := h4 hl
  exact ⟨b, off, e, Nat.lt_of_lt_of_le hlt hb.size, fun i hi => by rw [hb.cell (by exact hlt)]; exact hc i hi⟩
theorem IsSpans.form {w : World} {v : Value} {l : List Sp} (h : IsSpans w v l) : ∃ b off cap a, v = .slice a l.length cap ∧ l.length ≤ cap ∧ cap ≤ maxLen ∧ (l ≠ [] → a = some ⟨b, off, none⟩ ∧ b < w.heap.size) ∧
    ∀ i (h : i < l.length), a = some ⟨b, off, none⟩ ∧ w.cell? ⟨b, off + i * 2, none⟩ = some (.string (Str l[i].1)) ∧ w.cell? ⟨b, off + i * 2 + 1, none⟩ = some (.string (Str l[i].2)) := by
  obtain ⟨a, cap, h1, h2, h3, h4⟩ := h
  by_cases hl : l = []
  · subst hl; exact ⟨0, 0, cap, a, h1, h2, h3, fun h => absurd rfl h, fun i hi => absurd hi (by simp)⟩
  · obtain ⟨b, off, e, hlt, hc⟩ := h4 hl
    exact ⟨b, off, cap, a, h1, h2, h3, fun _ => ⟨e, hlt⟩, fun i hi => ⟨e, hc i hi⟩⟩
theorem IsStrs.form {w : World} {v : Value} {l : List Bs} (h : IsStrs w v l) : ∃ b off cap a, v = .slice a l.length cap ∧ l.length ≤ cap ∧ cap ≤ maxLen ∧ (l ≠ [] → a = some ⟨b, off, none⟩ ∧ b < w.heap.size) ∧
    ∀ i (h : i < l.length), a = some ⟨b, off, none⟩ ∧ w.cell? ⟨b, off + i, none⟩ = some (.string (Str l[i])) := by
  obtain ⟨a, cap, h1, h2, h3, h4⟩ := h
  by_cases hl : l = []
  · subst hl; exact ⟨0, 0, cap, a, h1, h2, h3, fun h => absurd rfl h, fun i hi => absurd hi (by simp)⟩
  · obtain ⟨b, off, e, hlt, hc⟩ := h4 hl
    exact ⟨b, off, cap, a, h1, h2, h3, fun _ => ⟨e, hlt⟩, fun i hi => ⟨e, hc i hi⟩⟩

/-- Flat cells. -/
theorem flatS_get (l : List Sp) (i : Nat) (h : i < l.length) : (l.flatMap encS)[i * 2]? = some (.string (Str l[i].1)) ∧ (l.flatMap encS)[i * 2 + 1]? = some (.string (Str l[i].2)) := by
  induction l generalizing i with
  | nil => simp at h
  | cons s l ih =>
    have e : (s :: l).flatMap encS = .string (Str s.1) :: .string (Str s.2) :: l.flatMap encS := rfl
    rw [e]
    cases i with
    | zero => exact ⟨rfl, rfl⟩
    | succ i =>
      have := ih i (by simpa using h)
      rw [show (i + 1) * 2 = i * 2 + 2 by omega]
      exact this
theorem flatS_len (l : List Sp) : (l.flatMap encS).length = l.length * 2 := by
  induction l with
  | nil => rfl
  | cons s l ih =>
    have e : (s :: l).flatMap encS = .string (Str s.1) :: .string (Str s.2) :: l.flatMap encS := rfl
    rw [e]; simp [ih]; omega
theorem IsSpans.owned {w : World} {base : Nat} {v : Value} {n : Nat} {l : List Sp} (h : w.ownsRow base 29 2 v n (l.flatMap encS)) : IsSpans w v l := by
  have hlen := h.1
  rw [flatS_len] at hlen
  obtain rfl : n = l.length := by omega
  rcases h.2 with ⟨rfl, h0⟩ | ⟨g, cap, cur, rfl, hb, hg, hn, hm, hsz, htk⟩
  · have : l = [] := List.length_eq_zero_iff.1 h0
    subst this
    exact ⟨none, 0, rfl, Nat.le_refl _, by unfold maxLen; omega, fun h => absurd rfl h⟩
  · refine ⟨_, cap, rfl, hn, hm, fun _ => ⟨g, 0, rfl, by rw [Array.getElem?_eq_some_iff] at hg; exact hg.1, fun i hi => ?_⟩⟩
    have hc : ∀ j, j < l.length * 2 → w.cell? ⟨g, j, none⟩ = (l.flatMap encS)[j]? := by
      intro j hj
      unfold World.cell?
      rw [hg, ← htk, List.getElem?_take, if_pos hj, Array.getElem?_toList]
      rfl
    have hi2 := flatS_get l i hi
    exact ⟨by rw [Nat.zero_add, hc _ (by omega)]; exact hi2.1, by rw [Nat.zero_add, hc _ (by omega)]; exact hi2.2⟩
theorem IsStrs.owned {w : World} {base : Nat} {v : Value} {n : Nat} {l : List Bs} (h : w.ownsRow base 9 1 v n (l.map fun s => .string (Str s))) : IsStrs w v l := by
  have hlen := h.1
  rw [List.length_map] at hlen
  obtain rfl : n = l.length := by omega
  rcases h.2 with ⟨rfl, h0⟩ | ⟨g, cap, cur, rfl, hb, hg, hn, hm, hsz, htk⟩
  · have : l = [] := List.length_eq_zero_iff.1 h0
    subst this
    exact ⟨none, 0, rfl, Nat.le_refl _, by unfold maxLen; omega, fun h => absurd rfl h⟩
  · refine ⟨_, cap, rfl, hn, hm, fun _ => ⟨g, 0, rfl, by rw [Array.getElem?_eq_some_iff] at hg; exact hg.1, fun i hi => ?_⟩⟩
    unfold World.cell?
    simp only
    rw [hg]
    show cur[0 + i]? = _
    rw [Nat.zero_add, ← Array.getElem?_toList]
    have : (cur.toList.take (l.length * 1))[i]? = (l.map fun s => Value.string (Str s))[i]? := by rw [htk]
    rw [List.getElem?_take, if_pos (by omega)] at this
    rw [this]; simp [hi]

/-- Few spans with short ends. -/
def shortB (l : List Sp) (n : Int) : Bool := l.all (fun s => decide (s.1.length ≤ 30) && decide (s.2.length ≤ 30)) && decide ((l.length : Int) ≤ n)
theorem shortB_bad {l : List Sp} {n : Int} {i : Nat} (h : i < l.length) (hb : (30 : Int) < (l[i].1.length : Int) ∨ (30 : Int) < (l[i].2.length : Int)) : shortB l n = false := by
  unfold shortB
  have : l.all (fun s => decide (s.1.length ≤ 30) && decide (s.2.length ≤ 30)) = false := by
    rw [List.all_eq_false]
    refine ⟨l[i], List.getElem_mem _, ?_⟩
    simp only [Bool.and_eq_true, decide_eq_true_eq]; omega
  rw [this]; rfl
set_option maxHeartbeats 1000000 in
theorem short_w (v : Value) (l : List Sp) (n : Int) (w : World) (h : IsSpans w v l) : Calls Try.prog 8 #[v, .int .i64 n] w fun e w' => e = .returned (.bool (shortB l n)) ∧ w = w' := by
  obtain ⟨b, off, cap, a, rfl, hl, hm, ha, hc⟩ := h.form
  unfold maxLen at hm
  have HA := Lib.hid ha
  have HC := Lib.hid hc
  clear h ha hc
  go_enter Try.func8, Try.ntmps8
  go_wp2
  go_loop [5] (fun i => ∃ k : Nat, k ≤ l.length ∧ i = .int .i64 k ∧ Hid ((l.take k).all (fun s => decide (s.1.length ≤ 30) && decide (s.2.length ≤ 30)) = true)) (fun i => l.length - (intOf i).toNat)
  case atStart => exact ⟨0, Nat.zero_le _, rfl, Lib.hid rfl⟩
  case round =>
    obtain ⟨k, hk, rfl, hall⟩ := hrel
    by_cases hlt : k < l.length
    · obtain ⟨rfl, c0, c1⟩ := HC.out k hlt
      have HB := Lib.hid (fun hb => shortB_bad (n := n) hlt hb)
      have hs : Hid ((l.take (k + 1)) = l.take k ++ [l[k]]) := Lib.hid (by rw [List.take_add_one, List.getElem?_eq_getElem hlt]; rfl)
      generalize hx : l[k] = x at *
      obtain ⟨x1, x2⟩ := x
      by_cases g1 : (30 : Int) < (x1.length : Int)
      · have HB' := Lib.hid (HB.out (.inl g1))
        go_wp2
        go_ret
        exact ⟨ret_bool HB'.out.symm, rfl⟩
      · by_cases g2 : (30 : Int) < (x2.length : Int)
        · have HB' := Lib.hid (HB.out (.inr g2))
          go_wp2
          go_ret
          exact ⟨ret_bool HB'.out.symm, rfl⟩
        · go_wp2
          go_round
          case rel => exact ⟨k + 1, by omega, by go_num, Lib.hid (by
            rw [hs.out, List.all_append, hall.out]
            simp; omega)⟩
          case measure => simp [intOf]; omega
    · have H : Hid (shortB l n = decide ((l.length : Int) ≤ n)) := Lib.hid (by
        unfold shortB
        rw [List.take_of_length_le (by omega)] at hall
        rw [hall.out]; rfl)
      go_wp2
      go_ret
      exact ⟨ret_bool H.out.symm, rfl⟩

end Go.Proofs.Ytenhjpopdmiekaa
