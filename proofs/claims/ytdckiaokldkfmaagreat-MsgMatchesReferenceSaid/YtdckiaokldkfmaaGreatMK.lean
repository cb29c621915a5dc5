/-
  Walks: the fields of a kind, as pointers.
-/
import Derived.Test.YtdckiaokldkfmaaGreatMC
namespace Go.Proofs.YtdckiaokldkfmaaGreat
open Go.RowKit Go.Sort
set_option linter.unusedVariables false

/-- A slice of pointers into block b. -/
def IsPtrs (w : World) (v : Value) (b : Nat) (os : List Nat) : Prop :=
  ∃ p cap, v = .slice p os.length cap ∧ os.length ≤ cap ∧ cap ≤ 100 ∧ (os ≠ [] → ∃ g T, p = some ⟨g, 0, none⟩ ∧ g ≠ b ∧ (T ≠ 5 ∧ T ≠ 100) ∧ Blk w g T (os.map fun o => Value.pointer (some ⟨b, o, none⟩)).toArray)
theorem IsPtrs.nil (w : World) (b : Nat) : IsPtrs w (.slice none 0 0) b [] := ⟨none, 0, rfl, Nat.le_refl _, by omega, fun h => absurd rfl h⟩
theorem IsPtrs.keep {w w' : World} {v : Value} {b : Nat} {os : List Nat} (h : IsPtrs w v b os) (hk : ∀ g T cs, g ≠ b → (T ≠ 5 ∧ T ≠ 100) → Blk w g T cs → Blk w' g T cs) : IsPtrs w' v b os := by
  obtain ⟨p, cap, h1, h2, h3, h4⟩ := h
  refine ⟨p, cap, h1, h2, h3, fun hl => ?_⟩
  obtain ⟨g, T, e, hne, hT, hc⟩ := h4 hl
  exact ⟨g, T, e, hne, hT, hk g T _ hne hT hc⟩
theorem IsPtrs.below {w w' : World} {v : Value} {b : Nat} {os : List Nat} (h : IsPtrs w v b os) (hb : Below w.heap.size w w') : IsPtrs w' v b os := h.keep fun g T cs _ _ hc => hc.below hb hc.lt
theorem IsPtrs.setCell {w : World} {v : Value} {b : Nat} {os : List Nat} (h : IsPtrs w v b os) (o : Nat) (x : Value) : IsPtrs (w.setCell ⟨b, o, none⟩ x) v b os := h.keep fun g T cs hne _ hc => hc.setCell_other hne o x
theorem IsPtrs.form {w : World} {v : Value} {b : Nat} {os : List Nat} (h : IsPtrs w v b os) : ∃ p cap g, v = .slice p os.length cap ∧ os.length ≤ cap ∧ cap ≤ 100 ∧
    ∀ i (h : i < os.length), p = some ⟨g, 0, none⟩ ∧ g ≠ b ∧ g < w.heap.size ∧ w.cell? ⟨g, i, none⟩ = some (.pointer (some ⟨b, os[i], none⟩)) := by
  obtain ⟨p, cap, h1, h2, h3, h4⟩ := h
  by_cases hl : os = []
  · subst hl; exact ⟨p, cap, 0, h1, h2, h3, fun i hi => absurd hi (by simp)⟩
  · obtain ⟨g, T, e, hne, hT, hc⟩ := h4 hl
    exact ⟨p, cap, g, h1, h2, h3, fun i hi => ⟨e, hne, hc.lt, by rw [hc.cell]; simp [hi]⟩⟩
theorem ptrs_blk {w : World} {b g : Nat} {T : TypeId} (os : List Nat) (h : Blk w g T (os.map fun o => Value.pointer (some ⟨b, o, none⟩)).toArray) (hT : T ≠ 5 ∧ T ≠ 100) (hne : g ≠ b) (hl : os.length ≤ 100) : IsPtrs w (.slice (some ⟨g, 0, none⟩) os.length os.length) b os :=
  ⟨_, _, rfl, Nat.le_refl _, hl, fun _ => ⟨g, T, rfl, hne, hT, h⟩⟩
def tOff (k : Int) : List Nat := if k = 1 then [1, 2] else if k = 2 then [1] else if k = 3 then [3, 4] else if k = 4 then [5, 6] else if k = 5 then [5, 6] else if k = 6 then [3, 4] else []
def nOff (k : Int) : List Nat := if k = 1 then [7] else if k = 6 then [7] else []
def FieldsOut (w : World) (b : Nat) (ts ns : List Nat) (e : Ending) (w' : World) : Prop := ∃ v1 v2, e = .returned (.tuple #[v1, v2]) ∧ IsPtrs w' v1 b ts ∧ IsPtrs w' v2 b ns ∧ Grown w w'

theorem ptrs1 {w : World} {b n : Nat} {T : TypeId} (o : Nat) (hn : n = w.heap.size) (hb : b < n) (hT : T ≠ 5 ∧ T ≠ 100 := by decide) : IsPtrs (w.alloc (.cells #[.pointer (some ⟨b, o, none⟩)] T)) (.slice (some ⟨n, 0, none⟩) 1 1) b [o] := by
  subst hn; exact ptrs_blk [o] (Blk.new w T _) hT (by omega) (by simp)
theorem ptrs2 {w : World} {b n : Nat} {T : TypeId} (o q : Nat) (hn : n = w.heap.size) (hb : b < n) (hT : T ≠ 5 ∧ T ≠ 100 := by decide) : IsPtrs (w.alloc (.cells #[.pointer (some ⟨b, o, none⟩), .pointer (some ⟨b, q, none⟩)] T)) (.slice (some ⟨n, 0, none⟩) 2 2) b [o, q] := by
  subst hn; exact ptrs_blk [o, q] (Blk.new w T _) hT (by omega) (by simp)
theorem IsPtrs.alloc {w : World} {v : Value} {b : Nat} {os : List Nat} (h : IsPtrs w v b os) (o : Obj) : IsPtrs (w.alloc o) v b os := h.below (below_box _)
theorem IsPtrs.drew {w : World} {v : Value} {b : Nat} {os : List Nat} (h : IsPtrs w v b os) : IsPtrs w.drew v b os := h.below (below_drewN w 1)

set_option maxRecDepth 100000 in
set_option maxHeartbeats 2000000 in
theorem fields_put (b : Nat) (w : World) (hb : b < w.heap.size) : Calls Tryz.prog 100 #[ptrV b] w (FieldsOut w b [1, 2] [7]) := by
  go_enter Tryz.func100, Tryz.ntmps100
  go_wp2
  go_region
  all_goals go_wp2
  all_goals
    go_ret2
    refine ⟨_, _, rfl, ?_, ?_, ?_⟩
    · first
        | exact (ptrs2 1 2 rfl hb).alloc _
        | exact ptrs2 1 2 (World.size_alloc _ _).symm (Nat.lt_succ_of_lt hb)
    · first
        | exact (ptrs1 7 rfl hb).alloc _
        | exact ptrs1 7 (World.size_alloc _ _).symm (Nat.lt_succ_of_lt hb)
    · repeat (first | exact Grown.refl _ | refine Grown.alloc ?_ _ | refine Grown.draw ?_)
set_option maxRecDepth 100000 in
set_option maxHeartbeats 2000000 in
theorem fields_del (b : Nat) (w : World) (hb : b < w.heap.size) : Calls Tryz.prog 116 #[ptrV b] w (FieldsOut w b [1] []) := by
  go_enter Tryz.func116, Tryz.ntmps116
  go_wp2
  go_ret2
  exact ⟨_, _, rfl, ptrs1 1 rfl hb, IsPtrs.nil _ _, (Grown.refl w).alloc _⟩
set_option maxRecDepth 100000 in
set_option maxHeartbeats 2000000 in
theorem fields_drop (b : Nat) (w : World) (hb : b < w.heap.size) : Calls Tryz.prog 124 #[ptrV b] w (FieldsOut w b [3, 4] []) := by
  go_enter Tryz.func124, Tryz.ntmps124
  go_wp2
  go_region
  all_goals go_wp2
  all_goals
    go_ret2
    refine ⟨_, _, rfl, ptrs2 3 4 rfl (by simpa using hb), IsPtrs.nil _ _, ?_⟩
    repeat (first | exact Grown.refl _ | refine Grown.alloc ?_ _ | refine Grown.draw ?_)
set_option maxRecDepth 100000 in
set_option maxHeartbeats 2000000 in
theorem fields_clone (b : Nat) (w : World) (hb : b < w.heap.size) : Calls Tryz.prog 138 #[ptrV b] w (FieldsOut w b [5, 6] []) := by
  go_enter Tryz.func138, Tryz.ntmps138
  go_wp2
  go_region
  all_goals go_wp2
  all_goals
    go_ret2
    refine ⟨_, _, rfl, ptrs2 5 6 rfl (by simpa using hb), IsPtrs.nil _ _, ?_⟩
    repeat (first | exact Grown.refl _ | refine Grown.alloc ?_ _ | refine Grown.draw ?_)
set_option maxHeartbeats 1000000 in
theorem fields_move (b : Nat) (w : World) (hb : b < w.heap.size) : Calls Tryz.prog 131 #[ptrV b] w (FieldsOut w b [5, 6] []) := by
  have H := Lib.hid (fields_clone b w hb)
  clear hb
  go_enter Tryz.func131, Tryz.ntmps131
  go_wp2_with fail
  refine H.out.mono ?_
  intro e w2 h2
  have H2 := Lib.hid h2
  obtain ⟨v1, v2, rfl, -⟩ := h2
  go_wp2
  go_ret2
  exact H2.out
set_option maxRecDepth 100000 in
set_option maxHeartbeats 2000000 in
theorem fields_stamp (b : Nat) (w : World) (hb : b < w.heap.size) : Calls Tryz.prog 153 #[ptrV b] w (FieldsOut w b [3, 4] [7]) := by
  go_enter Tryz.func153, Tryz.ntmps153
  go_wp2
  go_region
  all_goals go_wp2
  all_goals
    go_ret2
    refine ⟨_, _, rfl, ?_, ?_, ?_⟩
    · first
        | exact (ptrs2 3 4 rfl hb).alloc _
        | exact ptrs2 3 4 (World.size_alloc _ _).symm (Nat.lt_succ_of_lt hb)
    · first
        | exact (ptrs1 7 rfl hb).alloc _
        | exact ptrs1 7 (World.size_alloc _ _).symm (Nat.lt_succ_of_lt hb)
    · repeat (first | exact Grown.refl _ | refine Grown.alloc ?_ _ | refine Grown.draw ?_)
theorem fields_none (b : Nat) (w : World) : Calls Tryz.prog 160 #[ptrV b] w (FieldsOut w b [] []) := by
  go_enter Tryz.func160, Tryz.ntmps160
  go_wp2
  go_ret2
  exact ⟨_, _, rfl, IsPtrs.nil _ _, IsPtrs.nil _ _, Grown.refl _⟩
theorem fieldsF_w (k : Int) (b : Nat) (w : World) (hb : b < w.heap.size) : Calls Tryz.prog (fieldsF k) #[ptrV b] w (FieldsOut w b (tOff k) (nOff k)) := by
  unfold fieldsF pickF tOff nOff
  by_cases h1 : k = 1
  · simp only [h1]; exact fields_put b w hb
  by_cases h2 : k = 2
  · simp only [h2]; exact fields_del b w hb
  by_cases h3 : k = 3
  · simp only [h3]; exact fields_drop b w hb
  by_cases h4 : k = 4
  · simp only [h4]; exact fields_move b w hb
  by_cases h5 : k = 5
  · simp only [h5]; exact fields_clone b w hb
  by_cases h6 : k = 6
  · simp only [h6]; exact fields_stamp b w hb
  simp only [h1, h2, h3, h4, h5, h6, if_false]
  exact fields_none b w

end Go.Proofs.YtdckiaokldkfmaaGreat
