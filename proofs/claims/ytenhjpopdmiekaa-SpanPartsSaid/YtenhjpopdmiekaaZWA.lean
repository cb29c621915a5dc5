/-
  Walks: the fixed examples that every law of package span tries.
-/
import Derived.Test.YtenhjpopdmiekaaZW9
import Derived.Test.YtenhjpopdmiekaaZW3
import Derived.Test.YtenhjpopdmiekaaZW4
namespace Go.Proofs.Ytenhjpopdmiekaa
open Go.RowKit Go.Sort
set_option linter.unusedVariables false

theorem IsSpans.new {n : Nat} (W : World) (l : List Sp) (T : TypeId) (hn : n = W.heap.size) (hl : l.length ≤ 1000) : IsSpans (W.alloc (.cells (l.flatMap encS).toArray T)) (.slice (some ⟨n, 0, none⟩) l.length l.length) l := by
  subst hn
  refine ⟨_, _, rfl, Nat.le_refl _, by unfold maxLen; omega, fun _ => ⟨W.heap.size, 0, rfl, by simp, fun i hi => ?_⟩⟩
  have h := flatS_get l i hi
  constructor
  · rw [Nat.zero_add, World.cell?_alloc_new]; simpa using h.1
  · rw [Nat.zero_add, World.cell?_alloc_new]; simpa using h.2
theorem IsStrs.new {n : Nat} (W : World) (l : List Bs) (T : TypeId) (hn : n = W.heap.size) (hl : l.length ≤ 1000) : IsStrs (W.alloc (.cells (l.map fun s => Value.string (Str s)).toArray T)) (.slice (some ⟨n, 0, none⟩) l.length l.length) l := by
  subst hn
  refine ⟨_, _, rfl, Nat.le_refl _, by unfold maxLen; omega, fun _ => ⟨W.heap.size, 0, rfl, by simp, fun i hi => ?_⟩⟩
  rw [Nat.zero_add, World.cell?_alloc_new]; simp [hi]
theorem sc_prefix0 (w : World) : Calls Try.prog 11 #[.string (Str [97, 47])] w fun e w' => e = .returned (.agg #[.string (Str [97, 47]), .string (Str [97, 48])]) ∧ Grown w w' := by
  have h := prefix_w [97, 47] w (by simp)
  rw [show preT [97, 47] = [97, 48] from by decide +kernel] at h
  exact h
theorem sc_prefix1 (w : World) : Calls Try.prog 11 #[.string (Str [97, 255])] w fun e w' => e = .returned (.agg #[.string (Str [97, 255]), .string (Str [98])]) ∧ Grown w w' := by
  have h := prefix_w [97, 255] w (by simp)
  rw [show preT [97, 255] = [98] from by decide +kernel] at h
  exact h
theorem sc_prefix2 (w : World) : Calls Try.prog 11 #[.string (Str [])] w fun e w' => e = .returned (.agg #[.string (Str []), .string (Str [])]) ∧ Grown w w' := by
  have h := prefix_w [] w (by simp)
  rw [show preT [] = [] from by decide +kernel] at h
  exact h
theorem sc_prefix3 (w : World) : Calls Try.prog 11 #[.string (Str [255])] w fun e w' => e = .returned (.agg #[.string (Str [255]), .string (Str [])]) ∧ Grown w w' := by
  have h := prefix_w [255] w (by simp)
  rw [show preT [255] = [] from by decide +kernel] at h
  exact h
theorem sc_one (w : World) : Calls Try.prog 13 #[.string (Str [107])] w fun e w' => e = .returned (.agg #[.string (Str [107]), .string (Str [107, 0])]) ∧ Grown w w' := one_w [107] w (by simp)
theorem sc_meet0 (w : World) : Calls Try.prog 21 #[.agg #[.string (Str [97]), .string (Str [99])], .agg #[.string (Str [98]), .string (Str [])]] w fun e w' => e = .returned (.agg #[.string (Str [98]), .string (Str [99])]) ∧ Grown w w' := by
  have h := meet_w ([97], [99]) ([98], []) w
  rw [show meetS ([97], [99]) ([98], []) = ([98], [99]) from by decide +kernel] at h
  exact h
theorem sc_meet1 (w : World) : Calls Try.prog 21 #[.agg #[.string (Str [97]), .string (Str [98])], .agg #[.string (Str [98]), .string (Str [99])]] w fun e w' => e = .returned (.agg #[.string (Str [97]), .string (Str [97])]) ∧ Grown w w' := by
  have h := meet_w ([97], [98]) ([98], [99]) w
  rw [show meetS ([97], [98]) ([98], [99]) = ([97], [97]) from by decide +kernel] at h
  exact h
theorem sc_covers0 (w : World) : Calls Try.prog 23 #[.agg #[.string (Str [97]), .string (Str [])], .agg #[.string (Str [98]), .string (Str [99])]] w fun e w' => e = .returned (.bool true) ∧ Grown w w' := by
  have h := covers_w ([97], []) ([98], [99]) w
  rw [show coversB ([97], []) ([98], [99]) = true from by decide +kernel] at h
  exact h
theorem sc_covers1 (w : World) : Calls Try.prog 23 #[.agg #[.string (Str [97]), .string (Str [99])], .agg #[.string (Str [98]), .string (Str [])]] w fun e w' => e = .returned (.bool false) ∧ Grown w w' := by
  have h := covers_w ([97], [99]) ([98], []) w
  rw [show coversB ([97], [99]) ([98], []) = false from by decide +kernel] at h
  exact h
theorem sc_covers2 (w : World) : Calls Try.prog 23 #[.agg #[.string (Str [120]), .string (Str [120])], .agg #[.string (Str [98]), .string (Str [97])]] w fun e w' => e = .returned (.bool true) ∧ Grown w w' := by
  have h := covers_w ([120], [120]) ([98], [97]) w
  rw [show coversB ([120], [120]) ([98], [97]) = true from by decide +kernel] at h
  exact h
theorem sc_moved0 (w : World) : Calls Try.prog 9 #[.string (Str [97, 47, 120]), .string (Str [97, 47]), .string (Str [98, 47])] w fun e w' => e = .returned (.tuple #[.string (Str [98, 47, 120]), .bool true]) ∧ Grown w w' :=
  moved_w [97, 47, 120] [97, 47] [98, 47] w (by simp) (by simp)
theorem sc_moved1 (w : World) : Calls Try.prog 9 #[.string (Str [99]), .string (Str [97, 47]), .string (Str [98, 47])] w fun e w' => e = .returned (.tuple #[.string (Str []), .bool false]) ∧ Grown w w' :=
  moved_w [99] [97, 47] [98, 47] w (by simp) (by simp)
theorem sc_has0 (w : World) : Calls Try.prog 17 #[.agg #[.string (Str [97]), .string (Str [98])], .string (Str [97])] w fun e w' => e = .returned (.bool true) ∧ Grown w w' := has_w [97] [98] [97] w
theorem sc_has1 (w : World) : Calls Try.prog 17 #[.agg #[.string (Str [97]), .string (Str [98])], .string (Str [98])] w fun e w' => e = .returned (.bool false) ∧ Grown w w' := has_w [97] [98] [98] w
theorem sc_empty0 (w : World) : Calls Try.prog 19 #[.agg #[.string (Str [98]), .string (Str [98])]] w fun e w' => e = .returned (.bool true) ∧ Grown w w' := by
  have h := empty_w [98] [98] w
  rw [show emptyB ([98], [98]) = true from by decide +kernel] at h
  exact h
theorem sc_empty1 (w : World) : Calls Try.prog 19 #[.agg #[.string (Str [98]), .string (Str [])]] w fun e w' => e = .returned (.bool false) ∧ Grown w w' := by
  have h := empty_w [98] [] w
  rw [show emptyB ([98], []) = false from by decide +kernel] at h
  exact h
theorem sc_norm {n : Nat} (W : World) (hn : n = W.heap.size) : Calls Try.prog 28 #[.slice (some ⟨n, 0, none⟩) 3 3] (W.alloc (.cells #[.string (Str [99]), .string (Str [100]), .string (Str [97]), .string (Str [99]), .string (Str [120]), .string (Str [98])] 29)) fun e w' => ∃ v, e = .returned v ∧ IsSpans w' v [([97], [100])] ∧ Below (W.alloc (.cells #[.string (Str [99]), .string (Str [100]), .string (Str [97]), .string (Str [99]), .string (Str [120]), .string (Str [98])] 29)).heap.size (W.alloc (.cells #[.string (Str [99]), .string (Str [100]), .string (Str [97]), .string (Str [99]), .string (Str [120]), .string (Str [98])] 29)) w' := by
  have h := norm_w _ _ _ (IsSpans.new W [([99], [100]), ([97], [99]), ([120], [98])] 29 hn (by simp)) (by simp)
  refine h.mono fun e w' ⟨v, he, ho, hb⟩ => ⟨v, he, ?_, hb⟩
  rw [show normS [([99], [100]), ([97], [99]), ([120], [98])] = [([97], [100])] from by decide +kernel] at ho
  exact IsSpans.owned ho
theorem sc_minus {v0 v1 : Value} (W : World) (h0 : IsSpans W v0 [([], [])]) (h1 : IsSpans W v1 [([98], [99])]) : Calls Try.prog 30 #[v0, v1] W fun e w' => ∃ v, e = .returned v ∧ IsSpans w' v [([], [98]), ([99], [])] ∧ Below W.heap.size W w' := by
  have h := minus_w _ _ _ _ _ h0 h1 (by simp) (by simp)
  refine h.mono fun e w' ⟨v, he, ho, hb⟩ => ⟨v, he, ?_, hb⟩
  rw [show minusS [([], [])] [([98], [99])] = [([], [98]), ([99], [])] from by decide +kernel] at ho
  exact IsSpans.owned ho
theorem sc_parts {n : Nat} (W : World) (hn : n = W.heap.size) : Calls Try.prog 26 #[.agg #[.string (Str [98]), .string (Str [100])], .slice (some ⟨n, 0, none⟩) 2 2] (W.alloc (.cells #[.string (Str [99]), .string (Str [101])] 9)) fun e w' => ∃ v, e = .returned v ∧ IsSpans w' v [([98], [99]), ([99], [100]), ([97], [97])] ∧ Below (W.alloc (.cells #[.string (Str [99]), .string (Str [101])] 9)).heap.size (W.alloc (.cells #[.string (Str [99]), .string (Str [101])] 9)) w' := by
  have h := parts_w [98] [100] _ _ _ (IsStrs.new W [[99], [101]] 9 hn (by simp)) (by simp)
  refine h.mono fun e w' ⟨v, he, ho, hb⟩ => ⟨v, he, ?_, hb⟩
  rw [show partsF ([98], [100]) [] [[99], [101]] = [([98], [99]), ([99], [100]), ([97], [97])] from by decide +kernel] at ho
  exact IsSpans.owned ho
theorem sc_same {v0 v1 : Value} (a : List Sp) (W : World) (h0 : IsSpans W v0 a) (h1 : IsSpans W v1 a) : Calls Try.prog 25 #[v0, v1] W fun e w' => e = .returned (.bool true) ∧ Grown W w' := by
  have h := same_w _ _ _ _ _ h0 h1
  rw [show decide (a = a) = true from by simp] at h
  exact h
theorem keepA {W w1 : World} (hg : Grown (W.alloc (.cells #[.string (Str []), .string (Str [])] 29)) w1) : IsSpans w1 (.slice (some ⟨W.heap.size, 0, none⟩) 1 1) [([], [])] :=
  IsSpans.below (IsSpans.new W [([], [])] 29 rfl (by simp)) (hg.below (Nat.le_refl _))
set_option maxRecDepth 100000 in
set_option maxHeartbeats 2000000 in
theorem sanity_w (w : World) : Calls Try.prog 7 #[] w fun e w' => e = .returned (.bool true) ∧ Below w.heap.size w w' := by
  have HB : Hid (Below w.heap.size w w) := Lib.hid (Below.refl _ _)
  go_enter Try.func7, Try.ntmps7
  go_wp2_with (first
    | (go_at_call_of 11 (Value.string ⟨#[97, 47]⟩); refine (sc_prefix0 _).mono ?_; rintro e w1 ⟨rfl, hg⟩; replace HB := Lib.hid (Below.next (by repeat (first | with_reducible exact HB.out | with_reducible refine Below.alloc ?_ ?_ _ | (have h := HB.out.size; omega) | (have h := HB.out.size; simp only [World.size_alloc]; omega))) (Nat.le_refl _) (hg.below (Nat.le_refl _))); clear hg)
    | (go_at_call_of 11 (Value.string ⟨#[97, 255]⟩); refine (sc_prefix1 _).mono ?_; rintro e w1 ⟨rfl, hg⟩; replace HB := Lib.hid (Below.next (by repeat (first | with_reducible exact HB.out | with_reducible refine Below.alloc ?_ ?_ _ | (have h := HB.out.size; omega) | (have h := HB.out.size; simp only [World.size_alloc]; omega))) (Nat.le_refl _) (hg.below (Nat.le_refl _))); clear hg)
    | (go_at_call_of 11 (Value.string ⟨#[]⟩); refine (sc_prefix2 _).mono ?_; rintro e w1 ⟨rfl, hg⟩; replace HB := Lib.hid (Below.next (by repeat (first | with_reducible exact HB.out | with_reducible refine Below.alloc ?_ ?_ _ | (have h := HB.out.size; omega) | (have h := HB.out.size; simp only [World.size_alloc]; omega))) (Nat.le_refl _) (hg.below (Nat.le_refl _))); clear hg)
    | (go_at_call_of 11 (Value.string ⟨#[255]⟩); refine (sc_prefix3 _).mono ?_; rintro e w1 ⟨rfl, hg⟩; replace HB := Lib.hid (Below.next (by repeat (first | with_reducible exact HB.out | with_reducible refine Below.alloc ?_ ?_ _ | (have h := HB.out.size; omega) | (have h := HB.out.size; simp only [World.size_alloc]; omega))) (Nat.le_refl _) (hg.below (Nat.le_refl _))); clear hg)
    | (go_at_call 13; refine (sc_one _).mono ?_; rintro e w1 ⟨rfl, hg⟩; replace HB := Lib.hid (Below.next (by repeat (first | with_reducible exact HB.out | with_reducible refine Below.alloc ?_ ?_ _ | (have h := HB.out.size; omega) | (have h := HB.out.size; simp only [World.size_alloc]; omega))) (Nat.le_refl _) (hg.below (Nat.le_refl _))); clear hg)
    | (go_at_call_of 21 (Value.string (Str [])); refine (sc_meet0 _).mono ?_; rintro e w1 ⟨rfl, hg⟩; replace HB := Lib.hid (Below.next (by repeat (first | with_reducible exact HB.out | with_reducible refine Below.alloc ?_ ?_ _ | (have h := HB.out.size; omega) | (have h := HB.out.size; simp only [World.size_alloc]; omega))) (Nat.le_refl _) (hg.below (Nat.le_refl _))); clear hg)
    | (go_at_call 21; refine (sc_meet1 _).mono ?_; rintro e w1 ⟨rfl, hg⟩; replace HB := Lib.hid (Below.next (by repeat (first | with_reducible exact HB.out | with_reducible refine Below.alloc ?_ ?_ _ | (have h := HB.out.size; omega) | (have h := HB.out.size; simp only [World.size_alloc]; omega))) (Nat.le_refl _) (hg.below (Nat.le_refl _))); clear hg)
    | (go_at_call_of 23 (Value.string (Str [120])); refine (sc_covers2 _).mono ?_; rintro e w1 ⟨rfl, hg⟩; replace HB := Lib.hid (Below.next (by repeat (first | with_reducible exact HB.out | with_reducible refine Below.alloc ?_ ?_ _ | (have h := HB.out.size; omega) | (have h := HB.out.size; simp only [World.size_alloc]; omega))) (Nat.le_refl _) (hg.below (Nat.le_refl _))); clear hg)
    | (go_at_call_of 23 (Value.agg #[Value.string (Str [97]), Value.string (Str [])]); refine (sc_covers0 _).mono ?_; rintro e w1 ⟨rfl, hg⟩; replace HB := Lib.hid (Below.next (by repeat (first | with_reducible exact HB.out | with_reducible refine Below.alloc ?_ ?_ _ | (have h := HB.out.size; omega) | (have h := HB.out.size; simp only [World.size_alloc]; omega))) (Nat.le_refl _) (hg.below (Nat.le_refl _))); clear hg)
    | (go_at_call 23; refine (sc_covers1 _).mono ?_; rintro e w1 ⟨rfl, hg⟩; replace HB := Lib.hid (Below.next (by repeat (first | with_reducible exact HB.out | with_reducible refine Below.alloc ?_ ?_ _ | (have h := HB.out.size; omega) | (have h := HB.out.size; simp only [World.size_alloc]; omega))) (Nat.le_refl _) (hg.below (Nat.le_refl _))); clear hg)
    | (go_at_call 15; refine (sp_w _ _ _).mono ?_; rintro e w1 ⟨rfl, hg⟩; replace HB := Lib.hid (Below.next (by repeat (first | with_reducible exact HB.out | with_reducible refine Below.alloc ?_ ?_ _ | (have h := HB.out.size; omega) | (have h := HB.out.size; simp only [World.size_alloc]; omega))) (Nat.le_refl _) (hg.below (Nat.le_refl _))); clear hg))
  refine (sc_norm _ rfl).mono ?_
  rintro e wn ⟨vN, rfl, hs, hb⟩
  have G := Lib.hid (Below.next (HB.out.alloc HB.out.size (.cells #[.string (Str [99]), .string (Str [100]), .string (Str [97]), .string (Str [99]), .string (Str [120]), .string (Str [98])] 29)) (Nat.le_refl _) hb)
  have HN := Lib.hid hs
  clear HB hs hb
  have HB : Hid (Below wn.heap.size wn wn) := Lib.hid (Below.refl _ _)
  go_wp2_with (first
    | (go_at_call 15; refine (sp_w _ _ _).mono ?_; rintro e w1 ⟨rfl, hg⟩; replace HB := Lib.hid (Below.next (by repeat (first | with_reducible exact HB.out | with_reducible refine Below.alloc ?_ ?_ _ | (have h := HB.out.size; omega) | (have h := HB.out.size; simp only [World.size_alloc]; omega))) (Nat.le_refl _) (hg.below (Nat.le_refl _))); clear hg))
  have isX := IsSpans.below HN.out (HB.out.alloc HB.out.size (.cells #[.string (Str [97]), .string (Str [100])] 29))
  refine (sc_same [([97], [100])] _ isX (IsSpans.new _ [([97], [100])] 29 rfl (by simp))).mono ?_
  rintro e ws ⟨rfl, hg⟩
  have G2 := Lib.hid (Below.next (Below.next G.out (Nat.le_refl _) (HB.out.alloc HB.out.size (.cells #[.string (Str [97]), .string (Str [100])] 29))) (Nat.le_refl _) (hg.below (Nat.le_refl _)))
  clear HB hg isX HN
  replace G := G2
  clear G2
  have HB : Hid (Below ws.heap.size ws ws) := Lib.hid (Below.refl _ _)
  go_wp2_with (go_at_call_of 15 (Value.string ⟨#[]⟩); refine (sp_w _ _ _).mono ?_; rintro e w1 ⟨rfl, hg⟩; replace HB := Lib.hid (Below.next (by repeat (first | with_reducible exact HB.out | with_reducible refine Below.alloc ?_ ?_ _ | (have h := HB.out.size; omega) | (have h := HB.out.size; simp only [World.size_alloc]; omega))) (Nat.le_refl _) (hg.below (Nat.le_refl _))); clear hg)
  refine (sp_w _ _ _).mono ?_
  rintro e wa ⟨rfl, hg⟩
  have isA := Lib.hid (keepA hg)
  have GA := Lib.hid (Below.next (Below.next G.out (Nat.le_refl _) (HB.out.alloc HB.out.size (.cells #[.string (Str []), .string (Str [])] 29))) (Nat.le_refl _) (hg.below (Nat.le_refl _)))
  clear HB hg G
  go_wp2_with fail
  have isX := IsSpans.below isA.out ((Below.refl wa.heap.size wa).alloc (Nat.le_refl _) (.cells #[.string (Str [98]), .string (Str [99])] 29))
  refine (sc_minus _ isX (IsSpans.new _ [([98], [99])] 29 rfl (by simp))).mono ?_
  rintro e wm ⟨vM, rfl, hs, hb⟩
  have G := Lib.hid (Below.next (GA.out.alloc GA.out.size (.cells #[.string (Str [98]), .string (Str [99])] 29)) (Nat.le_refl _) hb)
  have HM := Lib.hid hs
  clear hs hb isX GA isA
  have HB : Hid (Below wm.heap.size wm wm) := Lib.hid (Below.refl _ _)
  go_wp2_with (first
    | (go_at_call 15; refine (sp_w _ _ _).mono ?_; rintro e w1 ⟨rfl, hg⟩; replace HB := Lib.hid (Below.next (by repeat (first | with_reducible exact HB.out | with_reducible refine Below.alloc ?_ ?_ _ | (have h := HB.out.size; omega) | (have h := HB.out.size; simp only [World.size_alloc]; omega))) (Nat.le_refl _) (hg.below (Nat.le_refl _))); clear hg))
  have isX := IsSpans.below HM.out (HB.out.alloc HB.out.size (.cells #[.string (Str []), .string (Str [98]), .string (Str [99]), .string (Str [])] 29))
  refine (sc_same [([], [98]), ([99], [])] _ isX (IsSpans.new _ [([], [98]), ([99], [])] 29 rfl (by simp))).mono ?_
  rintro e ws ⟨rfl, hg⟩
  have G2 := Lib.hid (Below.next (Below.next G.out (Nat.le_refl _) (HB.out.alloc HB.out.size (.cells #[.string (Str []), .string (Str [98]), .string (Str [99]), .string (Str [])] 29))) (Nat.le_refl _) (hg.below (Nat.le_refl _)))
  clear HB hg isX HM
  replace G := G2
  clear G2
  have HB : Hid (Below ws.heap.size ws ws) := Lib.hid (Below.refl _ _)
  go_wp2_with (first
    | (go_at_call_of 9 (Value.string ⟨#[97, 47, 120]⟩); refine (sc_moved0 _).mono ?_; rintro e w1 ⟨rfl, hg⟩; replace HB := Lib.hid (Below.next (by repeat (first | with_reducible exact HB.out | with_reducible refine Below.alloc ?_ ?_ _ | (have h := HB.out.size; omega) | (have h := HB.out.size; simp only [World.size_alloc]; omega))) (Nat.le_refl _) (hg.below (Nat.le_refl _))); clear hg)
    | (go_at_call 9; refine (sc_moved1 _).mono ?_; rintro e w1 ⟨rfl, hg⟩; replace HB := Lib.hid (Below.next (by repeat (first | with_reducible exact HB.out | with_reducible refine Below.alloc ?_ ?_ _ | (have h := HB.out.size; omega) | (have h := HB.out.size; simp only [World.size_alloc]; omega))) (Nat.le_refl _) (hg.below (Nat.le_refl _))); clear hg)
    | (go_at_call 15; refine (sp_w _ _ _).mono ?_; rintro e w1 ⟨rfl, hg⟩; replace HB := Lib.hid (Below.next (by repeat (first | with_reducible exact HB.out | with_reducible refine Below.alloc ?_ ?_ _ | (have h := HB.out.size; omega) | (have h := HB.out.size; simp only [World.size_alloc]; omega))) (Nat.le_refl _) (hg.below (Nat.le_refl _))); clear hg))
  have isP := HB.out
  refine (sc_parts _ rfl).mono ?_
  rintro e wp ⟨vP, rfl, hs, hb⟩
  have G2 := Lib.hid (Below.next (Below.next G.out (Nat.le_refl _) (HB.out.alloc HB.out.size (.cells #[.string (Str [99]), .string (Str [101])] 9))) (Nat.le_refl _) hb)
  have HP := Lib.hid hs
  clear HB hs hb G isP
  have G := G2
  clear G2
  have HB : Hid (Below wp.heap.size wp wp) := Lib.hid (Below.refl _ _)
  go_wp2_with (first
    | (go_at_call 15; refine (sp_w _ _ _).mono ?_; rintro e w1 ⟨rfl, hg⟩; replace HB := Lib.hid (Below.next (by repeat (first | with_reducible exact HB.out | with_reducible refine Below.alloc ?_ ?_ _ | (have h := HB.out.size; omega) | (have h := HB.out.size; simp only [World.size_alloc]; omega))) (Nat.le_refl _) (hg.below (Nat.le_refl _))); clear hg))
  have isX := IsSpans.below HP.out (HB.out.alloc HB.out.size (.cells #[.string (Str [98]), .string (Str [99]), .string (Str [99]), .string (Str [100]), .string (Str [97]), .string (Str [97])] 29))
  refine (sc_same [([98], [99]), ([99], [100]), ([97], [97])] _ isX (IsSpans.new _ [([98], [99]), ([99], [100]), ([97], [97])] 29 rfl (by simp))).mono ?_
  rintro e ws ⟨rfl, hg⟩
  have G2 := Lib.hid (Below.next (Below.next G.out (Nat.le_refl _) (HB.out.alloc HB.out.size (.cells #[.string (Str [98]), .string (Str [99]), .string (Str [99]), .string (Str [100]), .string (Str [97]), .string (Str [97])] 29))) (Nat.le_refl _) (hg.below (Nat.le_refl _)))
  clear HB hg isX HP
  replace G := G2
  clear G2
  have HB : Hid (Below ws.heap.size ws ws) := Lib.hid (Below.refl _ _)
  go_wp2_with (first
    | (go_at_call_of 17 (Value.string ⟨#[97]⟩); refine (sc_has0 _).mono ?_; rintro e w1 ⟨rfl, hg⟩; replace HB := Lib.hid (Below.next (by repeat (first | with_reducible exact HB.out | with_reducible refine Below.alloc ?_ ?_ _ | (have h := HB.out.size; omega) | (have h := HB.out.size; simp only [World.size_alloc]; omega))) (Nat.le_refl _) (hg.below (Nat.le_refl _))); clear hg)
    | (go_at_call 17; refine (sc_has1 _).mono ?_; rintro e w1 ⟨rfl, hg⟩; replace HB := Lib.hid (Below.next (by repeat (first | with_reducible exact HB.out | with_reducible refine Below.alloc ?_ ?_ _ | (have h := HB.out.size; omega) | (have h := HB.out.size; simp only [World.size_alloc]; omega))) (Nat.le_refl _) (hg.below (Nat.le_refl _))); clear hg)
    | (go_at_call_of 19 (Value.string (Str [])); refine (sc_empty1 _).mono ?_; rintro e w1 ⟨rfl, hg⟩; replace HB := Lib.hid (Below.next (by repeat (first | with_reducible exact HB.out | with_reducible refine Below.alloc ?_ ?_ _ | (have h := HB.out.size; omega) | (have h := HB.out.size; simp only [World.size_alloc]; omega))) (Nat.le_refl _) (hg.below (Nat.le_refl _))); clear hg)
    | (go_at_call 19; refine (sc_empty0 _).mono ?_; rintro e w1 ⟨rfl, hg⟩; replace HB := Lib.hid (Below.next (by repeat (first | with_reducible exact HB.out | with_reducible refine Below.alloc ?_ ?_ _ | (have h := HB.out.size; omega) | (have h := HB.out.size; simp only [World.size_alloc]; omega))) (Nat.le_refl _) (hg.below (Nat.le_refl _))); clear hg)
    | (go_at_call 15; refine (sp_w _ _ _).mono ?_; rintro e w1 ⟨rfl, hg⟩; replace HB := Lib.hid (Below.next (by repeat (first | with_reducible exact HB.out | with_reducible refine Below.alloc ?_ ?_ _ | (have h := HB.out.size; omega) | (have h := HB.out.size; simp only [World.size_alloc]; omega))) (Nat.le_refl _) (hg.below (Nat.le_refl _))); clear hg))
  go_ret
  exact ⟨rfl, Below.next G.out (Nat.le_refl _) HB.out⟩

end Go.Proofs.Ytenhjpopdmiekaa
