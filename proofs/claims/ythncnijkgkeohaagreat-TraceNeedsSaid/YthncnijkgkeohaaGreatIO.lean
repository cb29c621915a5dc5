/-
  Plain facts for the law TraceNeeds: a table that has another one's pairs in some spans.
-/
import Derived.Test.YthncnijkgkeohaaGreatIN
namespace Go.Proofs.YthncnijkgkeohaaGreat
open Go.RowKit Go.Sort
set_option linter.unusedVariables false

def mixY (X Y0 : List Pr) (R : List Sp) (i : Nat) : List Pr := (R.take i).foldl (fun y b => unionS (dropS b y) (rangeS b X)) Y0
theorem mix_succ (X Y0 : List Pr) (R : List Sp) (i : Nat) (h : i < R.length) : mixY X Y0 R (i + 1) = unionS (dropS R[i] (mixY X Y0 R i)) (rangeS R[i] X) := by
  unfold mixY
  rw [List.take_succ_eq_append_getElem h, List.foldl_append]
  rfl
theorem mix_over (X Y0 : List Pr) (R : List Sp) (i : Nat) (h : ¬ i < R.length) : mixY X Y0 R (i + 1) = mixY X Y0 R i := by
  unfold mixY
  rw [List.take_of_length_le (by omega), List.take_of_length_le (by omega)]
theorem srt_mix {X Y0 : List Pr} (hX : Srt X) (hY : Srt Y0) (R : List Sp) : ∀ i, Srt (mixY X Y0 R i)
  | 0 => hY
  | i + 1 => by
    by_cases h : i < R.length
    · rw [mix_succ X Y0 R i h]; exact srt_union (srt_drop _ (srt_mix hX hY R i)) _
    · rw [mix_over X Y0 R i h]; exact srt_mix hX hY R i
theorem mem_mix {X Y0 : List Pr} (hX : Srt X) (R : List Sp) : ∀ i, ∀ x ∈ mixY X Y0 R i, x ∈ X ∨ x ∈ Y0
  | 0 => fun x hx => .inr hx
  | i + 1 => fun x hx => by
    by_cases h : i < R.length
    · rw [mix_succ X Y0 R i h, mem_union _ (srt_range _ hX)] at hx
      rcases hx with hx | ⟨hx, -⟩
      · exact .inl ((mem_range _ _ _).1 hx).1
      · exact mem_mix hX R i x ((mem_drop _ _ _).1 hx).1
    · rw [mix_over X Y0 R i h] at hx; exact mem_mix hX R i x hx
theorem find_mix {X Y0 : List Pr} (hX : Srt X) (hY : Srt Y0) (R : List Sp) (k : Bs) : ∀ i, findS k (mixY X Y0 R i) = if inB (R.take i) k then findS k X else findS k Y0
  | 0 => rfl
  | i + 1 => by
    by_cases h : i < R.length
    · have ih := find_mix hX hY R k i
      have hs := srt_mix hX hY R i
      rw [mix_succ X Y0 R i h, inB_take R k i h]
      have hu := srt_union (srt_drop R[i] hs) (rangeS R[i] X)
      cases hb : hasB R[i] k with
      | true =>
        rw [Bool.or_true, if_pos rfl]
        refine find_of hu hX k fun x hx => ?_
        rw [mem_union _ (srt_range _ hX), mem_range, mem_drop, hx, hb]
        simp
      | false =>
        rw [Bool.or_false, ← ih]
        refine find_of hu hs k fun x hx => ?_
        rw [mem_union _ (srt_range _ hX), mem_range, mem_drop, hx, hb]
        constructor
        · rintro (⟨-, h⟩ | ⟨⟨h, -⟩, -⟩)
          · cases h
          · exact h
        · intro h
          refine .inr ⟨⟨h, rfl⟩, fun y hy e => ?_⟩
          have := ((mem_range _ _ _).1 hy).2
          rw [e, hb] at this; cases this
    · rw [mix_over X Y0 R i h, find_mix hX hY R k i, List.take_of_length_le (by omega), List.take_of_length_le (by omega)]
/-- P7.3. -/
theorem needs_law {s : Sp} {ms : List Ms} (hv : ∀ m ∈ ms, validM m = true) {X Y : List Pr} (hX : Srt X) (hY : Srt Y) (h : ∀ j, InL (spansF s ms) j → findS j X = findS j Y) : rangeS s (allS ms X) = rangeS s (allS ms Y) := by
  have hf : ∀ k, hasB s k = true → findS k (allS ms X) = findS k (allS ms Y) := by
    intro k hk
    have e : readF (keyF k ms) X = readF (keyF k ms) Y := by
      cases hn : (keyF k ms).known with
      | true => exact readF_known hn _ _
      | false => exact readF_of hn (h _ ((spans_in s hv _).2 ⟨k, (hasB_iff _ _).1 hk, (key_from ms k hn).1⟩))
    rw [key_read k hv hX, key_read k hv hY] at e
    injection e with e1 e2
    cases ex : findS k (allS ms X) <;> cases ey : findS k (allS ms Y) <;> rw [ex, ey] at e1 e2
    · cases e2
    · cases e2
    · exact congrArg some e1
  have aX := srt_all ms hX
  have aY := srt_all ms hY
  refine Srt.unique (srt_range _ aX) (srt_range _ aY) fun x => ?_
  rw [mem_range, mem_range]
  constructor
  · rintro ⟨h1, h2⟩
    refine ⟨?_, h2⟩
    have := (find_some aX x.1 x).2 ⟨h1, rfl⟩
    rw [hf x.1 h2] at this
    exact ((find_some aY _ _).1 this).1
  · rintro ⟨h1, h2⟩
    refine ⟨?_, h2⟩
    have := (find_some aY x.1 x).2 ⟨h1, rfl⟩
    rw [← hf x.1 h2] at this
    exact ((find_some aX _ _).1 this).1
theorem needs_mix {s : Sp} {ms : List Ms} (hv : ∀ m ∈ ms, validM m = true) {X Y0 : List Pr} (hX : Srt X) (hY : Srt Y0) : rangeS s (allS ms X) = rangeS s (allS ms (mixY X Y0 (spansF s ms) (spansF s ms).length)) := by
  refine needs_law hv hX (srt_mix hX hY _ _) fun j hj => ?_
  rw [find_mix hX hY, List.take_length, if_pos ((inB_iff _ _).2 hj)]
theorem srt_nodupK {t : List Pr} (h : Srt t) : (t.map (·.1)).Nodup := List.pairwise_map.2 (List.Pairwise.imp (fun {a b} hlt e => by rw [e, less_irrefl] at hlt; cases hlt) h)
theorem mix_len {X Y0 : List Pr} (hX : Srt X) (hY : Srt Y0) (lX : X.length ≤ 40) (lY : Y0.length ≤ 40) (R : List Sp) (i : Nat) : (mixY X Y0 R i).length ≤ 80 := by
  have h := len_sub (srt_nodupK (srt_mix hX hY R i)) (b := X.map (·.1) ++ Y0.map (·.1)) (fun k hk => by
    obtain ⟨x, hx, rfl⟩ := List.mem_map.1 hk
    rw [List.mem_append]
    exact (mem_mix hX R i x hx).imp (fun h => List.mem_map.2 ⟨x, h, rfl⟩) (fun h => List.mem_map.2 ⟨x, h, rfl⟩))
  rw [List.length_map, List.length_append, List.length_map, List.length_map] at h
  omega

end Go.Proofs.YthncnijkgkeohaaGreat
