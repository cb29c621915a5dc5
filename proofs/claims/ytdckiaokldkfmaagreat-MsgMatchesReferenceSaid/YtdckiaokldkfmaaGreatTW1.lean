/-
  Walks: places, borders, clones and joined lists of package table.
-/
import Derived.Test.YtdckiaokldkfmaaGreatTW0
import Derived.Test.YtdckiaokldkfmaaGreatTZ
import Derived.Test.YtdckiaokldkfmaaGreatSh3
import Derived.Deep.LoopGhost
namespace Go.Proofs.YtdckiaokldkfmaaGreat
open Go.RowKit Go.Sort
set_option linter.unusedVariables false

theorem pair_cells {w : World} {v : Value} {l : List Pr} (h : IsPairs w v l) (i : Nat) (hi : i < l.length) : ∃ b off cap, v = .slice (some ⟨b, off, none⟩) l.length cap ∧ b < w.heap.size ∧ (l.length : Int) ≤ 9223372036854775807 ∧
    w.cell? ⟨b, off + i * 3, none⟩ = some (.string (Str l[i].1)) ∧ w.cell? ⟨b, off + i * 3 + 1, none⟩ = some (.string (Str l[i].2.1)) ∧ w.cell? ⟨b, off + i * 3 + 2, none⟩ = some (.int .i64 l[i].2.2) := by
  obtain ⟨b, off, cap, a, rfl, h1, h2, h3, h4⟩ := h.form
  obtain ⟨rfl, c⟩ := h4 i hi
  unfold maxLen at h2
  exact ⟨b, off, cap, rfl, (h3 (by rintro rfl; simp at hi)).2, by omega, c⟩

set_option maxHeartbeats 1000000 in
theorem placeC_w (bt bk : Nat) (v : Value) (l : List Pr) (k : Bs) (i : Nat) (W : World) (hi : i < l.length) (ht : W.cell? ⟨bt, 0, none⟩ = some v) (hk : W.cell? ⟨bk, 0, none⟩ = some (.string (Str k))) (hp : IsPairs W v l) :
    Calls Tryz.prog 114 (#[.int .i64 i] ++ #[.pointer (some ⟨bt, 0, none⟩), .pointer (some ⟨bk, 0, none⟩)]) W fun e w' => e = .returned (.bool (!Op.bytesLess (l[i]?.getD ([], [], 0)).1 k)) ∧ ∃ q, w' = W.drewN q := by
  obtain ⟨b, off, cap, rfl, hb, hl, c0, c1, c2⟩ := pair_cells hp i hi
  rw [List.getElem?_eq_getElem hi, Option.getD_some]
  clear hp
  generalize l[i] = x at *
  have hiz : (i : Int) < (l.length : Int) := by omega
  generalize l.length = n at *
  have mixed := mixedA
  go_enter Tryz.func114, Tryz.ntmps114
  go_wp2
  go_region
  all_goals go_wp2
  all_goals go_ret
  all_goals exact ⟨by first | rfl | simp, 1, rfl⟩

set_option maxHeartbeats 2000000 in
theorem place_w (v : Value) (l : List Pr) (k : Bs) (w : World) (h : IsPairs w v l) (hs : Srt l) (hl : l.length ≤ 100000) :
    Calls Tryz.prog 111 #[v, .string (Str k)] w fun e w' => e = .returned (.int .i64 (placeS l k : Nat)) ∧ Grown w w' := by
  have eg : ∀ args w, (callFunc 114 args).run Tryz.prog w = .ok (.enter 114 args) w := enters_of Tryz.func114 (by kernel_rfl) rfl
  obtain ⟨W0, hW0⟩ : ∃ W0, W0 = (w.alloc (.cells #[v] 25)).alloc (.cells #[.string (Str k)] 9) := ⟨_, rfl⟩
  have hg0 : Grown w W0 := by rw [hW0]; exact ((Grown.refl w).alloc _).alloc _
  have b1 : Blk W0 w.heap.size 25 #[v] := by rw [hW0]; exact (Blk.new _ _ _).alloc _
  have b2 : Blk W0 (w.heap.size + 1) 9 #[.string (Str k)] := by rw [hW0]; exact Blk.new' _ _ _ (by simp)
  have hp0 : IsPairs W0 v l := h.below (hg0.below (Nat.le_refl _))
  obtain ⟨b, off, cap, a, hv, hlc, hcm, _, _⟩ := h.form
  unfold maxLen at hcm
  have hcon := Any.sort_Search Tryz.searchL 114 #[.pointer (some ⟨w.heap.size, 0, none⟩), .pointer (some ⟨w.heap.size + 1, 0, none⟩)] l.length (fun i => !Op.bytesLess (l[i]?.getD ([], [], 0)).1 k) W0 eg (by omega)
    (fun m os i hi => (placeC_w w.heap.size (w.heap.size + 1) v l k i _ hi (b1.c 0 _ rfl m os) (b2.c 0 _ rfl m os) (hp0.below (below_grown W0 m os (Nat.le_refl _)))).mono fun e w' ⟨h1, q, h2⟩ => ⟨h1, q, #[], by rw [h2, grow_empty]⟩)
    (fun i j hij hj hi => by
      have hi' : i < l.length := by omega
      simp only [List.getElem?_eq_getElem hi', List.getElem?_eq_getElem hj, Option.getD_some] at hi ⊢
      exact place_test hs k i j hij hj hi)
  change Calls Tryz.prog 113 _ _ _ at hcon
  rw [place_count] at hcon
  have Hg0 := Lib.hid hg0
  have Hc := Lib.hid hcon
  have c1 := b1.c0 0 _ rfl
  have hz := Nat.lt_of_lt_of_le (show w.heap.size < w.heap.size + 1 from Nat.lt_succ_self _) (Nat.le_refl _)
  clear hcon hp0 b2 hs eg h hg0 b1
  subst hv
  generalize placeS l k = r at *
  go_enter Tryz.func111, Tryz.ntmps111
  go_wp2_with fail
  subst hW0
  refine Hc.out.mono ?_
  rintro e w' ⟨rfl, q, os, rfl⟩
  go_wp2
  go_ret
  exact ⟨rfl, Hg0.out.trans ⟨q, os, rfl⟩⟩

set_option maxRecDepth 100000 in
set_option maxHeartbeats 2000000 in
theorem borders_w (v : Value) (l : List Pr) (lo hi : Bs) (w : World) (h : IsPairs w v l) (hs : Srt l) (hl : l.length ≤ 100000) :
    Calls Tryz.prog 109 #[v, .agg #[.string (Str lo), .string (Str hi)]] w fun e w' => e = .returned (.tuple #[.int .i64 (lowS l (lo, hi) : Nat), .int .i64 (highS l (lo, hi) : Nat)]) ∧ Grown w w' := by
  obtain ⟨W0, hW0⟩ : ∃ W0, W0 = w.alloc (.cells #[.string (Str lo), .string (Str hi)] 32) := ⟨_, rfl⟩
  have hg0 : Grown w W0 := by rw [hW0]; exact (Grown.refl w).alloc _
  have b0 : Blk W0 w.heap.size 32 #[.string (Str lo), .string (Str hi)] := by rw [hW0]; exact Blk.new _ _ _
  have hp0 : IsPairs W0 v l := h.below (hg0.below (Nat.le_refl _))
  have he := fun wx => empty_w lo hi wx
  have hpl := fun k (w1 : World) (hg : Grown W0 w1) => place_w v l k w1 (hp0.below (hg.below (Nat.le_refl _))) hs hl
  have HB0 := Lib.hid b0
  have Hg0 := Lib.hid hg0
  have HL : Hid (lowS l (lo, hi) = if emptyB (lo, hi) then 0 else placeS l lo) := Lib.hid rfl
  have HH : Hid (highS l (lo, hi) = if emptyB (lo, hi) then 0 else if hi = [] then l.length else placeS l hi) := Lib.hid rfl
  obtain ⟨b, off, cap, a, rfl, hlc, hcm, _, _⟩ := h.form
  unfold maxLen at hcm
  have Hpl := Lib.hid hpl
  clear hpl hp0 h hs hg0 b0
  generalize lowS l (lo, hi) = ls at *
  generalize highS l (lo, hi) = us at *
  have mixed := mixedA
  cases hem : emptyB (lo, hi) with
  | true =>
    rw [hem] at HL HH he
    simp only [↓reduceIte] at HL HH
    have Hem := Lib.hid he
    clear he hem
    go_enter Tryz.func109, Tryz.ntmps109
    go_wp2_with fail
    subst hW0
    refine (Hem.out _).mono ?_
    rintro e w1 ⟨rfl, hg⟩
    have Hg := Lib.hid hg
    clear hg
    go_wp2
    go_ret2
    exact ⟨by rw [HL.out, HH.out]; rfl, Hg0.out.trans Hg.out⟩
  | false =>
    rw [hem] at HL HH he
    simp only [Bool.false_eq_true, ↓reduceIte] at HL HH
    have Hem := Lib.hid he
    clear he hem
    by_cases hh : hi = []
    · rw [if_pos hh] at HH
      subst hh
      go_enter Tryz.func109, Tryz.ntmps109
      go_wp2_with fail
      subst hW0
      refine (Hem.out _).mono ?_
      rintro e w1 ⟨rfl, hg⟩
      have hB := HB0.out.below (hg.below (Nat.le_refl _)) HB0.out.lt
      have c0 := hB.c0 0 _ rfl
      have c1 := hB.c0 1 _ rfl
      have Hg := Lib.hid hg
      clear hg hB
      go_wp2_with fail
      refine (Hpl.out lo _ Hg.out).mono ?_
      rintro e w2 ⟨rfl, hg⟩
      have Hg2 := Lib.hid hg
      clear hg
      go_wp2
      go_ret2
      exact ⟨by rw [HL.out, HH.out]; try rfl, (Hg0.out.trans Hg.out).trans Hg2.out⟩
    · rw [if_neg hh] at HH
      have hne : hi.isEmpty = false := by simpa using hh
      clear hh
      go_enter Tryz.func109, Tryz.ntmps109
      go_wp2_with fail
      subst hW0
      refine (Hem.out _).mono ?_
      rintro e w1 ⟨rfl, hg⟩
      have hB := HB0.out.below (hg.below (Nat.le_refl _)) HB0.out.lt
      have c0 := hB.c0 0 _ rfl
      have c1 := hB.c0 1 _ rfl
      have d0 := hB.c 0 _ rfl
      have d1 := hB.c 1 _ rfl
      have Hg := Lib.hid hg
      clear hg hB
      go_wp2_with fail
      go_quiet_grown (first
        | (go_at_call_of 111 (Value.string (Str lo)); refine calls_grown (Hpl.out lo _ (Hg.out.trans ⟨_, _, rfl⟩)))
        | (go_at_call 111; refine calls_grown (Hpl.out hi _ (Hg.out.trans ⟨_, _, rfl⟩))))
      go_wp2
      go_ret2
      exact ⟨by rw [HL.out, HH.out]; try rfl, (Hg0.out.trans Hg.out).trans ⟨_, _, rfl⟩⟩

end Go.Proofs.YtdckiaokldkfmaaGreat
