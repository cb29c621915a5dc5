/-
  Walks of package route: the kind of a message, the kid of a key, and where blocked spans meet a span.
-/
import Derived.Test.YtfpcaoacbjhkgaaRPC
import Derived.Test.YtfpcaoacbjhkgaaRBA
import Derived.Test.YtfpcaoacbjhkgaaSh3
import Derived.Deep.LoopGhost
namespace Go.Proofs.Ytfpcaoacbjhkgaa
open Go.RowKit Go.Sort
set_option linter.unusedVariables false

set_option maxHeartbeats 1000000 in
theorem moves_w (m : Ms) (w : World) : Calls Try.prog 13 #[msgV m] w fun e w' => e = .returned (.bool (movesB m)) ∧ Grown w w' := by
  have mixed := mixedA
  unfold movesB
  by_cases h4 : m.kind = 4
  · rw [h4]
    obtain ⟨k, ky, va, lo, hi, sr, ds, n⟩ := m
    dsimp only at h4
    subst h4
    go_enter Try.func13, Try.ntmps13
    go_wp2
    go_ret
    exact ⟨by first | rfl | simp, (Grown.refl w).alloc _⟩
  · have g4 : decide (m.kind = 4) = false := decide_eq_false h4
    by_cases h5 : m.kind = 5
    · obtain ⟨k, ky, va, lo, hi, sr, ds, n⟩ := m
      dsimp only at h5
      subst h5
      go_enter Try.func13, Try.ntmps13
      go_wp2
      go_ret
      exact ⟨by first | rfl | simp, (Grown.refl w).alloc _⟩
    · have g5 : decide (m.kind = 5) = false := decide_eq_false h5
      rw [g4, g5]
      have e4 : (m.kind == 4) = false := by simpa using h4
      have e5 : (m.kind == 5) = false := by simpa using h5
      clear h4 h5 g4 g5
      go_enter Try.func13, Try.ntmps13
      go_wp2
      go_ret
      exact ⟨by first | rfl | simp, (Grown.refl w).alloc _⟩

theorem str_cells {w : World} {v : Value} {l : List Bs} (h : IsStrs w v l) (i : Nat) (hi : i < l.length) : ∃ b off cap, v = .slice (some ⟨b, off, none⟩) l.length cap ∧ b < w.heap.size ∧ (l.length : Int) ≤ 9223372036854775807 ∧
    w.cell? ⟨b, off + i, none⟩ = some (.string (Str l[i])) := by
  obtain ⟨a, cap, rfl, h1, h2, h3⟩ := h
  obtain ⟨b, off, rfl, h4, h5⟩ := h3 (by rintro rfl; simp at hi)
  unfold maxLen at h2
  exact ⟨b, off, cap, rfl, h4, by omega, h5 i hi⟩
theorem mono_at {α : Type} {p : α → Bool} {d : List α} (dflt : α) (h : d.Pairwise (fun x y => p x = true → p y = true)) (i j : Nat) (hij : i ≤ j) (hj : j < d.length) (hi : p (d[i]?.getD dflt) = true) : p (d[j]?.getD dflt) = true := by
  rcases Nat.eq_or_lt_of_le hij with rfl | hlt
  · exact hi
  · have hi' : i < d.length := by omega
    rw [List.getElem?_eq_getElem hi', Option.getD_some] at hi
    rw [List.getElem?_eq_getElem hj, Option.getD_some]
    exact (List.pairwise_iff_getElem.1 h) i j hi' hj hlt hi
theorem range_count {α : Type} (p : α → Bool) (d : List α) (dflt : α) : (List.range d.length).countP (fun i => !p (d[i]?.getD dflt)) = d.countP (fun x => !p x) := by
  have h : d = (List.range d.length).map (fun i => d[i]?.getD dflt) := by
    apply List.ext_getElem
    · simp
    · intro i h1 h2; simp [h1]
  conv => rhs; rw [h]
  rw [List.countP_map]
  rfl
theorem srtP_pair : ∀ {ps : List Bs}, SrtP ps → ps.Pairwise (fun x y => Op.bytesLess x y = true)
  | [], _ => List.Pairwise.nil
  | _ :: _, h => List.pairwise_cons.2 ⟨h.2.1, srtP_pair h.2.2⟩
theorem kid_pair {ps : List Bs} (h : SrtP ps) (k : Bs) : ps.Pairwise (fun x y => Op.bytesLess k x = true → Op.bytesLess k y = true) :=
  (srtP_pair h).imp fun h1 h2 => less_trans _ _ _ h2 h1
set_option maxHeartbeats 1000000 in
theorem kidC_w (bk bt : Nat) (v : Value) (l : List Bs) (k : Bs) (i : Nat) (W : World) (hi : i < l.length) (hk : W.cell? ⟨bk, 0, none⟩ = some (.string (Str k))) (ht : W.cell? ⟨bt, 0, none⟩ = some v) (hp : IsStrs W v l) :
    Calls Try.prog 33 (#[.int .i64 i] ++ #[.pointer (some ⟨bk, 0, none⟩), .pointer (some ⟨bt, 0, none⟩)]) W fun e w' => e = .returned (.bool (Op.bytesLess k (l[i]?.getD []))) ∧ ∃ q, w' = W.drewN q := by
  obtain ⟨b, off, cap, rfl, hb, hl, c0⟩ := str_cells hp i hi
  rw [List.getElem?_eq_getElem hi, Option.getD_some]
  clear hp
  generalize l[i] = x at *
  have hiz : (i : Int) < (l.length : Int) := by omega
  generalize l.length = n at *
  have mixed := mixedA
  go_enter Try.func33, Try.ntmps33
  go_wp2
  go_region
  all_goals go_wp2
  all_goals go_ret
  all_goals exact ⟨by first | rfl | simp, 1, rfl⟩
set_option maxHeartbeats 2000000 in
theorem kid_w (v : Value) (l : List Bs) (k : Bs) (w : World) (h : IsStrs w v l) (hs : SrtP l) (hl : l.length ≤ 1000000000) :
    Calls Try.prog 16 #[.string (Str k), v] w fun e w' => e = .returned (.int .i64 (kidN k l : Nat)) ∧ Grown w w' := by
  have eg : ∀ args w, (callFunc 33 args).run Try.prog w = .ok (.enter 33 args) w := enters_of Try.func33 (by kernel_rfl) rfl
  obtain ⟨W0, hW0⟩ : ∃ W0, W0 = (w.alloc (.cells #[.string (Str k)] 9)).alloc (.cells #[v] 28) := ⟨_, rfl⟩
  have hg0 : Grown w W0 := by rw [hW0]; exact ((Grown.refl w).alloc _).alloc _
  have b1 : Blk W0 w.heap.size 9 #[.string (Str k)] := by rw [hW0]; exact (Blk.new _ _ _).alloc _
  have b2 : Blk W0 (w.heap.size + 1) 28 #[v] := by rw [hW0]; exact Blk.new' _ _ _ (by simp)
  have hp0 : IsStrs W0 v l := h.below (hg0.below (Nat.le_refl _))
  obtain ⟨b, off, cap, a, hv, hlc, hcm, _, _⟩ := h.form
  unfold maxLen at hcm
  have hcon := Any.sort_Search Try.searchL 33 #[.pointer (some ⟨w.heap.size, 0, none⟩), .pointer (some ⟨w.heap.size + 1, 0, none⟩)] l.length (fun i => Op.bytesLess k (l[i]?.getD [])) W0 eg (by omega)
    (fun m os i hi => (kidC_w w.heap.size (w.heap.size + 1) v l k i _ hi (b1.c 0 _ rfl m os) (b2.c 0 _ rfl m os) (hp0.below (below_grown W0 m os (Nat.le_refl _)))).mono fun e w' ⟨h1, q, h2⟩ => ⟨h1, q, #[], by rw [h2, grow_empty]⟩)
    (fun i j hij hj hi => mono_at [] (kid_pair hs k) i j hij hj hi)
  change Calls Try.prog 32 _ _ _ at hcon
  rw [range_count (fun x => Op.bytesLess k x) l []] at hcon
  have hF : l.countP (fun x => !Op.bytesLess k x) = kidN k l := rfl
  rw [hF] at hcon
  have Hg0 := Lib.hid hg0
  have Hc := Lib.hid hcon
  have c2 := b2.c0 0 _ rfl
  clear hcon hp0 b2 hs eg h hg0 b1 hF
  subst hv
  generalize kidN k l = r at *
  go_enter Try.func16, Try.ntmps16
  go_wp2_with fail
  subst hW0
  refine Hc.out.mono ?_
  rintro e w' ⟨rfl, q, os, rfl⟩
  go_wp2
  go_ret
  exact ⟨rfl, Hg0.out.trans ⟨q, os, rfl⟩⟩

/-! ### Where blocked spans meet a span -/
theorem span_cells {w : World} {v : Value} {l : List Sp} (h : IsSpans w v l) (i : Nat) (hi : i < l.length) : ∃ b off cap, v = .slice (some ⟨b, off, none⟩) l.length cap ∧ b < w.heap.size ∧ (l.length : Int) ≤ 9223372036854775807 ∧
    w.cell? ⟨b, off + i * 2, none⟩ = some (.string (Str l[i].1)) ∧ w.cell? ⟨b, off + i * 2 + 1, none⟩ = some (.string (Str l[i].2)) := by
  obtain ⟨a, cap, rfl, h1, h2, h3⟩ := h
  obtain ⟨b, off, rfl, h4, h5⟩ := h3 (by rintro rfl; simp at hi)
  unfold maxLen at h2
  exact ⟨b, off, cap, rfl, h4, by omega, h5 i hi⟩
end Go.Proofs.Ytfpcaoacbjhkgaa
