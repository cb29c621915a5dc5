/-
  Walks: the kinds of messages of package settle and of its reference, and the Drop of a text.
-/
import Derived.Test.YtfpcaoacbjhkgaaGreatUA
import Derived.Test.YtfpcaoacbjhkgaaGreatNQJ
namespace Go.Proofs.YtfpcaoacbjhkgaaGreat
open Go.RowKit Go.Sort
set_option linter.unusedVariables false

set_option maxHeartbeats 1000000 in
theorem smoves_w (m : Ms) (w : World) : Calls Tryz.prog 73 #[msgV m] w fun e w' => e = .returned (.bool (movesB m)) ∧ Grown w w' := by
  have mixed := mixedA
  unfold movesB
  by_cases h4 : m.kind = 4
  · rw [h4]
    obtain ⟨k, ky, va, lo, hi, sr, ds, n⟩ := m
    dsimp only at h4
    subst h4
    go_enter Tryz.func73, Tryz.ntmps73
    go_wp2
    go_ret
    exact ⟨by first | rfl | simp, (Grown.refl w).alloc _⟩
  · have g4 : decide (m.kind = 4) = false := decide_eq_false h4
    by_cases h5 : m.kind = 5
    · obtain ⟨k, ky, va, lo, hi, sr, ds, n⟩ := m
      dsimp only at h5
      subst h5
      go_enter Tryz.func73, Tryz.ntmps73
      go_wp2
      go_ret
      exact ⟨by first | rfl | simp, (Grown.refl w).alloc _⟩
    · have g5 : decide (m.kind = 5) = false := decide_eq_false h5
      rw [g4, g5]
      have e4 : (m.kind == 4) = false := by simpa using h4
      have e5 : (m.kind == 5) = false := by simpa using h5
      clear h4 h5 g4 g5
      go_enter Tryz.func73, Tryz.ntmps73
      go_wp2
      go_ret
      exact ⟨by first | rfl | simp, (Grown.refl w).alloc _⟩

set_option maxHeartbeats 1000000 in
theorem r9moves_w (m : Ms) (w : World) : Calls Tryz.prog 72 #[msgV m] w fun e w' => e = .returned (.bool (movesB m)) ∧ Grown w w' := by
  have mixed := mixedA
  unfold movesB
  by_cases h4 : m.kind = 4
  · rw [h4]
    obtain ⟨k, ky, va, lo, hi, sr, ds, n⟩ := m
    dsimp only at h4
    subst h4
    go_enter Tryz.func72, Tryz.ntmps72
    go_wp2
    go_ret
    exact ⟨by first | rfl | simp, (Grown.refl w).alloc _⟩
  · have g4 : decide (m.kind = 4) = false := decide_eq_false h4
    by_cases h5 : m.kind = 5
    · obtain ⟨k, ky, va, lo, hi, sr, ds, n⟩ := m
      dsimp only at h5
      subst h5
      go_enter Tryz.func72, Tryz.ntmps72
      go_wp2
      go_ret
      exact ⟨by first | rfl | simp, (Grown.refl w).alloc _⟩
    · have g5 : decide (m.kind = 5) = false := decide_eq_false h5
      rw [g4, g5]
      have e4 : (m.kind == 4) = false := by simpa using h4
      have e5 : (m.kind == 5) = false := by simpa using h5
      clear h4 h5 g4 g5
      go_enter Tryz.func72, Tryz.ntmps72
      go_wp2
      go_ret
      exact ⟨by first | rfl | simp, (Grown.refl w).alloc _⟩

/-- What a block of three cells, of eight cells offers to a store. -/
theorem Blk.threeU {w : World} {b : Nat} {T : TypeId} {x0 x1 x2 : Value} (h : Blk w b T #[x0, x1, x2]) :
    w.cell? ⟨b, 0, none⟩ = some x0 ∧ w.cell? ⟨b, 1, none⟩ = some x1 ∧ w.cell? ⟨b, 2, none⟩ = some x2 ∧ w.frozen? ⟨b, 0, none⟩ = false ∧ w.frozen? ⟨b, 1, none⟩ = false ∧ w.frozen? ⟨b, 2, none⟩ = false :=
  ⟨h.c0 0 _ rfl, h.c0 1 _ rfl, h.c0 2 _ rfl, h.free 0, h.free 1, h.free 2⟩
theorem Blk.eightCU {w : World} {b : Nat} {T : TypeId} {x0 x1 x2 x3 x4 x5 x6 x7 : Value} (h : Blk w b T #[x0, x1, x2, x3, x4, x5, x6, x7]) :
    w.cell? ⟨b, 0, none⟩ = some x0 ∧ w.cell? ⟨b, 1, none⟩ = some x1 ∧ w.cell? ⟨b, 2, none⟩ = some x2 ∧ w.cell? ⟨b, 3, none⟩ = some x3 ∧ w.cell? ⟨b, 4, none⟩ = some x4 ∧ w.cell? ⟨b, 5, none⟩ = some x5 ∧ w.cell? ⟨b, 6, none⟩ = some x6 ∧ w.cell? ⟨b, 7, none⟩ = some x7 :=
  ⟨h.c0 0 _ rfl, h.c0 1 _ rfl, h.c0 2 _ rfl, h.c0 3 _ rfl, h.c0 4 _ rfl, h.c0 5 _ rfl, h.c0 6 _ rfl, h.c0 7 _ rfl⟩
theorem Blk.eightFU {w : World} {b : Nat} {T : TypeId} {cs : Array Value} (h : Blk w b T cs) :
    w.frozen? ⟨b, 0, none⟩ = false ∧ w.frozen? ⟨b, 1, none⟩ = false ∧ w.frozen? ⟨b, 2, none⟩ = false ∧ w.frozen? ⟨b, 3, none⟩ = false ∧ w.frozen? ⟨b, 4, none⟩ = false ∧ w.frozen? ⟨b, 5, none⟩ = false ∧ w.frozen? ⟨b, 6, none⟩ = false ∧ w.frozen? ⟨b, 7, none⟩ = false :=
  ⟨h.free 0, h.free 1, h.free 2, h.free 3, h.free 4, h.free 5, h.free 6, h.free 7⟩

set_option maxRecDepth 100000 in
set_option maxHeartbeats 2000000 in
theorem sdrop_w (p : Bs) (w : World) (hp : p.length ≤ 140737488355328) : Calls Tryz.prog 104 #[.string (Str p)] w fun e w' => e = .returned (msgV (dropM p)) ∧ Grown w w' := by
  have mixed := mixedA
  have HP := Lib.hid (fun wx => prefix_w p wx hp)
  unfold dropM
  generalize preT p = q at *
  clear hp
  go_enter Tryz.func104, Tryz.ntmps104
  go_wp2_with (go_at_call 118; refine (HP.out _).mono ?_; rintro e w1 ⟨rfl, hg⟩; obtain ⟨c0, c1, c2, c3, c4, c5, c6, c7⟩ := (hg.blk (Blk.new' (n := w.heap.size) _ _ _ (by simp))).eightCU; obtain ⟨e0, e1, e2, e3, e4, e5, e6, e7⟩ := (hg.blk (Blk.new' (n := w.heap.size) _ _ _ (by simp))).eightFU; have HG := Lib.hid hg; clear hg)
  refine bodyPost_ret (v := msgV ⟨3, [], [], p, q, [], [], 0⟩) (by simp [results, Tryz.results104, go_sem, c0, c1, c2, c3, c4, c5, c6, c7]; try rfl) rfl ⟨rfl, ?_⟩
  iterate 8 refine Grown.setCell ?_ _ _ _ (by omega)
  exact ((Grown.refl w).alloc _).trans HG.out

end Go.Proofs.YtfpcaoacbjhkgaaGreat
