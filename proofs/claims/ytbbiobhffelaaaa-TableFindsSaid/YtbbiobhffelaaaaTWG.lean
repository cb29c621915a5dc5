/-
  Walks: the fixed examples that every law of package table tries: their contracts.
-/
import Derived.Test.YtbbiobhffelaaaaTWF
namespace Go.Proofs.Ytbbiobhffelaaaa
open Go.RowKit Go.Sort
set_option linter.unusedVariables false

def lA : List Pr := [([120], [49], 0), ([122], [51], 0)]
def lB : List Pr := [([121], [50], 0), ([122], [52], 0)]
def lC : List Pr := [([97, 47, 98], [49], 0), ([97, 47, 99], [50], 0), ([98], [51], 0)]
def lU : List Pr := [([120], [49], 0), ([121], [50], 0), ([122], [52], 0)]
def lV : List Pr := [([120], [49], 0), ([121], [50], 0), ([122], [51], 0)]
def lM : List Pr := [([100, 47, 98], [49], 0), ([100, 47, 99], [50], 0)]
def lP : List Pr := [([120], [53], 0), ([122], [51], 0)]
theorem sA : Srt lA := (validB_iff _).1 (by decide +kernel)
theorem sB : Srt lB := (validB_iff _).1 (by decide +kernel)
theorem sC : Srt lC := (validB_iff _).1 (by decide +kernel)

theorem IsPairs.new {n : Nat} (W : World) (l : List Pr) (T : TypeId) (hn : n = W.heap.size) (hl : l.length ≤ 1000) (hs : ∀ x ∈ l, x.1.length ≤ maxLen ∧ x.2.1.length ≤ maxLen) : IsPairs (W.alloc (.cells (l.flatMap encP).toArray T)) (.slice (some ⟨n, 0, none⟩) l.length l.length) l := by
  subst hn
  refine ⟨_, _, rfl, Nat.le_refl _, by unfold maxLen; omega, hs, fun _ => ⟨W.heap.size, 0, rfl, by simp, fun i hi => ?_⟩⟩
  have h := flatP_get l i hi
  refine ⟨?_, ?_, ?_⟩
  · rw [Nat.zero_add, World.cell?_alloc_new]; simpa using h.1
  · rw [Nat.zero_add, World.cell?_alloc_new]; simpa using h.2.1
  · rw [Nat.zero_add, World.cell?_alloc_new]; simpa using h.2.2
theorem small_of {l : List Pr} (h : l.all (fun x => decide (x.1.length ≤ 1000) && decide (x.2.1.length ≤ 1000)) = true) : ∀ x ∈ l, x.1.length ≤ maxLen ∧ x.2.1.length ≤ maxLen := by
  intro x hx
  have := List.all_eq_true.1 h x hx
  simp only [Bool.and_eq_true, decide_eq_true_eq] at this
  unfold maxLen; omega
theorem Below.box {w w' : World} (h : Below w.heap.size w w') (o : Obj) : Below w.heap.size w (w'.alloc o) := h.alloc h.size o

/-- The three lists of the examples. -/
structure SanSt (w wx : World) : Prop where
  a : Blk wx w.heap.size 30 (lA.flatMap encP).toArray
  b : Blk wx (w.heap.size + 1) 30 (lB.flatMap encP).toArray
  c : Blk wx (w.heap.size + 1 + 1) 30 (lC.flatMap encP).toArray
  g : Below w.heap.size w wx
theorem SanSt.start (w : World) : SanSt w (((w.alloc (.cells (lA.flatMap encP).toArray 30)).alloc (.cells (lB.flatMap encP).toArray 30)).alloc (.cells (lC.flatMap encP).toArray 30)) where
  a := ((Blk.new _ _ _).alloc _).alloc _
  b := (Blk.new' _ _ _ (by simp)).alloc _
  c := Blk.new' _ _ _ (by simp)
  g := ((below_box _).alloc (by simp) _).alloc (by simp; omega) _
theorem SanSt.below {w wx wy : World} (h : SanSt w wx) (hb : Below wx.heap.size wx wy) : SanSt w wy where
  a := h.a.below hb h.a.lt
  b := h.b.below hb h.b.lt
  c := h.c.below hb h.c.lt
  g := h.g.trans (hb.mono h.g.size)
theorem blk_pairs {w : World} {b : Nat} (l : List Pr) (h : Blk w b 30 (l.flatMap encP).toArray) (hl : l.length ≤ 1000) (hs : ∀ x ∈ l, x.1.length ≤ maxLen ∧ x.2.1.length ≤ maxLen) : IsPairs w (.slice (some ⟨b, 0, none⟩) l.length l.length) l := by
  refine ⟨_, _, rfl, Nat.le_refl _, by unfold maxLen; omega, hs, fun _ => ⟨b, 0, rfl, h.lt, fun i hi => ?_⟩⟩
  have g := flatP_get l i hi
  refine ⟨?_, ?_, ?_⟩
  · rw [Nat.zero_add, h.cell]; simpa using g.1
  · rw [Nat.zero_add, h.cell]; simpa using g.2.1
  · rw [Nat.zero_add, h.cell]; simpa using g.2.2
section
variable {w wx : World}
theorem SanSt.pa (h : SanSt w wx) : IsPairs wx (.slice (some ⟨w.heap.size, 0, none⟩) 2 2) lA := blk_pairs lA h.a (by decide) (small_of (by decide +kernel))
theorem SanSt.pb (h : SanSt w wx) : IsPairs wx (.slice (some ⟨w.heap.size + 1, 0, none⟩) 2 2) lB := blk_pairs lB h.b (by decide) (small_of (by decide +kernel))
theorem SanSt.pc (h : SanSt w wx) : IsPairs wx (.slice (some ⟨w.heap.size + 1 + 1, 0, none⟩) 3 3) lC := blk_pairs lC h.c (by decide) (small_of (by decide +kernel))
/-- A list comes back, and the examples stay. -/
def SanOut (w wx : World) (l : List Pr) (e : Ending) (w' : World) : Prop := ∃ v', e = .returned v' ∧ IsPairs w' v' l ∧ Below wx.heap.size wx w' ∧ SanSt w w'
theorem OwnOut.san {l : List Pr} {e : Ending} {w' : World} (hs : SanSt w wx) (h : OwnOut wx.heap.size wx l e w') : SanOut w wx l e w' := by
  obtain ⟨v', h1, -, h3, h4⟩ := h
  exact ⟨v', h1, h3, h4, hs.below h4⟩
theorem sc_union1 (h : SanSt w wx) : Calls Try.prog 25 #[.slice (some ⟨w.heap.size, 0, none⟩) 2 2, .slice (some ⟨w.heap.size + 1, 0, none⟩) 2 2] wx (SanOut w wx lU) :=
  (union_w _ _ lA lB wx h.pa h.pb sA sB (by decide) (by decide)).mono fun e w' hh => OwnOut.san h (by rw [show unionS lA lB = lU from by decide +kernel] at hh; exact hh)
theorem sc_union2 (h : SanSt w wx) : Calls Try.prog 25 #[.slice (some ⟨w.heap.size + 1, 0, none⟩) 2 2, .slice (some ⟨w.heap.size, 0, none⟩) 2 2] wx (SanOut w wx lV) :=
  (union_w _ _ lB lA wx h.pb h.pa sB sA (by decide) (by decide)).mono fun e w' hh => OwnOut.san h (by rw [show unionS lB lA = lV from by decide +kernel] at hh; exact hh)
theorem sc_range (h : SanSt w wx) : Calls Try.prog 18 #[.slice (some ⟨w.heap.size, 0, none⟩) 2 2, .agg #[.string ⟨#[121]⟩, .string ⟨#[]⟩]] wx (SanOut w wx [([122], [51], 0)]) :=
  (range_w _ lA [121] [] wx h.pa sA (by decide)).mono fun e w' hh => OwnOut.san h (by rw [show rangeS ([121], []) lA = [([122], [51], 0)] from by decide +kernel] at hh; exact hh)
theorem sc_drop (h : SanSt w wx) : Calls Try.prog 20 #[.slice (some ⟨w.heap.size, 0, none⟩) 2 2, .agg #[.string ⟨#[121]⟩, .string ⟨#[]⟩]] wx (SanOut w wx [([120], [49], 0)]) :=
  (drop_w _ lA [121] [] wx h.pa sA (by decide)).mono fun e w' hh => OwnOut.san h (by rw [show dropS ([121], []) lA = [([120], [49], 0)] from by decide +kernel] at hh; exact hh)
theorem sc_moved (h : SanSt w wx) : Calls Try.prog 27 #[.slice (some ⟨w.heap.size + 1 + 1, 0, none⟩) 3 3, .string ⟨#[97, 47]⟩, .string ⟨#[100, 47]⟩] wx (SanOut w wx lM) :=
  (tmoved_w _ lC [97, 47] [100, 47] wx h.pc sC (by decide) (by decide) (by decide) (by decide)).mono fun e w' hh => OwnOut.san h (by rw [show movedT [97, 47] [100, 47] lC = lM from by decide +kernel] at hh; exact hh)
theorem sc_put (h : SanSt w wx) : Calls Try.prog 22 #[.slice (some ⟨w.heap.size, 0, none⟩) 2 2, .agg #[.string ⟨#[120]⟩, .string ⟨#[53]⟩, .int .i64 0]] wx (SanOut w wx lP) :=
  (put_w _ lA [120] [53] 0 wx h.pa sA (by decide) (by decide) (by decide)).mono fun e w' hh => OwnOut.san h (by rw [show putS ([120], [53], 0) lA = lP from by decide +kernel] at hh; exact hh)
theorem sc_del (h : SanSt w wx) : Calls Try.prog 23 #[.slice (some ⟨w.heap.size, 0, none⟩) 2 2, .string ⟨#[120]⟩] wx (SanOut w wx [([122], [51], 0)]) :=
  (del_w _ lA [120] wx h.pa sA (by decide) (by decide)).mono fun e w' hh => OwnOut.san h (by rw [show delS [120] lA = [([122], [51], 0)] from by decide +kernel] at hh; exact hh)
theorem sc_find1 (h : SanSt w wx) : Calls Try.prog 14 #[.slice (some ⟨w.heap.size, 0, none⟩) 2 2, .string ⟨#[122]⟩] wx fun e w' => e = .returned (.tuple #[.agg #[.string ⟨#[122]⟩, .string ⟨#[51]⟩, .int .i64 0], .bool true]) ∧ SanSt w w' :=
  (find_w _ lA [122] wx h.pa sA (by decide)).mono fun e w' ⟨h1, h2⟩ => ⟨by rw [h1, findV_some (show findS [122] lA = some ([122], [51], 0) from by decide +kernel)]; rfl, h.below h2⟩
theorem sc_find2 (h : SanSt w wx) : Calls Try.prog 14 #[.slice (some ⟨w.heap.size, 0, none⟩) 2 2, .string ⟨#[121]⟩] wx fun e w' => e = .returned (.tuple #[.agg #[.string ⟨#[]⟩, .string ⟨#[]⟩, .int .i64 0], .bool false]) ∧ SanSt w w' :=
  (find_w _ lA [121] wx h.pa sA (by decide)).mono fun e w' ⟨h1, h2⟩ => ⟨by rw [h1, findV_none (show findS [121] lA = none from by decide +kernel)]; rfl, h.below h2⟩
theorem sc_same {v0 v1 : Value} (l : List Pr) (h : SanSt w wx) (h0 : IsPairs wx v0 l) (h1 : IsPairs wx v1 l) : Calls Try.prog 17 #[v0, v1] wx fun e w' => e = .returned (.bool true) ∧ SanSt w w' :=
  (same_w v0 v1 l l wx h0 h1).mono fun e w' ⟨h2, n, h3⟩ => ⟨by rw [h2]; simp, by rw [h3]; exact h.below (below_drewN _ _)⟩
theorem sc_valid {v0 : Value} (l : List Pr) (r : Bool) (h : SanSt w wx) (h0 : IsPairs wx v0 l) (hl : l.length ≤ 1000) (hr : validB l = r) : Calls Try.prog 30 #[v0] wx fun e w' => e = .returned (.bool r) ∧ SanSt w w' :=
  (valid_w v0 l wx h0 (by omega)).mono fun e w' ⟨h2, n, h3⟩ => ⟨by rw [h2, hr], by rw [h3]; exact h.below (below_drewN _ _)⟩
end

theorem IsPairs.alloc {w : World} {v : Value} {l : List Pr} (h : IsPairs w v l) (o : Obj) : IsPairs (w.alloc o) v l := h.below (below_box _)
theorem IsPairs.drew {w : World} {v : Value} {l : List Pr} (h : IsPairs w v l) : IsPairs w.drew v l := h.below (below_drewN w 1)
theorem pairs_below {w w' : World} {v : Value} {l : List Pr} (hb : Below w.heap.size w w') (h : IsPairs w v l) : IsPairs w' v l := h.below hb
def lN : List Pr := [([122], [51], 0), ([120], [49], 0)]
def lD : List Pr := [([120], [49], 0), ([120], [49], 0)]
theorem new_lU {n : Nat} (W : World) (hn : n = W.heap.size) : IsPairs (W.alloc (.cells #[.string ⟨#[120]⟩, .string ⟨#[49]⟩, .int .i64 0, .string ⟨#[121]⟩, .string ⟨#[50]⟩, .int .i64 0, .string ⟨#[122]⟩, .string ⟨#[52]⟩, .int .i64 0] 30)) (.slice (some ⟨n, 0, none⟩) 3 3) lU := IsPairs.new W lU 30 hn (by decide) (small_of (by decide +kernel))
theorem new_lV {n : Nat} (W : World) (hn : n = W.heap.size) : IsPairs (W.alloc (.cells #[.string ⟨#[120]⟩, .string ⟨#[49]⟩, .int .i64 0, .string ⟨#[121]⟩, .string ⟨#[50]⟩, .int .i64 0, .string ⟨#[122]⟩, .string ⟨#[51]⟩, .int .i64 0] 30)) (.slice (some ⟨n, 0, none⟩) 3 3) lV := IsPairs.new W lV 30 hn (by decide) (small_of (by decide +kernel))
theorem new_lM {n : Nat} (W : World) (hn : n = W.heap.size) : IsPairs (W.alloc (.cells #[.string ⟨#[100, 47, 98]⟩, .string ⟨#[49]⟩, .int .i64 0, .string ⟨#[100, 47, 99]⟩, .string ⟨#[50]⟩, .int .i64 0] 30)) (.slice (some ⟨n, 0, none⟩) 2 2) lM := IsPairs.new W lM 30 hn (by decide) (small_of (by decide +kernel))
theorem new_lP {n : Nat} (W : World) (hn : n = W.heap.size) : IsPairs (W.alloc (.cells #[.string ⟨#[120]⟩, .string ⟨#[53]⟩, .int .i64 0, .string ⟨#[122]⟩, .string ⟨#[51]⟩, .int .i64 0] 30)) (.slice (some ⟨n, 0, none⟩) 2 2) lP := IsPairs.new W lP 30 hn (by decide) (small_of (by decide +kernel))
theorem new_lN {n : Nat} (W : World) (hn : n = W.heap.size) : IsPairs (W.alloc (.cells #[.string ⟨#[122]⟩, .string ⟨#[51]⟩, .int .i64 0, .string ⟨#[120]⟩, .string ⟨#[49]⟩, .int .i64 0] 30)) (.slice (some ⟨n, 0, none⟩) 2 2) lN := IsPairs.new W lN 30 hn (by decide) (small_of (by decide +kernel))
theorem new_lD {n : Nat} (W : World) (hn : n = W.heap.size) : IsPairs (W.alloc (.cells #[.string ⟨#[120]⟩, .string ⟨#[49]⟩, .int .i64 0, .string ⟨#[120]⟩, .string ⟨#[49]⟩, .int .i64 0] 30)) (.slice (some ⟨n, 0, none⟩) 2 2) lD := IsPairs.new W lD 30 hn (by decide) (small_of (by decide +kernel))

/-- The examples, and a pair that was found. -/
structure SanP (w : World) (n : Nat) (wx : World) : Prop where
  s : SanSt w wx
  p : Blk wx n 30 #[.string ⟨#[122]⟩, .string ⟨#[51]⟩, .int .i64 0]
theorem SanP.below {w wx wy : World} {n : Nat} (h : SanP w n wx) (hb : Below wx.heap.size wx wy) : SanP w n wy := ⟨h.s.below hb, h.p.below hb h.p.lt⟩
theorem SanP.alloc {w wx : World} {n : Nat} (h : SanP w n wx) (o : Obj) : SanP w n (wx.alloc o) := h.below (below_box _)
theorem SanP.drew {w wx : World} {n : Nat} (h : SanP w n wx) : SanP w n wx.drew := h.below (below_drewN wx 1)
section
variable {w wx : World} {n : Nat}
theorem sp_find2 (h : SanP w n wx) : Calls Try.prog 14 #[.slice (some ⟨w.heap.size, 0, none⟩) 2 2, .string ⟨#[121]⟩] wx fun e w' => e = .returned (.tuple #[.agg #[.string ⟨#[]⟩, .string ⟨#[]⟩, .int .i64 0], .bool false]) ∧ SanP w n w' :=
  (find_w _ lA [121] wx h.s.pa sA (by decide)).mono fun e w' ⟨h1, h2⟩ => ⟨by rw [h1, findV_none (show findS [121] lA = none from by decide +kernel)]; rfl, h.below h2⟩
theorem sp_put (h : SanP w n wx) : Calls Try.prog 22 #[.slice (some ⟨w.heap.size, 0, none⟩) 2 2, .agg #[.string ⟨#[120]⟩, .string ⟨#[53]⟩, .int .i64 0]] wx fun e w' => ∃ v', e = .returned v' ∧ IsPairs w' v' lP ∧ Below wx.heap.size wx w' ∧ SanP w n w' :=
  (sc_put h.s).mono fun e w' ⟨v', h1, h2, h3, _⟩ => ⟨v', h1, h2, h3, h.below h3⟩
theorem sp_del (h : SanP w n wx) : Calls Try.prog 23 #[.slice (some ⟨w.heap.size, 0, none⟩) 2 2, .string ⟨#[120]⟩] wx fun e w' => ∃ v', e = .returned v' ∧ IsPairs w' v' [([122], [51], 0)] ∧ Below wx.heap.size wx w' ∧ SanP w n w' :=
  (sc_del h.s).mono fun e w' ⟨v', h1, h2, h3, _⟩ => ⟨v', h1, h2, h3, h.below h3⟩
theorem sp_same {v0 v1 : Value} (l : List Pr) (h : SanP w n wx) (h0 : IsPairs wx v0 l) (h1 : IsPairs wx v1 l) : Calls Try.prog 17 #[v0, v1] wx fun e w' => e = .returned (.bool true) ∧ SanP w n w' :=
  (same_w v0 v1 l l wx h0 h1).mono fun e w' ⟨h2, n, h3⟩ => ⟨by rw [h2]; simp, by rw [h3]; exact h.below (below_drewN _ _)⟩
theorem sp_valid {v0 : Value} (l : List Pr) (r : Bool) (h : SanP w n wx) (h0 : IsPairs wx v0 l) (hl : l.length ≤ 1000) (hr : validB l = r) : Calls Try.prog 30 #[v0] wx fun e w' => e = .returned (.bool r) ∧ SanP w n w' :=
  (valid_w v0 l wx h0 (by omega)).mono fun e w' ⟨h2, n, h3⟩ => ⟨by rw [h2, hr], by rw [h3]; exact h.below (below_drewN _ _)⟩
end
theorem SanSt.tail {w wx : World} (h : SanSt w wx) : IsPairs wx (.slice (some ⟨w.heap.size, 3, none⟩) 1 1) [([122], [51], 0)] := by
  have := h.pa.sliced 1 2 (by decide) (by decide)
  exact this
theorem SanSt.front {w wx : World} (h : SanSt w wx) : IsPairs wx (.slice (some ⟨w.heap.size, 0, none⟩) 1 2) [([120], [49], 0)] := by
  have := h.pa.sliced 0 1 (by decide) (by decide)
  exact this

end Go.Proofs.Ytbbiobhffelaaaa
