/-
  Walks: what a law of package msg keeps while it calls: lists of pairs, messages in boxes, lists of spans. Plain facts: tables stay short while few messages act on them; moves and clones.
-/
import Derived.Test.YtaafckefeejjpaaGreatNF
import Derived.Test.YtaafckefeejjpaaGreatNX
namespace Go.Proofs.YtaafckefeejjpaaGreat
open Go.RowKit Go.Sort
set_option linter.unusedVariables false

/-- The fixed examples come out true. -/
def SanityW : Prop := ∀ w, Calls Tryz.prog 33 #[] w fun e w' => e = .returned (.bool true) ∧ Below w.heap.size w w'

/-- Nothing that was there has changed; these values are these lists; these blocks are these messages; these values are these spans. -/
structure Lw (w : World) (L : List (Value × List Pr)) (B : List (Nat × Ms)) (S : List (Value × List Sp)) (wx : World) : Prop where
  g : Below w.heap.size w wx
  p : ∀ x ∈ L, IsPairs wx x.1 x.2
  m : ∀ x ∈ B, MBlk wx x.1 x.2
  s : ∀ x ∈ S, IsSpans wx x.1 x.2
section
variable {w wx wy : World} {L : List (Value × List Pr)} {B : List (Nat × Ms)} {S : List (Value × List Sp)}
theorem Lw.below (h : Lw w L B S wx) (hb : Below wx.heap.size wx wy) : Lw w L B S wy := ⟨h.g.trans (hb.mono h.g.size), fun x hx => (h.p x hx).below hb, fun x hx => (h.m x hx).below hb (h.m x hx).lt, fun x hx => (h.s x hx).below hb⟩
theorem Lw.alloc (h : Lw w L B S wx) (o : Obj) : Lw w L B S (wx.alloc o) := h.below (below_box _)
theorem Lw.drew (h : Lw w L B S wx) : Lw w L B S wx.drew := h.below (below_drewN wx 1)
theorem Lw.at (h : Lw w L B S wx) {v : Value} {l : List Pr} (hm : (v, l) ∈ L) : IsPairs wx v l := h.p _ hm
theorem Lw.msg (h : Lw w L B S wx) {n : Nat} {m : Ms} (hm : (n, m) ∈ B) : MBlk wx n m := h.m _ hm
theorem Lw.sps (h : Lw w L B S wx) {v : Value} {l : List Sp} (hm : (v, l) ∈ S) : IsSpans wx v l := h.s _ hm
theorem Lw.add (h : Lw w L B S wx) {v : Value} {l : List Pr} (hp : IsPairs wx v l) : Lw w ((v, l) :: L) B S wx := ⟨h.g, fun x hx => by
  rcases List.mem_cons.1 hx with rfl | hx
  · exact hp
  · exact h.p x hx, h.m, h.s⟩
theorem Lw.addS (h : Lw w L B S wx) {v : Value} {l : List Sp} (hp : IsSpans wx v l) : Lw w L B ((v, l) :: S) wx := ⟨h.g, h.p, h.m, fun x hx => by
  rcases List.mem_cons.1 hx with rfl | hx
  · exact hp
  · exact h.s x hx⟩
theorem Lw.box (h : Lw w L B S wx) (m : Ms) : Lw w L ((wx.heap.size, m) :: B) S (wx.alloc (.cells (encM m) 47)) := ⟨(h.alloc _).g, (h.alloc _).p, fun x hx => by
  rcases List.mem_cons.1 hx with rfl | hx
  · exact Blk.new _ _ _
  · exact (h.alloc _).m x hx, (h.alloc _).s⟩
theorem Lw.sub {L' : List (Value × List Pr)} {B' : List (Nat × Ms)} {S' : List (Value × List Sp)} (h : Lw w L B S wx) (h1 : ∀ x ∈ L', x ∈ L) (h2 : ∀ x ∈ B', x ∈ B) (h3 : ∀ x ∈ S', x ∈ S) : Lw w L' B' S' wx :=
  ⟨h.g, fun x hx => h.p x (h1 x hx), fun x hx => h.m x (h2 x hx), fun x hx => h.s x (h3 x hx)⟩
theorem Lw.start (h : Below w.heap.size w wx) : Lw w [] [] [] wx := ⟨h, (fun x hx => by cases hx), (fun x hx => by cases hx), (fun x hx => by cases hx)⟩
/-- A list comes back; a list of spans comes back. -/
def LwOut (w : World) (L : List (Value × List Pr)) (B : List (Nat × Ms)) (S : List (Value × List Sp)) (wx : World) (l : List Pr) (e : Ending) (w' : World) : Prop :=
  ∃ p cap, e = .returned (.slice p l.length cap) ∧ IsPairs w' (.slice p l.length cap) l ∧ Below wx.heap.size wx w' ∧ Lw w L B S w'
def LsOut (w : World) (L : List (Value × List Pr)) (B : List (Nat × Ms)) (S : List (Value × List Sp)) (wx : World) (l : List Sp) (e : Ending) (w' : World) : Prop :=
  ∃ p cap, e = .returned (.slice p l.length cap) ∧ IsSpans w' (.slice p l.length cap) l ∧ Below wx.heap.size wx w' ∧ Lw w L B S w'
def LbOut (w : World) (L : List (Value × List Pr)) (B : List (Nat × Ms)) (S : List (Value × List Sp)) (wx : World) (b : Bool) (e : Ending) (w' : World) : Prop :=
  e = .returned (.bool b) ∧ Below wx.heap.size wx w' ∧ Lw w L B S w'
theorem OwnOut.lw {l : List Pr} {e : Ending} {w' : World} (hs : Lw w L B S wx) (h : OwnOut wx.heap.size wx l e w') : LwOut w L B S wx l e w' := by
  obtain ⟨v', h1, -, h3, h4⟩ := h
  obtain ⟨-, -, cap, p, rfl, -⟩ := h3.form
  exact ⟨p, cap, h1, h3, h4, hs.below h4⟩
theorem SpOut.lw {l : List Sp} {e : Ending} {w' : World} (hs : Lw w L B S wx) (h : SpOut wx l e w') : LsOut w L B S wx l e w' := by
  obtain ⟨v', h1, h3, h4⟩ := h
  obtain ⟨-, -, cap, p, rfl, -⟩ := h3.form
  exact ⟨p, cap, h1, h3, h4.below (Nat.le_refl _), hs.below (h4.below (Nat.le_refl _))⟩
theorem lb_grown {b : Bool} {e : Ending} {w' : World} (hs : Lw w L B S wx) (h : e = .returned (.bool b) ∧ Grown wx w') : LbOut w L B S wx b e w' := ⟨h.1, h.2.below (Nat.le_refl _), hs.below (h.2.below (Nat.le_refl _))⟩
theorem lb_drew {b : Bool} {e : Ending} {w' : World} (hs : Lw w L B S wx) (h : e = .returned (.bool b) ∧ ∃ n, w' = wx.drewN n) : LbOut w L B S wx b e w' := by
  obtain ⟨h1, n, rfl⟩ := h
  exact ⟨h1, below_drewN _ _, hs.below (below_drewN _ _)⟩
theorem lw_apply (h : Lw w L B S wx) (m : Ms) {v : Value} (a : List Pr) (ha : IsPairs wx v a) (sa : Srt a) (la : a.length ≤ 10000) (ka : ∀ x ∈ a, x.1.length ≤ 100000) (hm : SizeM m) : Calls Tryz.prog 47 #[v, msgV m] wx (LwOut w L B S wx (applyS m a)) :=
  (apply_w m v a wx ha sa la hm ka).mono fun _ _ hh => OwnOut.lw h hh
theorem lw_all (h : Lw w L B S wx) {v u : Value} (a : List Pr) (ms : List Ms) (ha : IsPairs wx v a) (hu : IsMsgs wx u ms) (sa : Srt a) (hm : ∀ m ∈ ms, SizeM m) (ok : OkAll ms a) : Calls Tryz.prog 26 #[v, u] wx (LwOut w L B S wx (allS ms a)) :=
  (all_w v u a ms wx ha hu sa hm ok).mono fun _ _ hh => OwnOut.lw h hh
theorem lw_table (h : Lw w L B S wx) {v : Value} (l : List Rw) (n : Nat) (hl : IsRaws w v l) (hn : n ≤ 100) : Calls Tryz.prog 39 #[v, .int .i64 n] wx (LwOut w L B S wx (tableS l n)) :=
  (table_w v l n wx (hl.below h.g) hn).mono fun _ _ hh => OwnOut.lw h hh
theorem lw_without (h : Lw w L B S wx) {v u : Value} (a : List Pr) (l : List Sp) (ha : IsPairs wx v a) (hu : IsSpans wx u l) (la : a.length ≤ 50000) : Calls Tryz.prog 44 #[v, u] wx (LwOut w L B S wx (withoutS l a)) :=
  (without_w v u a l wx ha hu la).mono fun _ _ hh => OwnOut.lw h hh
theorem lw_within (h : Lw w L B S wx) {v u : Value} (a : List Pr) (l : List Sp) (ha : IsPairs wx v a) (hu : IsSpans wx u l) (la : a.length ≤ 50000) : Calls Tryz.prog 45 #[v, u] wx (LwOut w L B S wx (withinS l a)) :=
  (within_w v u a l wx ha hu la).mono fun _ _ hh => OwnOut.lw h hh
theorem lw_same (h : Lw w L B S wx) {v u : Value} (a b : List Pr) (ha : IsPairs wx v a) (hb : IsPairs wx u b) : Calls Tryz.prog 46 #[v, u] wx (LbOut w L B S wx (decide (a = b))) :=
  (rsame_w v u a b wx ha hb).mono fun _ _ hh => lb_drew h hh
theorem lw_same_yes (h : Lw w L B S wx) {v u : Value} (a b : List Pr) (ha : IsPairs wx v a) (hb : IsPairs wx u b) (e : a = b) : Calls Tryz.prog 46 #[v, u] wx (LbOut w L B S wx true) := by
  have := lw_same h a b ha hb
  rw [decide_eq_true e] at this; exact this
theorem lw_free (h : Lw w L B S wx) (m o : Ms) (hm : SizeM m) (ho : SizeM o) : Calls Tryz.prog 74 #[msgV m, msgV o] wx (LbOut w L B S wx (freeB m o)) :=
  (free_w m o wx hm ho).mono fun _ _ hh => lb_grown h hh
theorem lw_writes (h : Lw w L B S wx) (m : Ms) (hm : SizeM m) : Calls Tryz.prog 41 #[msgV m] wx (LsOut w L B S wx (writesS m)) := (writes_w m wx hm).mono fun _ _ hh => SpOut.lw h hh
theorem lw_reads (h : Lw w L B S wx) (m : Ms) (hm : SizeM m) : Calls Tryz.prog 40 #[msgV m] wx (LsOut w L B S wx (readsS m)) := (reads_w m wx hm).mono fun _ _ hh => SpOut.lw h hh
theorem lw_kills (h : Lw w L B S wx) (m : Ms) (hm : SizeM m) : Calls Tryz.prog 42 #[msgV m] wx (LsOut w L B S wx (killsS m)) := (kills_w m wx hm).mono fun _ _ hh => SpOut.lw h hh
end

/-- A message laid into its block. -/
@[reducible] def st8 (w : World) (n : Nat) (m : Ms) : World :=
  (((((((w.setCell ⟨n, 0, none⟩ (.int .i64 m.kind)).setCell ⟨n, 1, none⟩ (.string (Str m.key))).setCell ⟨n, 2, none⟩ (.string (Str m.val))).setCell ⟨n, 3, none⟩ (.string (Str m.lo))).setCell ⟨n, 4, none⟩ (.string (Str m.hi))).setCell ⟨n, 5, none⟩ (.string (Str m.src))).setCell ⟨n, 6, none⟩ (.string (Str m.dst))).setCell ⟨n, 7, none⟩ (.int .i64 m.n)
theorem set8_cells (m0 m : Ms) : ((((((((encM m0).setIfInBounds 0 (.int .i64 m.kind)).setIfInBounds 1 (.string (Str m.key))).setIfInBounds 2 (.string (Str m.val))).setIfInBounds 3 (.string (Str m.lo))).setIfInBounds 4 (.string (Str m.hi))).setIfInBounds 5 (.string (Str m.src))).setIfInBounds 6 (.string (Str m.dst))).setIfInBounds 7 (.int .i64 m.n) = encM m := by
  simp [encM]
theorem MBlk.st8 {w : World} {n : Nat} {m0 : Ms} (h : MBlk w n m0) (m : Ms) : MBlk (st8 w n m) n m := by
  have h1 := (((((((h.setCell 0 (.int .i64 m.kind)).setCell 1 (.string (Str m.key))).setCell 2 (.string (Str m.val))).setCell 3 (.string (Str m.lo))).setCell 4 (.string (Str m.hi))).setCell 5 (.string (Str m.src))).setCell 6 (.string (Str m.dst))).setCell 7 (.int .i64 m.n)
  rw [set8_cells] at h1
  exact h1
theorem Blk.other8 {w : World} {k n : Nat} {T : TypeId} {cs : Array Value} (h : Blk w k T cs) (hne : k ≠ n) (m : Ms) : Blk (Go.Proofs.YtaafckefeejjpaaGreat.st8 w n m) k T cs :=
  (((((((h.setCell_other hne 0 _).setCell_other hne 1 _).setCell_other hne 2 _).setCell_other hne 3 _).setCell_other hne 4 _).setCell_other hne 5 _).setCell_other hne 6 _).setCell_other hne 7 _
theorem below_st8 {w wx : World} {B n : Nat} (h : Below B w wx) (hn : B ≤ n) (m : Ms) : Below B w (st8 wx n m) :=
  (((((((h.setCell (p := ⟨n, 0, none⟩) hn _).setCell (p := ⟨n, 1, none⟩) hn _).setCell (p := ⟨n, 2, none⟩) hn _).setCell (p := ⟨n, 3, none⟩) hn _).setCell (p := ⟨n, 4, none⟩) hn _).setCell (p := ⟨n, 5, none⟩) hn _).setCell (p := ⟨n, 6, none⟩) hn _).setCell (p := ⟨n, 7, none⟩) hn _
theorem st8_size (w : World) (n : Nat) (m : Ms) : (st8 w n m).heap.size = w.heap.size := by simp [st8, World.setCell]
theorem st8_cell (w : World) (n : Nat) (m : Ms) {b : Nat} (hne : b ≠ n) (j : Nat) : (st8 w n m).cell? ⟨b, j, none⟩ = w.cell? ⟨b, j, none⟩ := by
  have h : n ≠ b := fun e => hne e.symm
  unfold st8
  rw [World.cell?_setCell_far _ _ _ _ (by exact h), World.cell?_setCell_far _ _ _ _ (by exact h), World.cell?_setCell_far _ _ _ _ (by exact h), World.cell?_setCell_far _ _ _ _ (by exact h), World.cell?_setCell_far _ _ _ _ (by exact h), World.cell?_setCell_far _ _ _ _ (by exact h), World.cell?_setCell_far _ _ _ _ (by exact h), World.cell?_setCell_far _ _ _ _ (by exact h)]
/-- The list does not lie in this block. -/
def OffB (n : Nat) (p : Option Addr) (l : List Pr) : Prop := l = [] ∨ ∀ a, p = some a → a.block ≠ n
theorem IsPairs.off_size {w : World} {p : Option Addr} {k c n : Nat} {l : List Pr} (h : IsPairs w (.slice p k c) l) (hn : w.heap.size ≤ n) : OffB n p l := by
  obtain ⟨a', cap', h1, h2, h3, h5, h4⟩ := h
  cases h1
  by_cases hl : l = []
  · exact .inl hl
  · obtain ⟨b, off, rfl, hlt, -⟩ := h4 hl
    refine .inr fun a ha => ?_
    cases ha
    exact Nat.ne_of_lt (Nat.lt_of_lt_of_le hlt hn)
/-- A list comes back, in a block of its own. -/
def MOut (wr : World) (T : List Pr) (e : Ending) (w' : World) : Prop :=
  ∃ p c, e = .returned (.slice p T.length c) ∧ IsPairs w' (.slice p T.length c) T ∧ (∀ n, n < wr.heap.size → OffB n p T) ∧ Below wr.heap.size wr w'
theorem OwnOut.mout {wr : World} {T : List Pr} {e : Ending} {w' : World} (h : OwnOut wr.heap.size wr T e w') : MOut wr T e w' := by
  obtain ⟨v', h1, h2, h3, h4⟩ := h
  rcases h2.2 with ⟨rfl, h0⟩ | ⟨g, cap, cur, rfl, hb, hg, hn, hm, hsz, htk⟩
  · have hT : T = [] := List.length_eq_zero_iff.1 h0
    subst hT
    exact ⟨none, 0, h1, h3, fun n _ => .inl rfl, h4⟩
  · refine ⟨_, cap, h1, h3, fun n hn => .inr fun a ha => ?_, h4⟩
    cases ha
    exact Nat.ne_of_gt (Nat.lt_of_lt_of_le hn hb)
theorem IsPairs.st8 {w : World} {p : Option Addr} {k c : Nat} {l : List Pr} (h : IsPairs w (.slice p k c) l) {n : Nat} (ho : OffB n p l) (m : Ms) : IsPairs (st8 w n m) (.slice p k c) l := by
  obtain ⟨a', cap', h1, h2, h3, h5, h4⟩ := h
  cases h1
  refine ⟨_, c, rfl, h2, h3, h5, fun hl => ?_⟩
  obtain ⟨b, off, rfl, hlt, hc⟩ := h4 hl
  have hne : b ≠ n := by rcases ho with ho | ho; exact absurd ho hl; exact ho _ rfl
  refine ⟨b, off, rfl, by rw [st8_size]; exact hlt, fun i hi => ?_⟩
  rw [st8_cell _ _ _ hne, st8_cell _ _ _ hne, st8_cell _ _ _ hne]; exact hc i hi
/-- Messages that were just laid side by side. -/
theorem new_msgs2 {n : Nat} (W : World) (m o : Ms) (hn : n = W.heap.size) : IsMsgs (W.alloc (.cells #[.int .i64 m.kind, .string (Str m.key), .string (Str m.val), .string (Str m.lo), .string (Str m.hi), .string (Str m.src), .string (Str m.dst), .int .i64 m.n,
    .int .i64 o.kind, .string (Str o.key), .string (Str o.val), .string (Str o.lo), .string (Str o.hi), .string (Str o.src), .string (Str o.dst), .int .i64 o.n] 47)) (.slice (some ⟨n, 0, none⟩) 2 2) [m, o] := by
  subst hn
  refine ⟨_, 2, rfl, Nat.le_refl _, by unfold maxLen; omega, fun _ => ⟨_, 0, rfl, by simp, fun i hi => ?_⟩⟩
  unfold MAt
  match i, hi with
  | 0, _ => simp [World.cell?_alloc_new]
  | 1, _ => simp [World.cell?_alloc_new]
/-- A message's block, a raw message's block. -/
structure Bx6 (w : World) (a b c d e f : Nat) (wr : World) : Prop where
  b : Blk wr w.heap.size 52 (raw6 a b c d e f)
  g : Below w.heap.size w wr
section
variable {w wx wy : World} {a b c d e f : Nat}
theorem Bx6.below (h : Bx6 w a b c d e f wx) (hb : Below wx.heap.size wx wy) : Bx6 w a b c d e f wy := ⟨h.b.below hb h.b.lt, h.g.trans (hb.mono h.g.size)⟩
theorem Bx6.drew (h : Bx6 w a b c d e f wx) : Bx6 w a b c d e f wx.drew := h.below (below_drewN wx 1)
theorem Bx6.alloc (h : Bx6 w a b c d e f wx) (o : Obj) : Bx6 w a b c d e f (wx.alloc o) := h.below (below_box _)
theorem Bx6.st8 (h : Bx6 w a b c d e f wx) (n : Nat) (hn : w.heap.size < n) (m : Ms) : Bx6 w a b c d e f (st8 wx n m) := ⟨h.b.other8 (Nat.ne_of_lt hn) _, below_st8 h.g (Nat.le_of_lt hn) _⟩
end
theorem blk_made {W w' : World} {cs : Array Value} {T : TypeId} (hb : Below (W.alloc (.cells cs T)).heap.size (W.alloc (.cells cs T)) w') : Blk w' W.heap.size T cs := (Blk.new W T cs).below hb (by simp)
theorem blk_made_d {W w' : World} {cs : Array Value} {T : TypeId} (hb : Below (W.alloc (.cells cs T)).drew.heap.size (W.alloc (.cells cs T)).drew w') : Blk w' W.heap.size T cs :=
  Blk.below (w := (W.alloc (.cells cs T)).drew) (show Blk (W.alloc (.cells cs T)).drew _ _ _ from Blk.new W T cs) hb (by show W.heap.size < (W.alloc _).heap.size; simp)
theorem lw_st8 {w wx : World} {a b c d e f : Nat} (hs : Bx6 w a b c d e f wx) {p : Option Addr} {k cap : Nat} {T : List Pr} (hp : IsPairs wx (.slice p k cap) T) {n : Nat} (ho : OffB n p T)
    (hz : Blk wx n 47 #[.int .i64 0, .string ⟨#[]⟩, .string ⟨#[]⟩, .string ⟨#[]⟩, .string ⟨#[]⟩, .string ⟨#[]⟩, .string ⟨#[]⟩, .int .i64 0]) (hn : w.heap.size < n) (m : Ms) : Lw w [(.slice p k cap, T)] [(n, m)] [] (st8 wx n m) :=
  ⟨below_st8 hs.g (Nat.le_of_lt hn) m, (fun x hx => by rw [List.mem_singleton.1 hx]; exact hp.st8 ho m), (fun x hx => by rw [List.mem_singleton.1 hx]; exact MBlk.st8 (m0 := zeroM 0) hz m), (fun x hx => by cases hx)⟩

end Go.Proofs.YtaafckefeejjpaaGreat
namespace Go.Proofs.YtaafckefeejjpaaGreat
set_option linter.unusedVariables false

def Few (m : Ms) : Prop := m.key.length ≤ 100 ∧ m.dst.length ≤ 100
theorem apply_keys (m : Ms) (K : Nat) {t : List Pr} (ht : Srt t) (hk : ∀ x ∈ t, x.1.length ≤ K) (hm : Few m) : ∀ x ∈ applyS m t, x.1.length ≤ K + 100 := by
  intro x hx
  have old : x ∈ t → x.1.length ≤ K + 100 := fun h => by have := hk x h; omega
  have hcl : ∀ a b, b.length ≤ 100 → x ∈ cloneT a b t → x.1.length ≤ K + 100 := by
    intro a b hb hx
    rcases (mem_clone a b ht x).1 hx with h | h
    · obtain ⟨r, h1, h2⟩ := (mem_moved a b t x).1 h
      have := hk _ h1
      simp only [List.length_append] at this
      rw [h2, List.length_append]; omega
    · exact old h.1
  unfold applyS at hx
  split at hx
  · rcases (mem_put _ _ _).1 hx with h | h
    · rw [h]; have := hm.1; show m.key.length ≤ K + 100; omega
    · exact old h.1
  split at hx
  · exact old ((mem_del _ _ _).1 hx).1
  split at hx
  · exact old ((mem_drop _ _ _).1 hx).1
  split at hx
  · exact hcl m.src m.dst hm.2 ((mem_drop _ _ _).1 hx).1
  split at hx
  · exact hcl m.src m.dst hm.2 hx
  split at hx
  · obtain ⟨y, hy, rfl⟩ := (mem_stamp _ _ _ _).1 hx
    rw [stampP_key]; have := hk y hy; omega
  · exact old hx
theorem all_few (ms : List Ms) {t : List Pr} (ht : Srt t) (hl : t.length ≤ 12) (hk : ∀ x ∈ t, x.1.length ≤ 100) (hm : ∀ m ∈ ms, Few m) : ∀ k, k ≤ ms.length → (allS (ms.take k) t).length + 1 ≤ 13 * 2 ^ k ∧ ∀ x ∈ allS (ms.take k) t, x.1.length ≤ 100 + 100 * k
  | 0, _ => by simp only [List.take_zero]; exact ⟨by show t.length + 1 ≤ _; omega, fun x hx => by have := hk x hx; omega⟩
  | k + 1, h => by
    obtain ⟨h1, h2⟩ := all_few ms ht hl hk hm k (by omega)
    have hlt : k < ms.length := h
    rw [all_take ms t k hlt]
    have h3 := apply_len ms[k] (allS (ms.take k) t)
    have h4 := apply_keys ms[k] _ (srt_all (ms.take k) ht) h2 (hm _ (List.getElem_mem hlt))
    refine ⟨?_, fun x hx => ?_⟩
    · rw [Nat.pow_succ]; omega
    · have := h4 x hx; omega
theorem okAll_few (ms : List Ms) {t : List Pr} (ht : Srt t) (hl : t.length ≤ 12) (hk : ∀ x ∈ t, x.1.length ≤ 100) (hm : ∀ m ∈ ms, Few m) (h8 : ms.length ≤ 8) : OkAll ms t := by
  intro k h
  obtain ⟨h1, h2⟩ := all_few ms ht hl hk hm k h
  have h3 : 2 ^ k ≤ 2 ^ 8 := Nat.pow_le_pow_right (by decide) (by omega)
  refine ⟨by omega, fun x hx => ?_⟩
  have := h2 x hx; omega
theorem made_few (a b c d e f : Nat) : Few (madeM a b c d e f) := by
  have k1 := key_len b
  have t1 := to_len b d
  unfold Few madeM
  split
  · simp; omega
  split
  · simp; omega
  split
  · simp
  split
  · simp; omega
  split
  · simp; omega
  · simp
theorem preH_length (p : Bs) : ∀ h, preH p = some h → h.length ≤ p.length := by
  induction p with
  | nil => intro h e; simp [preH] at e
  | cons c r ih =>
    intro h e
    rw [preH_cons] at e
    cases hr : preH r with
    | some h2 =>
      rw [hr] at e
      have := ih h2 hr
      simp at e
      rw [← e]; simp; omega
    | none =>
      rw [hr] at e
      by_cases h255 : c = 255
      · simp [h255] at e
      · simp [h255] at e
        rw [← e]; simp
theorem preT_length (p : Bs) : (preT p).length ≤ p.length := by
  unfold preT
  cases h : preH p with
  | none => simp
  | some q => exact preH_length p q h
theorem without_one (s : Sp) (t : List Pr) : withoutS [s] t = dropS s t := by
  unfold withoutS dropS
  congr 1; funext x; rw [inB_one]
theorem apart_both {a b : Bs} (h : apartB a b = true) : b.isPrefixOf a = false ∧ a.isPrefixOf b = false := by
  unfold apartB at h
  simp only [Bool.and_eq_true, Bool.not_eq_true'] at h
  exact h.2.2
theorem move_clone (a b : Bs) (t : List Pr) (m : Ms) (hm : m.kind = 4) (h1 : m.src = a) (h2 : m.dst = b) : allS [⟨5, [], [], [], [], a, b, 0⟩, ⟨3, [], [], a, preT a, [], [], 0⟩] t = applyS m t := by
  unfold applyS
  rw [if_neg (by omega), if_neg (by omega), if_neg (by omega), if_pos hm, h1, h2]
  rfl
theorem move_again (a b : Bs) {t : List Pr} (ht : Srt t) (m : Ms) (hm : m.kind = 4) (h1 : m.src = a) (h2 : m.dst = b) (hp : apartB a b = true) : allS [m, ⟨4, [], [], [], [], b, a, 0⟩] t = withoutS [preS b] t := by
  obtain ⟨p1, p2⟩ := apart_both hp
  have e : allS [m, ⟨4, [], [], [], [], b, a, 0⟩] t = moveT b a (applyS m t) := rfl
  rw [e, without_one]
  unfold applyS
  rw [if_neg (by omega), if_neg (by omega), if_neg (by omega), if_pos hm, h1, h2]
  exact move_back ht p1 p2

end Go.Proofs.YtaafckefeejjpaaGreat
