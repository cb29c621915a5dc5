/-
  Walks: what messages read, write and kill. Walks: Reads, Writes and Kills, whatever the kind; Free.
-/
import Derived.Test.YtmbfghbhajmpiaaGreatMAC
import Derived.Test.YtmbfghbhajmpiaaGreatMRR
namespace Go.Proofs.YtmbfghbhajmpiaaGreat
open Go.RowKit Go.Sort
set_option linter.unusedVariables false

/-- A list of spans handed back. -/
def SpOut (w : World) (l : List Sp) (e : Ending) (w' : World) : Prop := ∃ v', e = .returned v' ∧ IsSpans w' v' l ∧ Grown w w'
theorem IsSpans.nil (w : World) (c : Nat) (hc : c ≤ maxLen) : IsSpans w (.slice none 0 c) [] := ⟨none, c, rfl, Nat.zero_le _, hc, fun h => absurd rfl h⟩
theorem one_spans {w : World} {n : Nat} (s : Sp) (T : TypeId) (hn : n = w.heap.size) : IsSpans (w.alloc (.cells #[.string (Str s.1), .string (Str s.2)] T)) (.slice (some ⟨n, 0, none⟩) 1 1) [s] := by
  subst hn
  refine ⟨_, 1, rfl, Nat.le_refl _, by unfold maxLen; omega, fun _ => ⟨w.heap.size, 0, rfl, by simp, fun i hi => ?_⟩⟩
  obtain rfl : i = 0 := by simpa using hi
  exact ⟨(Blk.new w T #[.string (Str s.1), .string (Str s.2)]).c0 0 _ rfl, (Blk.new w T #[.string (Str s.1), .string (Str s.2)]).c0 1 _ rfl⟩
theorem two_spans {w : World} {n : Nat} (s t : Sp) (T : TypeId) (hn : n = w.heap.size) : IsSpans (w.alloc (.cells #[.string (Str s.1), .string (Str s.2), .string (Str t.1), .string (Str t.2)] T)) (.slice (some ⟨n, 0, none⟩) 2 2) [s, t] := by
  subst hn
  have B := Blk.new w T #[.string (Str s.1), .string (Str s.2), .string (Str t.1), .string (Str t.2)]
  refine ⟨_, 2, rfl, Nat.le_refl _, by unfold maxLen; omega, fun _ => ⟨w.heap.size, 0, rfl, by simp, fun i hi => ?_⟩⟩
  have : i = 0 ∨ i = 1 := by simp at hi; omega
  rcases this with rfl | rfl
  · exact ⟨B.c0 0 _ rfl, B.c0 1 _ rfl⟩
  · exact ⟨B.c0 2 _ rfl, B.c0 3 _ rfl⟩
theorem SpOut.grown {w w0 : World} {l : List Sp} {e : Ending} {w' : World} (h : SpOut w l e w') (hg : Grown w0 w) : SpOut w0 l e w' := by
  obtain ⟨v', h1, h2, h3⟩ := h; exact ⟨v', h1, h2, hg.trans h3⟩

set_option maxHeartbeats 1000000 in
theorem writes_put (b : Nat) (m : Ms) (w : World) (h : MBlk w b m) (hk : m.key.length ≤ 140737488355328) : Calls Tryz.prog 296 #[ptrV b] w (SpOut w [oneS m.key]) := by
  obtain ⟨-, c1, -⟩ := h.plain
  have HO := Lib.hid (one_w m.key w hk)
  clear h hk
  go_enter Tryz.func296, Tryz.ntmps296
  go_wp2_with (go_at_call 300; refine HO.out.mono ?_; rintro e w1 ⟨rfl, hg⟩; have Hg := Lib.hid hg; clear hg)
  go_ret
  exact ⟨_, rfl, one_spans (oneS m.key) _ rfl, Hg.out.alloc _⟩
set_option maxHeartbeats 1000000 in
theorem writes_del (b : Nat) (m : Ms) (w : World) (h : MBlk w b m) (hk : m.key.length ≤ 140737488355328) : Calls Tryz.prog 311 #[ptrV b] w (SpOut w [oneS m.key]) := by
  obtain ⟨-, c1, -⟩ := h.plain
  have HO := Lib.hid (one_w m.key w hk)
  clear h hk
  go_enter Tryz.func311, Tryz.ntmps311
  go_wp2_with (go_at_call 300; refine HO.out.mono ?_; rintro e w1 ⟨rfl, hg⟩; have Hg := Lib.hid hg; clear hg)
  go_ret
  exact ⟨_, rfl, one_spans (oneS m.key) _ rfl, Hg.out.alloc _⟩
set_option maxHeartbeats 1000000 in
theorem writes_drop (b : Nat) (m : Ms) (w : World) (h : MBlk w b m) : Calls Tryz.prog 319 #[ptrV b] w (SpOut w [(m.lo, m.hi)]) := by
  obtain ⟨-, -, -, c3, c4, -⟩ := h.plain
  clear h
  go_enter Tryz.func319, Tryz.ntmps319
  go_wp2
  go_ret
  exact ⟨_, rfl, one_spans (m.lo, m.hi) _ rfl, (Grown.refl w).alloc _⟩
set_option maxHeartbeats 1000000 in
theorem writes_stamp (b : Nat) (m : Ms) (w : World) (h : MBlk w b m) : Calls Tryz.prog 346 #[ptrV b] w (SpOut w [(m.lo, m.hi)]) := by
  obtain ⟨-, -, -, c3, c4, -⟩ := h.plain
  clear h
  go_enter Tryz.func346, Tryz.ntmps346
  go_wp2
  go_ret
  exact ⟨_, rfl, one_spans (m.lo, m.hi) _ rfl, (Grown.refl w).alloc _⟩
set_option maxHeartbeats 1000000 in
theorem reads_stamp (b : Nat) (m : Ms) (w : World) (h : MBlk w b m) : Calls Tryz.prog 345 #[ptrV b] w (SpOut w [(m.lo, m.hi)]) := by
  obtain ⟨-, -, -, c3, c4, -⟩ := h.plain
  clear h
  go_enter Tryz.func345, Tryz.ntmps345
  go_wp2
  go_ret
  exact ⟨_, rfl, one_spans (m.lo, m.hi) _ rfl, (Grown.refl w).alloc _⟩
set_option maxHeartbeats 1000000 in
theorem writes_clone (b : Nat) (m : Ms) (w : World) (h : MBlk w b m) (hk : m.dst.length ≤ 140737488355328) : Calls Tryz.prog 340 #[ptrV b] w (SpOut w [preS m.dst]) := by
  obtain ⟨-, -, -, -, -, -, c6, -⟩ := h.plain
  have HO := Lib.hid (prefix_w m.dst w hk)
  clear h hk
  go_enter Tryz.func340, Tryz.ntmps340
  go_wp2_with (go_at_call 328; refine HO.out.mono ?_; rintro e w1 ⟨rfl, hg⟩; have Hg := Lib.hid hg; clear hg)
  go_ret
  exact ⟨_, rfl, one_spans (preS m.dst) _ rfl, Hg.out.alloc _⟩
set_option maxHeartbeats 1000000 in
theorem reads_clone (b : Nat) (m : Ms) (w : World) (h : MBlk w b m) (hk : m.src.length ≤ 140737488355328) : Calls Tryz.prog 339 #[ptrV b] w (SpOut w [preS m.src]) := by
  obtain ⟨-, -, -, -, -, c5, -⟩ := h.plain
  have HO := Lib.hid (prefix_w m.src w hk)
  clear h hk
  go_enter Tryz.func339, Tryz.ntmps339
  go_wp2_with (go_at_call 328; refine HO.out.mono ?_; rintro e w1 ⟨rfl, hg⟩; have Hg := Lib.hid hg; clear hg)
  go_ret
  exact ⟨_, rfl, one_spans (preS m.src) _ rfl, Hg.out.alloc _⟩
set_option maxHeartbeats 1000000 in
theorem reads_move (b : Nat) (m : Ms) (w : World) (h : MBlk w b m) (hk : m.src.length ≤ 140737488355328) : Calls Tryz.prog 325 #[ptrV b] w (SpOut w [preS m.src]) := by
  obtain ⟨-, -, -, -, -, c5, -⟩ := h.plain
  have HO := Lib.hid (prefix_w m.src w hk)
  clear h hk
  go_enter Tryz.func325, Tryz.ntmps325
  go_wp2_with (go_at_call 328; refine HO.out.mono ?_; rintro e w1 ⟨rfl, hg⟩; have Hg := Lib.hid hg; clear hg)
  go_ret
  exact ⟨_, rfl, one_spans (preS m.src) _ rfl, Hg.out.alloc _⟩
/-- What was there stays, and more is there. -/
structure SG (w wx : World) : Prop where
  g : Grown w wx
theorem SG.step {w wx wy : World} (h : SG w wx) (hg : Grown wx wy) : SG w wy := ⟨h.g.trans hg⟩
theorem SG.drew {w wx : World} (h : SG w wx) : SG w wx.drew := ⟨h.g.draw⟩
theorem SG.refl (w : World) : SG w w := ⟨Grown.refl _⟩
set_option maxRecDepth 100000 in
set_option maxHeartbeats 2000000 in
theorem writes_move (b : Nat) (m : Ms) (w : World) (h : MBlk w b m) (h1 : m.src.length ≤ 140737488355328) (h2 : m.dst.length ≤ 140737488355328) : Calls Tryz.prog 326 #[ptrV b] w (SpOut w [preS m.src, preS m.dst]) := by
  have hc5 : ∀ wr, SG w wr → wr.cell? ⟨b, 5, none⟩ = some (.string (Str m.src)) := fun wr hr => (h.below (hr.g.below (Nat.le_refl _)) h.lt).c0 5 _ rfl
  have hc6 : ∀ wr, SG w wr → wr.cell? ⟨b, 6, none⟩ = some (.string (Str m.dst)) := fun wr hr => (h.below (hr.g.below (Nat.le_refl _)) h.lt).c0 6 _ rfl
  have HP := Lib.hid (fun wr => prefix_w m.src wr h1)
  have HQ := Lib.hid (fun wr => prefix_w m.dst wr h2)
  have HS0 := Lib.hid (SG.refl w)
  have mixed := mixedA
  clear h h1 h2
  generalize m.src = s at *
  generalize m.dst = d at *
  go_enter Tryz.func326, Tryz.ntmps326
  go_wp2_with fail
  go_region_held3 (fun wr => SG w wr) (first | with_reducible assumption | exact SG.step (by with_reducible assumption) (by with_reducible assumption) | exact HS0.out.drew | exact SG.step (by with_reducible assumption) ((Grown.refl _).alloc _))
    (first
      | (go_at_call_of 328 (Value.string (Str s)); (with_reducible refine (HP.out _).mono ?_); rintro e w2 ⟨rfl, hg2⟩)
      | (go_at_call 328; (with_reducible refine (HQ.out _).mono ?_); rintro e w3 ⟨rfl, hg3⟩))
  all_goals
    go_wp2
    go_ret
    refine ⟨_, rfl, two_spans (preS s) (preS d) _ rfl, ?_⟩
    exact SG.g (by with_reducible assumption)

end Go.Proofs.YtmbfghbhajmpiaaGreat
namespace Go.Proofs.YtmbfghbhajmpiaaGreat
open Go.RowKit Go.Sort
set_option linter.unusedVariables false

/-- The texts of a message are no longer than memory may be. -/
def SizeM (m : Ms) : Prop := m.key.length ≤ 1000000000 ∧ m.val.length ≤ 1000000000 ∧ m.lo.length ≤ 1000000000 ∧ m.hi.length ≤ 1000000000 ∧ m.src.length ≤ 1000000000 ∧ m.dst.length ≤ 1000000000
theorem SpOut.none (w : World) : SpOut w [] (.returned (.slice none 0 0)) w := ⟨_, rfl, IsSpans.nil _ 0 (by unfold maxLen; omega), Grown.refl _⟩
theorem reads_put (b : Nat) (w : World) : Calls Tryz.prog 295 #[ptrV b] w (SpOut w []) := by
  go_enter Tryz.func295, Tryz.ntmps295
  go_wp2
  go_ret
  exact SpOut.none _
theorem reads_del (b : Nat) (w : World) : Calls Tryz.prog 310 #[ptrV b] w (SpOut w []) := by
  go_enter Tryz.func310, Tryz.ntmps310
  go_wp2
  go_ret
  exact SpOut.none _
theorem reads_drop (b : Nat) (w : World) : Calls Tryz.prog 318 #[ptrV b] w (SpOut w []) := by
  go_enter Tryz.func318, Tryz.ntmps318
  go_wp2
  go_ret
  exact SpOut.none _
theorem reads_none (b : Nat) (w : World) : Calls Tryz.prog 351 #[ptrV b] w (SpOut w []) := by
  go_enter Tryz.func351, Tryz.ntmps351
  go_wp2
  go_ret
  exact SpOut.none _
theorem writes_none (b : Nat) (w : World) : Calls Tryz.prog 352 #[ptrV b] w (SpOut w []) := by
  go_enter Tryz.func352, Tryz.ntmps352
  go_wp2
  go_ret
  exact SpOut.none _
theorem readsF_w (b : Nat) (m : Ms) (w : World) (h : MBlk w b m) (hz : SizeM m) : Calls Tryz.prog (readsF m.kind) #[ptrV b] w (SpOut w (readsS m)) := by
  obtain ⟨z1, z2, z3, z4, z5, z6⟩ := hz
  unfold readsF pickF readsS
  by_cases h1 : m.kind = 1
  · simp only [h1]; exact reads_put b w
  by_cases h2 : m.kind = 2
  · simp only [h2]; exact reads_del b w
  by_cases h3 : m.kind = 3
  · simp only [h3]; exact reads_drop b w
  by_cases h4 : m.kind = 4
  · simp only [h4]; exact reads_move b m w h (by omega)
  by_cases h5 : m.kind = 5
  · simp only [h5]; exact reads_clone b m w h (by omega)
  by_cases h6 : m.kind = 6
  · simp only [h6]; exact reads_stamp b m w h
  simp only [h1, h2, h3, h4, h5, h6, if_false]
  exact reads_none b w
theorem writesF_w (b : Nat) (m : Ms) (w : World) (h : MBlk w b m) (hz : SizeM m) : Calls Tryz.prog (writesF m.kind) #[ptrV b] w (SpOut w (writesS m)) := by
  obtain ⟨z1, z2, z3, z4, z5, z6⟩ := hz
  unfold writesF pickF writesS
  by_cases h1 : m.kind = 1
  · simp only [h1]; exact writes_put b m w h (by omega)
  by_cases h2 : m.kind = 2
  · simp only [h2]; exact writes_del b m w h (by omega)
  by_cases h3 : m.kind = 3
  · simp only [h3]; exact writes_drop b m w h
  by_cases h4 : m.kind = 4
  · simp only [h4]; exact writes_move b m w h (by omega) (by omega)
  by_cases h5 : m.kind = 5
  · simp only [h5]; exact writes_clone b m w h (by omega)
  by_cases h6 : m.kind = 6
  · simp only [h6]; exact writes_stamp b m w h
  simp only [h1, h2, h3, h4, h5, h6, if_false]
  exact writes_none b w
set_option maxRecDepth 100000 in
set_option maxHeartbeats 1000000 in
theorem reads_w (m : Ms) (w : World) (hz : SizeM m) : Calls Tryz.prog 93 #[msgV m] w (SpOut w (readsS m)) := by
  have hB : MBlk (w.alloc (.cells (encM m) 46)) w.heap.size m := Blk.new _ _ _
  have HF := Lib.hid (readsF_w w.heap.size m _ hB hz)
  have HO := Lib.hid (of_w m.kind w.heap.size _ hB.plain.1)
  have hm := disp_reads.m m.kind w.heap.size
  have hc := disp_reads.c m.kind
  clear hB hz
  go_enter Tryz.func93, Tryz.ntmps93
  go_wp2_with fail
  refine HO.out.mono ?_
  rintro e w1 ⟨rfl, rfl⟩
  go_wp2_with fail
  refine HF.out.mono ?_
  intro e w2 h2
  have H2 := Lib.hid (h2.grown ((Grown.refl w).alloc _))
  obtain ⟨v', rfl, -⟩ := h2
  go_wp2
  go_ret
  exact H2.out
set_option maxRecDepth 100000 in
set_option maxHeartbeats 1000000 in
theorem writes_w (m : Ms) (w : World) (hz : SizeM m) : Calls Tryz.prog 94 #[msgV m] w (SpOut w (writesS m)) := by
  have hB : MBlk (w.alloc (.cells (encM m) 46)) w.heap.size m := Blk.new _ _ _
  have HF := Lib.hid (writesF_w w.heap.size m _ hB hz)
  have HO := Lib.hid (of_w m.kind w.heap.size _ hB.plain.1)
  have hm := disp_writes.m m.kind w.heap.size
  have hc := disp_writes.c m.kind
  clear hB hz
  go_enter Tryz.func94, Tryz.ntmps94
  go_wp2_with fail
  refine HO.out.mono ?_
  rintro e w1 ⟨rfl, rfl⟩
  go_wp2_with fail
  refine HF.out.mono ?_
  intro e w2 h2
  have H2 := Lib.hid (h2.grown ((Grown.refl w).alloc _))
  obtain ⟨v', rfl, -⟩ := h2
  go_wp2
  go_ret
  exact H2.out
end Go.Proofs.YtmbfghbhajmpiaaGreat
