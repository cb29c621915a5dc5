/-
  Walks: Reads, Writes and Kills, whatever the kind; Free.
-/
import Derived.Test.YtaafckefeejjpaaGreatMF
import Derived.Test.YtaafckefeejjpaaGreatMR2
namespace Go.Proofs.YtaafckefeejjpaaGreat
open Go.RowKit Go.Sort
set_option linter.unusedVariables false

/-- The texts of a message are no longer than memory may be. -/
def SizeM (m : Ms) : Prop := m.key.length ≤ 100000 ∧ m.val.length ≤ 100000 ∧ m.lo.length ≤ 100000 ∧ m.hi.length ≤ 100000 ∧ m.src.length ≤ 100000 ∧ m.dst.length ≤ 100000
theorem SpOut.none (w : World) : SpOut w [] (.returned (.slice none 0 0)) w := ⟨_, rfl, IsSpans.nil _ 0 (by unfold maxLen; omega), Grown.refl _⟩
theorem reads_put (b : Nat) (w : World) : Calls Tryz.prog 163 #[ptrV b] w (SpOut w []) := by
  go_enter Tryz.func163, Tryz.ntmps163
  go_wp2
  go_ret
  exact SpOut.none _
theorem reads_del (b : Nat) (w : World) : Calls Tryz.prog 178 #[ptrV b] w (SpOut w []) := by
  go_enter Tryz.func178, Tryz.ntmps178
  go_wp2
  go_ret
  exact SpOut.none _
theorem reads_drop (b : Nat) (w : World) : Calls Tryz.prog 186 #[ptrV b] w (SpOut w []) := by
  go_enter Tryz.func186, Tryz.ntmps186
  go_wp2
  go_ret
  exact SpOut.none _
theorem kills_stamp (b : Nat) (w : World) : Calls Tryz.prog 213 #[ptrV b] w (SpOut w []) := by
  go_enter Tryz.func213, Tryz.ntmps213
  go_wp2
  go_ret
  exact SpOut.none _
theorem reads_none (b : Nat) (w : World) : Calls Tryz.prog 221 #[ptrV b] w (SpOut w []) := by
  go_enter Tryz.func221, Tryz.ntmps221
  go_wp2
  go_ret
  exact SpOut.none _
theorem writes_none (b : Nat) (w : World) : Calls Tryz.prog 222 #[ptrV b] w (SpOut w []) := by
  go_enter Tryz.func222, Tryz.ntmps222
  go_wp2
  go_ret
  exact SpOut.none _
theorem kills_none (b : Nat) (w : World) : Calls Tryz.prog 220 #[ptrV b] w (SpOut w []) := by
  go_enter Tryz.func220, Tryz.ntmps220
  go_wp2
  go_ret
  exact SpOut.none _
theorem kills_put (b : Nat) (m : Ms) (w : World) (h : MBlk w b m) (hk : m.key.length ≤ 140737488355328) : Calls Tryz.prog 162 #[ptrV b] w (SpOut w [oneS m.key]) := by
  have H := Lib.hid (writes_put b m w h hk)
  clear h
  go_enter Tryz.func162, Tryz.ntmps162
  go_wp2_with (go_at_call 164; refine H.out.mono ?_; intro e w2 h2; have H2 := Lib.hid h2; obtain ⟨v', rfl, -⟩ := h2)
  go_ret
  exact H2.out
theorem kills_del (b : Nat) (m : Ms) (w : World) (h : MBlk w b m) (hk : m.key.length ≤ 140737488355328) : Calls Tryz.prog 177 #[ptrV b] w (SpOut w [oneS m.key]) := by
  have H := Lib.hid (writes_del b m w h hk)
  clear h
  go_enter Tryz.func177, Tryz.ntmps177
  go_wp2_with (go_at_call 179; refine H.out.mono ?_; intro e w2 h2; have H2 := Lib.hid h2; obtain ⟨v', rfl, -⟩ := h2)
  go_ret
  exact H2.out
theorem kills_drop (b : Nat) (m : Ms) (w : World) (h : MBlk w b m)  : Calls Tryz.prog 185 #[ptrV b] w (SpOut w [(m.lo, m.hi)]) := by
  have H := Lib.hid (writes_drop b m w h )
  clear h
  go_enter Tryz.func185, Tryz.ntmps185
  go_wp2_with (go_at_call 187; refine H.out.mono ?_; intro e w2 h2; have H2 := Lib.hid h2; obtain ⟨v', rfl, -⟩ := h2)
  go_ret
  exact H2.out
theorem kills_clone (b : Nat) (m : Ms) (w : World) (h : MBlk w b m) (hk : m.dst.length ≤ 140737488355328) : Calls Tryz.prog 207 #[ptrV b] w (SpOut w [preS m.dst]) := by
  have H := Lib.hid (writes_clone b m w h hk)
  clear h
  go_enter Tryz.func207, Tryz.ntmps207
  go_wp2_with (go_at_call 209; refine H.out.mono ?_; intro e w2 h2; have H2 := Lib.hid h2; obtain ⟨v', rfl, -⟩ := h2)
  go_ret
  exact H2.out
theorem kills_move (b : Nat) (m : Ms) (w : World) (h : MBlk w b m) (h1 : m.src.length ≤ 140737488355328) (h2 : m.dst.length ≤ 140737488355328) : Calls Tryz.prog 192 #[ptrV b] w (SpOut w [preS m.src, preS m.dst]) := by
  have H := Lib.hid (writes_move b m w h h1 h2)
  clear h
  go_enter Tryz.func192, Tryz.ntmps192
  go_wp2_with (go_at_call 194; refine H.out.mono ?_; intro e w2 h2; have H2 := Lib.hid h2; obtain ⟨v', rfl, -⟩ := h2)
  go_ret
  exact H2.out
theorem readsF_w (b : Nat) (m : Ms) (w : World) (h : MBlk w b m) (hz : SizeM m) : Calls Tryz.prog (readsF m.kind) #[ptrV b] w (SpOut w (readsS m)) := by
  obtain ⟨z1, z2, z3, z4, z5, z6⟩ := hz
  unfold readsF pickF readsS
  by_cases h1 : m.kind = 1
  · simp only [h1]; exact reads_put b w
  by_cases h2 : m.kind = 2
  · simp only [h2]; exact reads_del b w
  by_cases h3 : m.kind = 3
  · simp only [h3]; exact reads_drop b w
  by_cases h4 : m.kind = 4
  · simp only [h4]; exact reads_move b m w h (by omega)
  by_cases h5 : m.kind = 5
  · simp only [h5]; exact reads_clone b m w h (by omega)
  by_cases h6 : m.kind = 6
  · simp only [h6]; exact reads_stamp b m w h
  simp only [h1, h2, h3, h4, h5, h6, if_false]
  exact reads_none b w
theorem writesF_w (b : Nat) (m : Ms) (w : World) (h : MBlk w b m) (hz : SizeM m) : Calls Tryz.prog (writesF m.kind) #[ptrV b] w (SpOut w (writesS m)) := by
  obtain ⟨z1, z2, z3, z4, z5, z6⟩ := hz
  unfold writesF pickF writesS
  by_cases h1 : m.kind = 1
  · simp only [h1]; exact writes_put b m w h (by omega)
  by_cases h2 : m.kind = 2
  · simp only [h2]; exact writes_del b m w h (by omega)
  by_cases h3 : m.kind = 3
  · simp only [h3]; exact writes_drop b m w h
  by_cases h4 : m.kind = 4
  · simp only [h4]; exact writes_move b m w h (by omega) (by omega)
  by_cases h5 : m.kind = 5
  · simp only [h5]; exact writes_clone b m w h (by omega)
  by_cases h6 : m.kind = 6
  · simp only [h6]; exact writes_stamp b m w h
  simp only [h1, h2, h3, h4, h5, h6, if_false]
  exact writes_none b w
theorem killsF_w (b : Nat) (m : Ms) (w : World) (h : MBlk w b m) (hz : SizeM m) : Calls Tryz.prog (killsF m.kind) #[ptrV b] w (SpOut w (killsS m)) := by
  obtain ⟨z1, z2, z3, z4, z5, z6⟩ := hz
  unfold killsF pickF killsS writesS
  by_cases h1 : m.kind = 1
  · simp only [h1]; exact kills_put b m w h (by omega)
  by_cases h2 : m.kind = 2
  · simp only [h2]; exact kills_del b m w h (by omega)
  by_cases h3 : m.kind = 3
  · simp only [h3]; exact kills_drop b m w h
  by_cases h4 : m.kind = 4
  · simp only [h4]; exact kills_move b m w h (by omega) (by omega)
  by_cases h5 : m.kind = 5
  · simp only [h5]; exact kills_clone b m w h (by omega)
  by_cases h6 : m.kind = 6
  · simp only [h6]; exact kills_stamp b w
  simp only [h1, h2, h3, h4, h5, h6, if_false]
  exact kills_none b w
set_option maxRecDepth 100000 in
set_option maxHeartbeats 1000000 in
theorem reads_w (m : Ms) (w : World) (hz : SizeM m) : Calls Tryz.prog 40 #[msgV m] w (SpOut w (readsS m)) := by
  have hB : MBlk (w.alloc (.cells (encM m) 47)) w.heap.size m := Blk.new _ _ _
  have HF := Lib.hid (readsF_w w.heap.size m _ hB hz)
  have HO := Lib.hid (of_w m.kind w.heap.size _ hB.plain.1)
  have hm := disp_reads.m m.kind w.heap.size
  have hc := disp_reads.c m.kind
  clear hB hz
  go_enter Tryz.func40, Tryz.ntmps40
  go_wp2_with fail
  refine HO.out.mono ?_
  rintro e w1 ⟨rfl, rfl⟩
  go_wp2_with fail
  refine HF.out.mono ?_
  intro e w2 h2
  have H2 := Lib.hid (h2.grown ((Grown.refl w).alloc _))
  obtain ⟨v', rfl, -⟩ := h2
  go_wp2
  go_ret
  exact H2.out
set_option maxRecDepth 100000 in
set_option maxHeartbeats 1000000 in
theorem writes_w (m : Ms) (w : World) (hz : SizeM m) : Calls Tryz.prog 41 #[msgV m] w (SpOut w (writesS m)) := by
  have hB : MBlk (w.alloc (.cells (encM m) 47)) w.heap.size m := Blk.new _ _ _
  have HF := Lib.hid (writesF_w w.heap.size m _ hB hz)
  have HO := Lib.hid (of_w m.kind w.heap.size _ hB.plain.1)
  have hm := disp_writes.m m.kind w.heap.size
  have hc := disp_writes.c m.kind
  clear hB hz
  go_enter Tryz.func41, Tryz.ntmps41
  go_wp2_with fail
  refine HO.out.mono ?_
  rintro e w1 ⟨rfl, rfl⟩
  go_wp2_with fail
  refine HF.out.mono ?_
  intro e w2 h2
  have H2 := Lib.hid (h2.grown ((Grown.refl w).alloc _))
  obtain ⟨v', rfl, -⟩ := h2
  go_wp2
  go_ret
  exact H2.out
set_option maxRecDepth 100000 in
set_option maxHeartbeats 1000000 in
theorem kills_w (m : Ms) (w : World) (hz : SizeM m) : Calls Tryz.prog 42 #[msgV m] w (SpOut w (killsS m)) := by
  have hB : MBlk (w.alloc (.cells (encM m) 47)) w.heap.size m := Blk.new _ _ _
  have HF := Lib.hid (killsF_w w.heap.size m _ hB hz)
  have HO := Lib.hid (of_w m.kind w.heap.size _ hB.plain.1)
  have hm := disp_kills.m m.kind w.heap.size
  have hc := disp_kills.c m.kind
  clear hB hz
  go_enter Tryz.func42, Tryz.ntmps42
  go_wp2_with fail
  refine HO.out.mono ?_
  rintro e w1 ⟨rfl, rfl⟩
  go_wp2_with fail
  refine HF.out.mono ?_
  intro e w2 h2
  have H2 := Lib.hid (h2.grown ((Grown.refl w).alloc _))
  obtain ⟨v', rfl, -⟩ := h2
  go_wp2
  go_ret
  exact H2.out

end Go.Proofs.YtaafckefeejjpaaGreat
