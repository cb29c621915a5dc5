/-
  Walks: the spans that a message reads, writes and kills, handed back in a row that was made anew. Walks: the keys that are dead before a message. Walks: whether a list of spans has one with a key that is not dead; clones of lists of spans.
-/
import Derived.Test.YtpppkjcbheooeaaGreatFKN
import Derived.Test.YtpppkjcbheooeaaGreatMFG
import Derived.Deep.RegionLawGrows
namespace Go.Proofs.YtpppkjcbheooeaaGreat.Fresh
open Go.RowKit Go.Sort
set_option linter.unusedVariables false

def SpOut (w : World) (l : List Sp) (e : Ending) (w' : World) : Prop := ∃ v', e = .returned v' ∧ (IsSpans w' v' l ∧ ∀ j, v'.ownBlock = some j → w.heap.size ≤ j) ∧ Grown w w'
theorem grown_size {w w' : World} (h : Grown w w') : w.heap.size ≤ w'.heap.size := (h.below (Nat.le_refl _)).size
theorem fresh_of {w w1 : World} (h : Grown w w1) (n c : Nat) : ∀ j, (Value.slice (some ⟨w1.heap.size, 0, none⟩) n c).ownBlock = some j → w.heap.size ≤ j := fun j hj => by
  have h2 : w1.heap.size = j := Option.some.inj hj
  have := grown_size h
  omega
theorem SpOut.grown {w w0 : World} {l : List Sp} {e : Ending} {w' : World} (h : SpOut w l e w') (hg : Grown w0 w) : SpOut w0 l e w' := by
  obtain ⟨v', h1, h2, h3⟩ := h; exact ⟨v', h1, ⟨h2.1, fun j hj => Nat.le_trans (grown_size hg) (h2.2 j hj)⟩, hg.trans h3⟩

set_option maxHeartbeats 1000000 in
theorem writes_put (b : Nat) (m : Ms) (w : World) (h : MBlk w b m) (hk : m.key.length ≤ 140737488355328) : Calls Tryz.prog 156 #[ptrV b] w (SpOut w [oneS m.key]) := by
  obtain ⟨-, c1, -⟩ := h.plain
  have HO := Lib.hid (one_w m.key w hk)
  clear h hk
  go_enter Tryz.func156, Tryz.ntmps156
  go_wp2_with (go_at_call 160; refine HO.out.mono ?_; rintro e w1 ⟨rfl, hg⟩; have Hg := Lib.hid hg; clear hg)
  go_ret
  exact ⟨_, rfl, ⟨one_spans (oneS m.key) _ rfl, fresh_of Hg.out _ _⟩, Hg.out.alloc _⟩
set_option maxHeartbeats 1000000 in
theorem writes_del (b : Nat) (m : Ms) (w : World) (h : MBlk w b m) (hk : m.key.length ≤ 140737488355328) : Calls Tryz.prog 171 #[ptrV b] w (SpOut w [oneS m.key]) := by
  obtain ⟨-, c1, -⟩ := h.plain
  have HO := Lib.hid (one_w m.key w hk)
  clear h hk
  go_enter Tryz.func171, Tryz.ntmps171
  go_wp2_with (go_at_call 160; refine HO.out.mono ?_; rintro e w1 ⟨rfl, hg⟩; have Hg := Lib.hid hg; clear hg)
  go_ret
  exact ⟨_, rfl, ⟨one_spans (oneS m.key) _ rfl, fresh_of Hg.out _ _⟩, Hg.out.alloc _⟩
set_option maxHeartbeats 1000000 in
theorem writes_drop (b : Nat) (m : Ms) (w : World) (h : MBlk w b m) : Calls Tryz.prog 179 #[ptrV b] w (SpOut w [(m.lo, m.hi)]) := by
  obtain ⟨-, -, -, c3, c4, -⟩ := h.plain
  clear h
  go_enter Tryz.func179, Tryz.ntmps179
  go_wp2
  go_ret
  exact ⟨_, rfl, ⟨one_spans (m.lo, m.hi) _ rfl, fresh_of (Grown.refl w) _ _⟩, (Grown.refl w).alloc _⟩
set_option maxHeartbeats 1000000 in
theorem writes_stamp (b : Nat) (m : Ms) (w : World) (h : MBlk w b m) : Calls Tryz.prog 207 #[ptrV b] w (SpOut w [(m.lo, m.hi)]) := by
  obtain ⟨-, -, -, c3, c4, -⟩ := h.plain
  clear h
  go_enter Tryz.func207, Tryz.ntmps207
  go_wp2
  go_ret
  exact ⟨_, rfl, ⟨one_spans (m.lo, m.hi) _ rfl, fresh_of (Grown.refl w) _ _⟩, (Grown.refl w).alloc _⟩
set_option maxHeartbeats 1000000 in
theorem reads_stamp (b : Nat) (m : Ms) (w : World) (h : MBlk w b m) : Calls Tryz.prog 206 #[ptrV b] w (SpOut w [(m.lo, m.hi)]) := by
  obtain ⟨-, -, -, c3, c4, -⟩ := h.plain
  clear h
  go_enter Tryz.func206, Tryz.ntmps206
  go_wp2
  go_ret
  exact ⟨_, rfl, ⟨one_spans (m.lo, m.hi) _ rfl, fresh_of (Grown.refl w) _ _⟩, (Grown.refl w).alloc _⟩
set_option maxHeartbeats 1000000 in
theorem writes_clone (b : Nat) (m : Ms) (w : World) (h : MBlk w b m) (hk : m.dst.length ≤ 140737488355328) : Calls Tryz.prog 201 #[ptrV b] w (SpOut w [preS m.dst]) := by
  obtain ⟨-, -, -, -, -, -, c6, -⟩ := h.plain
  have HO := Lib.hid (prefix_w m.dst w hk)
  clear h hk
  go_enter Tryz.func201, Tryz.ntmps201
  go_wp2_with (go_at_call 188; refine HO.out.mono ?_; rintro e w1 ⟨rfl, hg⟩; have Hg := Lib.hid hg; clear hg)
  go_ret
  exact ⟨_, rfl, ⟨one_spans (preS m.dst) _ rfl, fresh_of Hg.out _ _⟩, Hg.out.alloc _⟩
set_option maxHeartbeats 1000000 in
theorem reads_clone (b : Nat) (m : Ms) (w : World) (h : MBlk w b m) (hk : m.src.length ≤ 140737488355328) : Calls Tryz.prog 200 #[ptrV b] w (SpOut w [preS m.src]) := by
  obtain ⟨-, -, -, -, -, c5, -⟩ := h.plain
  have HO := Lib.hid (prefix_w m.src w hk)
  clear h hk
  go_enter Tryz.func200, Tryz.ntmps200
  go_wp2_with (go_at_call 188; refine HO.out.mono ?_; rintro e w1 ⟨rfl, hg⟩; have Hg := Lib.hid hg; clear hg)
  go_ret
  exact ⟨_, rfl, ⟨one_spans (preS m.src) _ rfl, fresh_of Hg.out _ _⟩, Hg.out.alloc _⟩
set_option maxHeartbeats 1000000 in
theorem reads_move (b : Nat) (m : Ms) (w : World) (h : MBlk w b m) (hk : m.src.length ≤ 140737488355328) : Calls Tryz.prog 185 #[ptrV b] w (SpOut w [preS m.src]) := by
  obtain ⟨-, -, -, -, -, c5, -⟩ := h.plain
  have HO := Lib.hid (prefix_w m.src w hk)
  clear h hk
  go_enter Tryz.func185, Tryz.ntmps185
  go_wp2_with (go_at_call 188; refine HO.out.mono ?_; rintro e w1 ⟨rfl, hg⟩; have Hg := Lib.hid hg; clear hg)
  go_ret
  exact ⟨_, rfl, ⟨one_spans (preS m.src) _ rfl, fresh_of Hg.out _ _⟩, Hg.out.alloc _⟩
set_option maxRecDepth 100000 in
set_option maxHeartbeats 2000000 in
theorem writes_move (b : Nat) (m : Ms) (w : World) (h : MBlk w b m) (h1 : m.src.length ≤ 140737488355328) (h2 : m.dst.length ≤ 140737488355328) : Calls Tryz.prog 186 #[ptrV b] w (SpOut w [preS m.src, preS m.dst]) := by
  have hc5 : ∀ wr, SG w wr → wr.cell? ⟨b, 5, none⟩ = some (.string (Str m.src)) := fun wr hr => (h.below (hr.g.below (Nat.le_refl _)) h.lt).c0 5 _ rfl
  have hc6 : ∀ wr, SG w wr → wr.cell? ⟨b, 6, none⟩ = some (.string (Str m.dst)) := fun wr hr => (h.below (hr.g.below (Nat.le_refl _)) h.lt).c0 6 _ rfl
  have HP := Lib.hid (fun wr => prefix_w m.src wr h1)
  have HQ := Lib.hid (fun wr => prefix_w m.dst wr h2)
  have HS0 := Lib.hid (SG.refl w)
  have mixed := mixedA
  clear h h1 h2
  generalize m.src = s at *
  generalize m.dst = d at *
  go_enter Tryz.func186, Tryz.ntmps186
  go_wp2_with fail
  go_region_held3 (fun wr => SG w wr) (first | with_reducible assumption | exact SG.step (by with_reducible assumption) (by with_reducible assumption) | exact HS0.out.drew | exact SG.step (by with_reducible assumption) ((Grown.refl _).alloc _))
    (first
      | (go_at_call_of 188 (Value.string (Str s)); (with_reducible refine (HP.out _).mono ?_); rintro e w2 ⟨rfl, hg2⟩)
      | (go_at_call 188; (with_reducible refine (HQ.out _).mono ?_); rintro e w3 ⟨rfl, hg3⟩))
  all_goals
    go_wp2
    go_ret
    refine ⟨_, rfl, ⟨two_spans (preS s) (preS d) _ rfl, ?_⟩, ?_⟩
    · exact fresh_of (((Grown.refl w).draw.trans (by with_reducible assumption)).trans (by with_reducible assumption)) _ _
    · exact SG.g (by with_reducible assumption)
theorem SpOut.none (w : World) : SpOut w [] (.returned (.slice none 0 0)) w := ⟨_, rfl, ⟨IsSpans.nil _ 0 (by unfold maxLen; omega), fun j hj => by cases hj⟩, Grown.refl _⟩
theorem reads_put (b : Nat) (w : World) : Calls Tryz.prog 155 #[ptrV b] w (SpOut w []) := by
  go_enter Tryz.func155, Tryz.ntmps155
  go_wp2
  go_ret
  exact SpOut.none _
theorem reads_del (b : Nat) (w : World) : Calls Tryz.prog 170 #[ptrV b] w (SpOut w []) := by
  go_enter Tryz.func170, Tryz.ntmps170
  go_wp2
  go_ret
  exact SpOut.none _
theorem reads_drop (b : Nat) (w : World) : Calls Tryz.prog 178 #[ptrV b] w (SpOut w []) := by
  go_enter Tryz.func178, Tryz.ntmps178
  go_wp2
  go_ret
  exact SpOut.none _
theorem kills_stamp (b : Nat) (w : World) : Calls Tryz.prog 205 #[ptrV b] w (SpOut w []) := by
  go_enter Tryz.func205, Tryz.ntmps205
  go_wp2
  go_ret
  exact SpOut.none _
theorem reads_none (b : Nat) (w : World) : Calls Tryz.prog 213 #[ptrV b] w (SpOut w []) := by
  go_enter Tryz.func213, Tryz.ntmps213
  go_wp2
  go_ret
  exact SpOut.none _
theorem writes_none (b : Nat) (w : World) : Calls Tryz.prog 214 #[ptrV b] w (SpOut w []) := by
  go_enter Tryz.func214, Tryz.ntmps214
  go_wp2
  go_ret
  exact SpOut.none _
theorem kills_none (b : Nat) (w : World) : Calls Tryz.prog 212 #[ptrV b] w (SpOut w []) := by
  go_enter Tryz.func212, Tryz.ntmps212
  go_wp2
  go_ret
  exact SpOut.none _
theorem kills_put (b : Nat) (m : Ms) (w : World) (h : MBlk w b m) (hk : m.key.length ≤ 140737488355328) : Calls Tryz.prog 154 #[ptrV b] w (SpOut w [oneS m.key]) := by
  have H := Lib.hid (writes_put b m w h hk)
  clear h
  go_enter Tryz.func154, Tryz.ntmps154
  go_wp2_with (go_at_call 156; refine H.out.mono ?_; intro e w2 h2; have H2 := Lib.hid h2; obtain ⟨v', rfl, -⟩ := h2)
  go_ret
  exact H2.out
theorem kills_del (b : Nat) (m : Ms) (w : World) (h : MBlk w b m) (hk : m.key.length ≤ 140737488355328) : Calls Tryz.prog 169 #[ptrV b] w (SpOut w [oneS m.key]) := by
  have H := Lib.hid (writes_del b m w h hk)
  clear h
  go_enter Tryz.func169, Tryz.ntmps169
  go_wp2_with (go_at_call 171; refine H.out.mono ?_; intro e w2 h2; have H2 := Lib.hid h2; obtain ⟨v', rfl, -⟩ := h2)
  go_ret
  exact H2.out
theorem kills_drop (b : Nat) (m : Ms) (w : World) (h : MBlk w b m)  : Calls Tryz.prog 177 #[ptrV b] w (SpOut w [(m.lo, m.hi)]) := by
  have H := Lib.hid (writes_drop b m w h )
  clear h
  go_enter Tryz.func177, Tryz.ntmps177
  go_wp2_with (go_at_call 179; refine H.out.mono ?_; intro e w2 h2; have H2 := Lib.hid h2; obtain ⟨v', rfl, -⟩ := h2)
  go_ret
  exact H2.out
theorem kills_clone (b : Nat) (m : Ms) (w : World) (h : MBlk w b m) (hk : m.dst.length ≤ 140737488355328) : Calls Tryz.prog 199 #[ptrV b] w (SpOut w [preS m.dst]) := by
  have H := Lib.hid (writes_clone b m w h hk)
  clear h
  go_enter Tryz.func199, Tryz.ntmps199
  go_wp2_with (go_at_call 201; refine H.out.mono ?_; intro e w2 h2; have H2 := Lib.hid h2; obtain ⟨v', rfl, -⟩ := h2)
  go_ret
  exact H2.out
theorem kills_move (b : Nat) (m : Ms) (w : World) (h : MBlk w b m) (h1 : m.src.length ≤ 140737488355328) (h2 : m.dst.length ≤ 140737488355328) : Calls Tryz.prog 184 #[ptrV b] w (SpOut w [preS m.src, preS m.dst]) := by
  have H := Lib.hid (writes_move b m w h h1 h2)
  clear h
  go_enter Tryz.func184, Tryz.ntmps184
  go_wp2_with (go_at_call 186; refine H.out.mono ?_; intro e w2 h2; have H2 := Lib.hid h2; obtain ⟨v', rfl, -⟩ := h2)
  go_ret
  exact H2.out
theorem readsF_w (b : Nat) (m : Ms) (w : World) (h : MBlk w b m) (hz : SizeM m) : Calls Tryz.prog (readsF m.kind) #[ptrV b] w (SpOut w (readsS m)) := by
  obtain ⟨z1, z2, z3, z4, z5, z6⟩ := hz
  unfold readsF pickF readsS
  by_cases h1 : m.kind = 1
  · simp only [h1]; exact reads_put b w
  by_cases h2 : m.kind = 2
  · simp only [h2]; exact reads_del b w
  by_cases h3 : m.kind = 3
  · simp only [h3]; exact reads_drop b w
  by_cases h4 : m.kind = 4
  · simp only [h4]; exact reads_move b m w h (by omega)
  by_cases h5 : m.kind = 5
  · simp only [h5]; exact reads_clone b m w h (by omega)
  by_cases h6 : m.kind = 6
  · simp only [h6]; exact reads_stamp b m w h
  simp only [h1, h2, h3, h4, h5, h6, if_false]
  exact reads_none b w
theorem writesF_w (b : Nat) (m : Ms) (w : World) (h : MBlk w b m) (hz : SizeM m) : Calls Tryz.prog (writesF m.kind) #[ptrV b] w (SpOut w (writesS m)) := by
  obtain ⟨z1, z2, z3, z4, z5, z6⟩ := hz
  unfold writesF pickF writesS
  by_cases h1 : m.kind = 1
  · simp only [h1]; exact writes_put b m w h (by omega)
  by_cases h2 : m.kind = 2
  · simp only [h2]; exact writes_del b m w h (by omega)
  by_cases h3 : m.kind = 3
  · simp only [h3]; exact writes_drop b m w h
  by_cases h4 : m.kind = 4
  · simp only [h4]; exact writes_move b m w h (by omega) (by omega)
  by_cases h5 : m.kind = 5
  · simp only [h5]; exact writes_clone b m w h (by omega)
  by_cases h6 : m.kind = 6
  · simp only [h6]; exact writes_stamp b m w h
  simp only [h1, h2, h3, h4, h5, h6, if_false]
  exact writes_none b w
theorem killsF_w (b : Nat) (m : Ms) (w : World) (h : MBlk w b m) (hz : SizeM m) : Calls Tryz.prog (killsF m.kind) #[ptrV b] w (SpOut w (killsS m)) := by
  obtain ⟨z1, z2, z3, z4, z5, z6⟩ := hz
  unfold killsF pickF killsS writesS
  by_cases h1 : m.kind = 1
  · simp only [h1]; exact kills_put b m w h (by omega)
  by_cases h2 : m.kind = 2
  · simp only [h2]; exact kills_del b m w h (by omega)
  by_cases h3 : m.kind = 3
  · simp only [h3]; exact kills_drop b m w h
  by_cases h4 : m.kind = 4
  · simp only [h4]; exact kills_move b m w h (by omega) (by omega)
  by_cases h5 : m.kind = 5
  · simp only [h5]; exact kills_clone b m w h (by omega)
  by_cases h6 : m.kind = 6
  · simp only [h6]; exact kills_stamp b w
  simp only [h1, h2, h3, h4, h5, h6, if_false]
  exact kills_none b w
set_option maxRecDepth 100000 in
set_option maxHeartbeats 1000000 in
theorem reads_w (m : Ms) (w : World) (hz : SizeM m) : Calls Tryz.prog 43 #[msgV m] w (SpOut w (readsS m)) := by
  have hB : MBlk (w.alloc (.cells (encM m) 25)) w.heap.size m := Blk.new _ _ _
  have HF := Lib.hid (readsF_w w.heap.size m _ hB hz)
  have HO := Lib.hid (of_w m.kind w.heap.size _ hB.plain.1)
  have hm := disp_reads.m m.kind w.heap.size
  have hc := disp_reads.c m.kind
  clear hB hz
  go_enter Tryz.func43, Tryz.ntmps43
  go_wp2_with fail
  refine HO.out.mono ?_
  rintro e w1 ⟨rfl, rfl⟩
  go_wp2_with fail
  refine HF.out.mono ?_
  intro e w2 h2
  have H2 := Lib.hid (h2.grown ((Grown.refl w).alloc _))
  obtain ⟨v', rfl, -⟩ := h2
  go_wp2
  go_ret
  exact H2.out
set_option maxRecDepth 100000 in
set_option maxHeartbeats 1000000 in
theorem writes_w (m : Ms) (w : World) (hz : SizeM m) : Calls Tryz.prog 45 #[msgV m] w (SpOut w (writesS m)) := by
  have hB : MBlk (w.alloc (.cells (encM m) 25)) w.heap.size m := Blk.new _ _ _
  have HF := Lib.hid (writesF_w w.heap.size m _ hB hz)
  have HO := Lib.hid (of_w m.kind w.heap.size _ hB.plain.1)
  have hm := disp_writes.m m.kind w.heap.size
  have hc := disp_writes.c m.kind
  clear hB hz
  go_enter Tryz.func45, Tryz.ntmps45
  go_wp2_with fail
  refine HO.out.mono ?_
  rintro e w1 ⟨rfl, rfl⟩
  go_wp2_with fail
  refine HF.out.mono ?_
  intro e w2 h2
  have H2 := Lib.hid (h2.grown ((Grown.refl w).alloc _))
  obtain ⟨v', rfl, -⟩ := h2
  go_wp2
  go_ret
  exact H2.out
set_option maxRecDepth 100000 in
set_option maxHeartbeats 1000000 in
theorem kills_w (m : Ms) (w : World) (hz : SizeM m) : Calls Tryz.prog 47 #[msgV m] w (SpOut w (killsS m)) := by
  have hB : MBlk (w.alloc (.cells (encM m) 25)) w.heap.size m := Blk.new _ _ _
  have HF := Lib.hid (killsF_w w.heap.size m _ hB hz)
  have HO := Lib.hid (of_w m.kind w.heap.size _ hB.plain.1)
  have hm := disp_kills.m m.kind w.heap.size
  have hc := disp_kills.c m.kind
  clear hB hz
  go_enter Tryz.func47, Tryz.ntmps47
  go_wp2_with fail
  refine HO.out.mono ?_
  rintro e w1 ⟨rfl, rfl⟩
  go_wp2_with fail
  refine HF.out.mono ?_
  intro e w2 h2
  have H2 := Lib.hid (h2.grown ((Grown.refl w).alloc _))
  obtain ⟨v', rfl, -⟩ := h2
  go_wp2
  go_ret
  exact H2.out

end Go.Proofs.YtpppkjcbheooeaaGreat.Fresh
namespace Go.Proofs.YtpppkjcbheooeaaGreat
open Go.RowKit Go.Sort
set_option linter.unusedVariables false

theorem spans_turned {w w' : World} {kv : Value} {K : List Sp} {row : Option Nat} (h : IsSpans w kv K) (hg : w.grownBy w' row) (hne : ∀ j, kv.ownBlock = some j → row ≠ some j) : IsSpans w' kv K := by
  obtain ⟨a, cap, rfl, h1, h2, h3⟩ := h
  refine ⟨a, cap, rfl, h1, h2, fun hK => ?_⟩
  obtain ⟨b, off, rfl, h4, h5⟩ := h3 hK
  have hb : w'.heap[b]? = w.heap[b]? := hg.block b h4 fun e => hne b rfl e.symm
  refine ⟨b, off, rfl, Nat.lt_of_lt_of_le h4 hg.size, fun i hi => ?_⟩
  obtain ⟨c1, c2⟩ := h5 i hi
  exact ⟨(World.cell?_of_block (a := ⟨b, _, none⟩) hb).trans c1, (World.cell?_of_block (a := ⟨b, _, none⟩) hb).trans c2⟩
theorem kills_len (m : Ms) : (killsS m).length ≤ 2 ∧ (readsS m).length ≤ 2 := by
  constructor
  · unfold killsS writesS; repeat' split
    all_goals simp
  · unfold readsS; repeat' split
    all_goals simp
theorem add_len (d : List Sp) (l : List Sp) : (l.foldl addS d).length ≤ d.length + l.length := by
  induction l generalizing d with
  | nil => simp
  | cons s r ih =>
    have h1 := ih (addS d s)
    have h2 := norm_length (d ++ [s])
    rw [List.foldl_cons]
    unfold addS at *
    simp at *
    omega
theorem sub_len (d : List Sp) (l : List Sp) : (l.foldl subS d).length ≤ d.length + l.length := by
  induction l generalizing d with
  | nil => simp
  | cons s r ih =>
    have h1 := ih (subS d s)
    have h2 := minus_length d [s]
    rw [List.foldl_cons]
    unfold subS at *
    simp at *
    omega

theorem sizeD : (sizeOf (Tryz.prog.elem 102)) = sizeOf 23 := by
  rw [show Tryz.prog.elem 102 = 23 by kernel_rfl]
theorem elemD : Tryz.prog.underlying 102 = some (.slice (Tryz.prog.elem 102)) := by
  rw [show Tryz.prog.elem 102 = 23 by kernel_rfl]; exact Tryz.underlying102
theorem slice_lhD (a : Option Addr) (n cap lo hi : Nat) (h1 : lo ≤ hi) (h2 : hi ≤ cap) (w : World) : (Instr.slice 102 (.slice a n cap) (some (.int .i64 lo)) (some (.int .i64 hi)) none).run Tryz.prog w = .ok (sliced a lo hi cap 2) w := by
  rw [run_slice_lh w 102 a n cap elemD .i64 .i64 lo hi (by omega) (by omega) (by omega), sizeD, Tryz.sizeOf23]; rfl
theorem spans_sliced {w : World} {a : Option Addr} {n cap : Nat} {l : List Sp} (h : IsSpans w (.slice a n cap) l) (lo hi : Nat) (h1 : lo ≤ hi) (h2 : hi ≤ l.length) :
    IsSpans w (sliced a lo hi cap 2) ((l.take hi).drop lo) := by
  obtain ⟨a', cap', e, hlc, hcm, hc⟩ := h
  cases e
  have hll : ((l.take hi).drop lo).length = hi - lo := by rw [List.length_drop, List.length_take]; omega
  refine ⟨_, cap - lo, by rw [hll]; rfl, by omega, by omega, fun hne => ?_⟩
  have hlt : lo < hi := by
    rcases Nat.lt_or_ge lo hi with h | h
    · exact h
    · exfalso; apply hne; apply List.length_eq_zero_iff.1; omega
  obtain ⟨b, off, rfl, hb, hcell⟩ := hc (by rintro rfl; simp at h2; omega)
  have hadd : (⟨b, off, none⟩ : Addr).add (lo * 2) = ⟨b, off + lo * 2, none⟩ := by unfold Addr.add; split <;> simp_all
  refine ⟨b, off + lo * 2, by rw [if_neg (by omega)]; simp [hadd], hb, fun i hi' => ?_⟩
  have hc3 := hcell (lo + i) (by rw [hll] at hi'; omega)
  have e3 : off + lo * 2 + i * 2 = off + (lo + i) * 2 := by omega
  rw [e3]
  simpa using hc3
theorem concat2_w (wx : World) (vm : Value) (mid : List Sp) (s : Sp) (T1 T2 : TypeId) (h : IsSpans wx vm mid) (hl : mid.length ≤ 1000) :
    Calls Tryz.prog 89 #[.slice (some ⟨wx.heap.size + 1, 0, none⟩) 2 2] ((wx.alloc (.cells #[.string (Str s.1), .string (Str s.2)] T1)).alloc (.cells #[vm, .slice (some ⟨wx.heap.size, 0, none⟩) 1 1] T2)) fun e w' =>
      ∃ v', e = .returned v' ∧ w'.ownsRow (wx.heap.size + 2) 23 2 v' (mid ++ [s]).length ((mid ++ [s]).flatMap encS) ∧ Below wx.heap.size wx w' := by
  have B2 : Blk ((wx.alloc (.cells #[.string (Str s.1), .string (Str s.2)] T1)).alloc (.cells #[vm, .slice (some ⟨wx.heap.size, 0, none⟩) 1 1] T2)) (wx.heap.size + 1) T2 [vm, .slice (some ⟨wx.heap.size, 0, none⟩) 1 1].toArray := Blk.new' _ _ _ (by simp)
  have hb : Below wx.heap.size wx ((wx.alloc (.cells #[.string (Str s.1), .string (Str s.2)] T1)).alloc (.cells #[vm, .slice (some ⟨wx.heap.size, 0, none⟩) 1 1] T2)) := ((Below.refl _ wx).alloc (Nat.le_refl _) _).alloc (by simp) _
  have h1 := (one_spans (w := wx) s T1 rfl).below (below_box (.cells #[vm, .slice (some ⟨wx.heap.size, 0, none⟩) 1 1] T2))
  refine (concatD_w T2 _ _ [mid, [s]] _ B2 rfl (by simp) (fun i hi hv => ?_) (by simp; omega)).mono ?_
  · have : i = 0 ∨ i = 1 := by simp at hi; omega
    rcases this with rfl | rfl
    · exact h.below hb
    · exact h1
  · rintro e w' ⟨v', rfl, ho, hbl⟩
    refine ⟨v', rfl, ?_, hb.trans (hbl.mono (by simp; omega))⟩
    simpa using ho

theorem keep_d {w wx : World} {row : Option Nat} (h : w.grownBy wx row) : w.grownBy wx.drew row := h.trans (grownBy_below (below_drewN wx 1) _)
theorem keep_a {w wx : World} {row : Option Nat} (h : w.grownBy wx row) (o : Obj) : w.grownBy (wx.alloc o) row := h.trans (World.grownBy_alloc _ _ _)
theorem turn_below {wr w4 w5 : World} {vd v5 : Value} (h2 : Below wr.heap.size wr w4) (ht : Turn vd v5 w4 w5) : Turn vd v5 wr w5 :=
  ⟨(grownBy_below h2 _).trans ht.1, fun j hj => (ht.2 j hj).imp (fun h => Nat.le_trans h2.size h) id⟩
set_option maxRecDepth 100000 in
set_option maxHeartbeats 8000000 in
theorem before_w (base : Nat) (v : Value) (l : List Sp) (m : Ms) (w : World) (hv : w.ownsRow base 23 2 v l.length (l.flatMap encS)) (hn : Nrm l) (hb : base ≤ w.heap.size) (hz : SizeM m) (hl : l.length ≤ 400) :
    Calls Tryz.prog 68 #[v, msgV m] w fun e w' => ∃ v', e = .returned v' ∧ w'.ownsRow base 23 2 v' (nextD l m).length ((nextD l m).flatMap encS) ∧ Turn v v' w w' := by
  have mixed := mixedA
  have Hb := Lib.hid (show base ≤ w.heap.size from hb)
  have hkl := kills_len m
  have HKW := Lib.hid (fun wx => Fresh.kills_w m wx hz)
  have HRW := Lib.hid (fun wx => Fresh.reads_w m wx hz)
  have HRES := Lib.hid (nextD_folds hn m)
  have hvlt := hv.lt
  have Hv := Lib.hid hv
  have Hvlt := Lib.hid hvlt
  have Hn := Lib.hid hn
  clear hv hvlt hn hz
  generalize killsS m = K at *
  generalize readsS m = R at *
  go_enter Tryz.func68, Tryz.ntmps68
  go_wp2_with (go_at_call 47; refine (HKW.out _).mono ?_; rintro e w1 ⟨kv, rfl, ⟨hks, hkf⟩, hkg⟩; have HKS := Lib.hid hks; have HKF := Lib.hid hkf; have HKG := Lib.hid hkg; obtain ⟨ak, capk, rfl, hkc, hkm, -⟩ := hks; unfold maxLen at hkm; clear hkf hkg)
  go_loopw [0, 16] (fun d i wr => ∃ k : Nat, k ≤ K.length ∧ i = .int .i64 k ∧ wr.ownsRow base 23 2 d ((K.take k).foldl addS l).length (((K.take k).foldl addS l).flatMap encS) ∧ Turn v d w1 wr) (fun _ i _ => K.length - (intOf i).toNat)
  case atStart => exact ⟨0, Nat.zero_le _, rfl, owns_below Hv.out ((below_box _).trans (HKG.out.below (by simp))), turn_refl _ _⟩
  case round =>
    obtain ⟨k, hk, rfl, hown, htu⟩ := hrel
    have Hown := Lib.hid hown
    have Htu := Lib.hid htu
    have hsz := htu.1.size
    clear hown htu
    by_cases hlt : k < K.length
    · have hks := spans_turned HKS.out Htu.out.1 (fun j hj he => by
        have h1 := HKF.out j hj
        have h2 := (Hvlt.out j he).2
        simp at h1
        omega)
      obtain ⟨b, off, cap, he, hbl, hlz, x0, x1⟩ := span_cells hks k hlt
      injection he with he1 he2 he3
      subst he1 he3
      clear he2
      have hltz : (k : Int) < (K.length : Int) := by omega
      have HNX := Lib.hid (show (K.take (k + 1)).foldl addS l = addS ((K.take k).foldl addS l) K[k] by rw [List.take_succ_eq_append_getElem hlt, List.foldl_append]; rfl)
      have HDN := Lib.hid (fold_add Hn.out (K.take k)).1
      have hdl : ((K.take k).foldl addS l).length ≤ 402 := by
        have h1 := add_len l (K.take k)
        have h2 : (K.take k).length ≤ 2 := by rw [List.length_take]; omega
        omega
      clear hks
      generalize K[k] = s at *
      generalize (K.take k).foldl addS l = D at *
      obtain ⟨pd, capd, rfl, hnd, hmd, hpd⟩ := own_form Hown.out
      unfold maxLen at hmd
      clear hpd
      have HN := Lib.hid (fun wx (hx : Below wr.heap.size wr wx) => near_w _ D s wx (IsSpans.owned (owns_below Hown.out hx)) HDN.out (by omega))
      have hab := fromS_le D s
      have hbl2 := toS_le D s
      have HADD := Lib.hid (near_add HDN.out s)
      have hmid : IsSpans wr (sliced pd (fromS D s) (toS D s) capd 2) (midS D s) := spans_sliced (IsSpans.owned Hown.out) _ _ hab hbl2
      have hmlen : (midS D s).length ≤ D.length := by unfold midS; rw [List.length_drop, List.length_take]; omega
      have hsl := slice_lhD pd D.length capd (fromS D s) (toS D s) hab (by omega)
      obtain ⟨pm, nm, cm, hvm⟩ : ∃ pm nm cm, sliced pd (fromS D s) (toS D s) capd 2 = .slice pm nm cm := ⟨_, _, _, rfl⟩
      rw [hvm] at hsl hmid
      have HMID := Lib.hid hmid
      clear hvm hmid
      generalize midS D s = mid at *
      generalize fromS D s = fa at *
      generalize toS D s = fb at *
      have hbw : Below wr.heap.size wr (wr.alloc (.cells #[.string (Str s.1), .string (Str s.2)] 23)) := below_box _
      have HBW := Lib.hid hbw
      clear hbw
      go_wp2_with (go_at_call 86; refine (HN.out _ HBW.out).mono ?_; rintro e w2 ⟨rfl, hg2⟩; have HG2 := Lib.hid hg2; clear hg2)
      have hbel2 : Below wr.heap.size wr w2 := HBW.out.trans (HG2.out.below (by simp))
      have hmid2 := HMID.out.below hbel2
      have hown2 := owns_below Hown.out hbel2
      have hvl : ∀ j, (Value.slice pd D.length capd).ownBlock = some j → j < wr.heap.size := fun j hj => (Hown.out.lt j hj).2
      have hsz2 := hbel2.size
      have hB2 : Blk w2 wr.heap.size 23 #[.string (Str s.1), .string (Str s.2)] := HG2.out.blk (Blk.new _ _ _)
      have hne2 : some wr.heap.size ≠ (Value.slice pd D.length capd).ownBlock := fun he => by have := hvl _ he.symm; omega
      have hx0 : ∀ wx, w2.grownBy wx (Value.slice pd D.length capd).ownBlock → wx.cell? ⟨wr.heap.size, 0, none⟩ = some (.string (Str s.1)) := fun wx hx => hx.cell (hB2.c0 0 _ rfl) hne2
      have hx1 : ∀ wx, w2.grownBy wx (Value.slice pd D.length capd).ownBlock → wx.cell? ⟨wr.heap.size, 1, none⟩ = some (.string (Str s.2)) := fun wx hx => hx.cell (hB2.c0 1 _ rfl) hne2
      have HS0 : Hid (w2.grownBy w2 (Value.slice pd D.length capd).ownBlock) := Lib.hid (grownBy_refl _ _)
      have HCAT : Hid (∀ T1 T2, Calls Tryz.prog 89 #[.slice (some ⟨w2.heap.size + 1, 0, none⟩) 2 2] ((w2.drew.alloc (.cells #[.string (Str s.1), .string (Str s.2)] T1)).alloc (.cells #[.slice pm nm cm, .slice (some ⟨w2.heap.size, 0, none⟩) 1 1] T2)) fun e w' =>
        ∃ v', e = .returned v' ∧ w'.ownsRow (w2.heap.size + 2) 23 2 v' (mid ++ [s]).length ((mid ++ [s]).flatMap encS) ∧ Below w2.heap.size w2 w') := Lib.hid (fun T1 T2 => (concat2_w w2.drew (.slice pm nm cm) mid s T1 T2 (hmid2.below (below_drewN w2 1)) (by omega)).mono fun e w' ⟨v', a1, a2, a3⟩ => ⟨v', a1, a2, (show Below w2.heap.size w2 w2.drew from below_drewN w2 1).trans a3⟩)
      have hln : (normS (mid ++ [s])).length ≤ 1000 := by have := norm_length (mid ++ [s]); simp at this; omega
      have HNORM : Hid (∀ v3 wx, wx.ownsRow (w2.heap.size + 2) 23 2 v3 (mid ++ [s]).length ((mid ++ [s]).flatMap encS) → Calls Tryz.prog 64 #[v3] wx fun e w' => ∃ v, e = .returned v ∧ w'.ownsRow wx.heap.size 23 2 v (normS (mid ++ [s])).length ((normS (mid ++ [s])).flatMap encS) ∧ Below wx.heap.size wx w') := Lib.hid (fun v3 wx h => norm_w v3 _ wx (IsSpans.owned h) (by simp; omega))
      have HREP : Hid (∀ v4 w3 w4, Below w2.heap.size w2 w3 → Below w3.heap.size w3 w4 → w4.ownsRow w3.heap.size 23 2 v4 (normS (mid ++ [s])).length ((normS (mid ++ [s])).flatMap encS) → Calls Tryz.prog 88 #[.slice pd D.length capd, .int .i64 fa, .int .i64 fb, v4] w4 fun e w' => ∃ v', e = .returned v' ∧ w'.ownsRow base 23 2 v' (addS D s).length ((addS D s).flatMap encS) ∧ Turn (.slice pd D.length capd) v' wr w' ∧ w2.grownBy w' (Value.slice pd D.length capd).ownBlock) := Lib.hid (fun v4 w3 w4 h3 h4 h5 => by
        have h6 : Below w2.heap.size w2 w4 := h3.trans (h4.mono h3.size)
        have h7 := sreplace_w base w3.heap.size (.slice pd D.length capd) v4 D (normS (mid ++ [s])) fa fb w4 (owns_below hown2 h6) h5 (fun j hj => Nat.lt_of_lt_of_le (hvl j hj) (Nat.le_trans hsz2 h3.size)) (by have := h6.size; have := Hb.out; have := Fresh.grown_size HKG.out; simp at this; omega) hab hbl2 (by omega) (by omega)
        have h8 : D.take fa ++ normS (mid ++ [s]) ++ D.drop fb = addS D s := HADD.out
        rw [h8] at h7
        exact h7.mono fun e w' ⟨v', a1, a2, a3⟩ => ⟨v', a1, a2, turn_below (hbel2.trans (h6.mono hsz2)) a3, (grownBy_below h6 _).trans a3.1⟩)
      clear hbel2 hmid2 hown2 hvl hB2 hne2 hln
      go_region_held3 (fun wx => w2.grownBy wx (Value.slice pd D.length capd).ownBlock)
        (repeat (first | with_reducible assumption | with_reducible exact HS0.out | with_reducible refine keep_d ?_ | with_reducible refine keep_a ?_ _))
        (first
          | (go_at_call 89; (refine (HCAT.out _ _).mono ?_); rintro e3 w3 ⟨v3, rfl, ho3, hb3⟩; have hS3 := grownBy_below hb3 (Value.slice pd D.length capd).ownBlock)
          | (go_at_call 64; (refine (HNORM.out _ _ ho3).mono ?_); rintro e4 w4 ⟨v4, rfl, ho4, hb4⟩; have hS4 := hS3.trans (grownBy_below hb4 (Value.slice pd D.length capd).ownBlock))
          | (go_at_call 88; (refine (HREP.out _ _ _ hb3 hb4 ho4).mono ?_); rintro e5 w5 ⟨v5, rfl, ho5, ht5, hS5⟩)
          | fail "no arm")
      all_goals
        have Ho5 := Lib.hid ho5
        have Ht5 := Lib.hid ht5
        clear ho5 ht5 hS5 ho4 hb4 hS4 ho3 hb3 hS3 hx0 hx1 x0 x1 hsl
        go_wp2
        go_roundw
        case rel => exact ⟨k + 1, by omega, by go_num, by rw [HNX.out]; exact Ho5.out, Htu.out.trans Ht5.out⟩
        case measure => simp [intOf]; omega
    · obtain rfl : k = K.length := by omega
      rw [List.take_length] at Hown
      have HDN0 := Lib.hid (fold_add Hn.out K).1
      have hd0l : (K.foldl addS l).length ≤ 402 := by have := add_len l K; omega
      have hM1 : Blk w1 w.heap.size 25 (encM m) := HKG.out.blk (Blk.new _ _ _)
      have hneM : some w.heap.size ≠ v.ownBlock := fun he => by have := (Hvlt.out _ he.symm).2; omega
      have hMr := fun i x (h : (encM m)[i]? = some x) => Htu.out.1.cell (hM1.c0 i x h) hneM
      have m0 := hMr 0 _ rfl
      have m1 := hMr 1 _ rfl
      have m2 := hMr 2 _ rfl
      have m3 := hMr 3 _ rfl
      have m4 := hMr 4 _ rfl
      have m5 := hMr 5 _ rfl
      have m6 := hMr 6 _ rfl
      have m7 := hMr 7 _ rfl
      have Hbw : Hid (base ≤ wr.heap.size) := Lib.hid (by have := Hb.out; have := Fresh.grown_size HKG.out; simp at this; omega)
      have HTU := Lib.hid (show Turn v u0 w wr from turn_below ((below_box _).trans (HKG.out.below (by simp))) Htu.out)
      clear hM1 hneM hMr Htu HKG HKS HKF HKW hsz
      generalize K.foldl addS l = D0 at *
      go_wp2_with (go_at_call 43; refine (HRW.out _).mono ?_; rintro e w3 ⟨kv, rfl, ⟨hks, hkf⟩, hkg⟩; have HRS := Lib.hid hks; have HRF := Lib.hid hkf; have HRG := Lib.hid hkg; obtain ⟨ar, capr, rfl, hrc, hrm, -⟩ := hks; unfold maxLen at hrm; clear hkf hkg)
      have Hd0 := Hown
      have Hbw3 : Hid (base ≤ w3.heap.size) := Lib.hid (Nat.le_trans Hbw.out (Fresh.grown_size HRG.out))
      have HFIN : Hid (∀ d wx, Turn u0 d w3 wx → Turn v d w wx) := Lib.hid (fun d wx h => HTU.out.trans (turn_below (HRG.out.below (Nat.le_refl _)) h))
      have hst := owns_below Hown.out (HRG.out.below (Nat.le_refl _))
      have HST := Lib.hid hst
      clear hst HRG HTU Hbw m0 m1 m2 m3 m4 m5 m6 m7 Hown
      have HRL := Lib.hid hkl.2
      go_loopw [0, 43] (fun d i wx => ∃ k : Nat, k ≤ R.length ∧ i = .int .i64 k ∧ wx.ownsRow base 23 2 d ((R.take k).foldl subS D0).length (((R.take k).foldl subS D0).flatMap encS) ∧ Turn u0 d w3 wx) (fun _ i _ => R.length - (intOf i).toNat)
      case atStart => exact ⟨0, Nat.zero_le _, rfl, HST.out, turn_refl _ _⟩
      case round =>
        obtain ⟨k, hk, rfl, hown, htu⟩ := hrel
        have Hown := Lib.hid hown
        have Htu := Lib.hid htu
        have hsz := htu.1.size
        clear hown htu
        by_cases hlt : k < R.length
        · have hks := spans_turned HRS.out Htu.out.1 (fun j hj he => by
            have h1 := HRF.out j hj
            have h2 := (Hd0.out.lt j he).2
            omega)
          obtain ⟨b, off, cap, he, hbl, hlz, x0, x1⟩ := span_cells hks k hlt
          injection he with he1 he2 he3
          subst he1 he3
          clear he2
          have hltz : (k : Int) < (R.length : Int) := by omega
          have HNX := Lib.hid (show (R.take (k + 1)).foldl subS D0 = subS ((R.take k).foldl subS D0) R[k] by rw [List.take_succ_eq_append_getElem hlt, List.foldl_append]; rfl)
          have HDN := Lib.hid (fold_sub HDN0.out (R.take k)).1
          have hdl : ((R.take k).foldl subS D0).length ≤ 404 := by
            have h1 := sub_len D0 (R.take k)
            have h2 : (R.take k).length ≤ 2 := by rw [List.length_take]; omega
            omega
          clear hks
          generalize R[k] = s at *
          generalize (R.take k).foldl subS D0 = D at *
          obtain ⟨pd, capd, rfl, hnd, hmd, hpd⟩ := own_form Hown.out
          unfold maxLen at hmd
          clear hpd
          have HN := Lib.hid (fun wx (hx : Below wr.heap.size wr wx) => near_w _ D s wx (IsSpans.owned (owns_below Hown.out hx)) HDN.out (by omega))
          have hab := fromS_le D s
          have hbl2 := toS_le D s
          have HADD := Lib.hid (near_sub HDN.out s)
          have hmid : IsSpans wr (sliced pd (fromS D s) (toS D s) capd 2) (midS D s) := spans_sliced (IsSpans.owned Hown.out) _ _ hab hbl2
          have hmlen : (midS D s).length ≤ D.length := by unfold midS; rw [List.length_drop, List.length_take]; omega
          have hsl := slice_lhD pd D.length capd (fromS D s) (toS D s) hab (by omega)
          obtain ⟨pm, nm, cm, hvm⟩ : ∃ pm nm cm, sliced pd (fromS D s) (toS D s) capd 2 = .slice pm nm cm := ⟨_, _, _, rfl⟩
          rw [hvm] at hsl hmid
          have HMID := Lib.hid hmid
          clear hvm hmid
          generalize midS D s = mid at *
          generalize fromS D s = fa at *
          generalize toS D s = fb at *
          have hbw : Below wr.heap.size wr (wr.alloc (.cells #[.string (Str s.1), .string (Str s.2)] 23)) := below_box _
          have HBW := Lib.hid hbw
          clear hbw
          go_wp2_with (go_at_call 86; refine (HN.out _ HBW.out).mono ?_; rintro e w2 ⟨rfl, hg2⟩; have HG2 := Lib.hid hg2; clear hg2)
          have hbel2 : Below wr.heap.size wr w2 := HBW.out.trans (HG2.out.below (by simp))
          have hmid2 := HMID.out.below hbel2
          have hown2 := owns_below Hown.out hbel2
          have hvl : ∀ j, (Value.slice pd D.length capd).ownBlock = some j → j < wr.heap.size := fun j hj => (Hown.out.lt j hj).2
          have hsz2 := hbel2.size
          have hB2 : Blk w2 wr.heap.size 23 #[.string (Str s.1), .string (Str s.2)] := HG2.out.blk (Blk.new _ _ _)
          have hne2 : some wr.heap.size ≠ (Value.slice pd D.length capd).ownBlock := fun he => by have := hvl _ he.symm; omega
          have hx0 : ∀ wx, w2.grownBy wx (Value.slice pd D.length capd).ownBlock → wx.cell? ⟨wr.heap.size, 0, none⟩ = some (.string (Str s.1)) := fun wx hx => hx.cell (hB2.c0 0 _ rfl) hne2
          have hx1 : ∀ wx, w2.grownBy wx (Value.slice pd D.length capd).ownBlock → wx.cell? ⟨wr.heap.size, 1, none⟩ = some (.string (Str s.2)) := fun wx hx => hx.cell (hB2.c0 1 _ rfl) hne2
          have HS0 : Hid (w2.grownBy w2 (Value.slice pd D.length capd).ownBlock) := Lib.hid (grownBy_refl _ _)
          have hln : (minusS mid [s]).length ≤ 1000 := by have := minus_length mid [s]; simp at this; omega
          have HNORM : Hid (∀ T1, Calls Tryz.prog 83 #[.slice pm nm cm, .slice (some ⟨w2.heap.size, 0, none⟩) 1 1] (w2.drew.alloc (.cells #[.string (Str s.1), .string (Str s.2)] T1)) fun e w' => ∃ v, e = .returned v ∧ w'.ownsRow w2.heap.size 23 2 v (minusS mid [s]).length ((minusS mid [s]).flatMap encS) ∧ Below w2.heap.size w2 w') := Lib.hid (fun T1 => (minus_w (.slice pm nm cm) _ mid [s] _ ((hmid2.below (below_drewN w2 1)).below (below_box _)) (one_spans (w := w2.drew) s T1 rfl) (by omega) (by simp)).mono fun e w' ⟨v', a1, a2, a3⟩ => ⟨v', a1, owns_lower a2 (by simp), ((show Below w2.heap.size w2 w2.drew from below_drewN w2 1).trans ((Below.refl w2.heap.size w2.drew).alloc (Nat.le_refl w2.heap.size) _)).trans (a3.mono (by simp))⟩)
          have HREP : Hid (∀ v4 w4, Below w2.heap.size w2 w4 → w4.ownsRow w2.heap.size 23 2 v4 (minusS mid [s]).length ((minusS mid [s]).flatMap encS) → Calls Tryz.prog 88 #[.slice pd D.length capd, .int .i64 fa, .int .i64 fb, v4] w4 fun e w' => ∃ v', e = .returned v' ∧ w'.ownsRow base 23 2 v' (subS D s).length ((subS D s).flatMap encS) ∧ Turn (.slice pd D.length capd) v' wr w' ∧ w2.grownBy w' (Value.slice pd D.length capd).ownBlock) := Lib.hid (fun v4 w4 h6 h5 => by
            have h7 := sreplace_w base w2.heap.size (.slice pd D.length capd) v4 D (minusS mid [s]) fa fb w4 (owns_below hown2 h6) h5 (fun j hj => Nat.lt_of_lt_of_le (hvl j hj) hsz2) (by have := h6.size; have := Hbw3.out; omega) hab hbl2 (by omega) (by omega)
            have h8 : D.take fa ++ minusS mid [s] ++ D.drop fb = subS D s := HADD.out
            rw [h8] at h7
            exact h7.mono fun e w' ⟨v', a1, a2, a3⟩ => ⟨v', a1, a2, turn_below (hbel2.trans (h6.mono hsz2)) a3, (grownBy_below h6 _).trans a3.1⟩)
          clear hbel2 hmid2 hown2 hvl hB2 hne2 hln
          go_region_held3 (fun wx => w2.grownBy wx (Value.slice pd D.length capd).ownBlock)
            (repeat (first | with_reducible assumption | with_reducible exact HS0.out | with_reducible refine keep_d ?_ | with_reducible refine keep_a ?_ _))
            (first
              | (go_at_call 83; (refine (HNORM.out _).mono ?_); rintro e4 w4 ⟨v4, rfl, ho4, hb4⟩; have hS4 := grownBy_below hb4 (Value.slice pd D.length capd).ownBlock)
              | (go_at_call 88; (refine (HREP.out _ _ hb4 ho4).mono ?_); rintro e5 w5 ⟨v5, rfl, ho5, ht5, hS5⟩)
              | fail "no arm")
          all_goals
            have Ho5 := Lib.hid ho5
            have Ht5 := Lib.hid ht5
            clear ho5 ht5 hS5 ho4 hb4 hS4 hx0 hx1 x0 x1 hsl
            go_wp2
            go_roundw
            case rel => exact ⟨k + 1, by omega, by go_num, by rw [HNX.out]; exact Ho5.out, Htu.out.trans Ht5.out⟩
            case measure => simp [intOf]; omega
        · obtain rfl : k = R.length := by omega
          rw [List.take_length, HRES.out] at Hown
          have HFIN2 := Lib.hid (HFIN.out _ _ Htu.out)
          clear hsz Htu HFIN
          go_wp2
          go_ret
          exact ⟨_, rfl, Hown.out, HFIN2.out⟩

end Go.Proofs.YtpppkjcbheooeaaGreat
namespace Go.Proofs.YtpppkjcbheooeaaGreat
open Go.RowKit Go.Sort
set_option linter.unusedVariables false

theorem own_emptyS (W : World) (B : Nat) (hB : B ≤ W.heap.size) : (W.alloc (.cells #[] 23)).ownsRow B 23 2 (.slice (some ⟨W.heap.size, 0, none⟩) 0 0) 0 (([] : List Sp).flatMap encS) :=
  ⟨rfl, .inr ⟨W.heap.size, 0, #[], rfl, hB, Blk.new _ _ _, Nat.le_refl _, by unfold maxLen; omega, rfl, rfl⟩⟩
set_option maxHeartbeats 2000000 in
theorem cloneS_w (v : Value) (l : List Sp) (w : World) (h : IsSpans w v l) (hl : l.length ≤ 1000000000) :
    Calls Tryz.prog 63 #[v] w (OutS w.heap.size w l) := by
  obtain ⟨a, cap, hv, _, _, hc⟩ := id h
  have H := Lib.hid h
  clear h
  subst hv
  have q26 : ∀ (w : World) (a : Option Addr) (n c n' c' : Nat), (binOp .eql 44 (.slice a n c) (.slice none n' c')).run Tryz.prog w = .ok (.bool a.isNone) w := fun w a n c n' c' => Lib.run_eql_slice_nil w _ _ a n c n' c' Tryz.underlying44
  cases a with
  | none =>
    have hn : l = [] := by
      rcases l with _ | ⟨x, r⟩
      · rfl
      · obtain ⟨b, off, e, _⟩ := hc (by simp); cases e
    subst hn
    clear hc
    go_enter Tryz.func63, Tryz.ntmps63
    go_wp2
    go_ret
    exact ⟨_, rfl, World.ownsRow_nil _ _ _ _, Below.refl _ _⟩
  | some ad =>
    clear hc
    go_enter Tryz.func63, Tryz.ntmps63
    go_wp2_with (at_builtin; refine append_spans rfl _ _ rfl w.heap.size _ [] rfl (own_emptyS w w.heap.size (Nat.le_refl _)) _ l rfl (H.out.below (below_box _)) (by simp; omega) (by simp) ?_; intro v' w1 hown hbel)
    have Hown := Lib.hid hown
    have Hbel : Hid (Below w.heap.size w w1) := Lib.hid ((below_box _).trans hbel)
    clear hown hbel
    go_wp2
    go_ret
    exact ⟨_, rfl, Hown.out, Hbel.out⟩

set_option maxRecDepth 100000 in
set_option maxHeartbeats 2000000 in
theorem index_w (v kv : Value) (l D : List Sp) (w : World) (h : IsSpans w v l) (hk : IsSpans w kv D) (hn : Nrm D) (hl : l.length ≤ 1000) (hD : D.length ≤ 1000) :
    Calls Tryz.prog 85 #[v, .func (.func 67) #[kv] #[]] w fun e w' => ∃ r : Int, e = .returned (.int .i64 r) ∧ decide (0 ≤ r) = l.any (lackS D) ∧ Grown w w' := by
  have mixed := mixedA
  have H := Lib.hid h
  have HL := Lib.hid (fun wx (hx : Grown w wx) x => lack_w kv D x wx (hk.below (hx.below (Nat.le_refl _))) hn (by omega))
  obtain ⟨a, cap, rfl, hlc, hcm, -⟩ := h
  unfold maxLen at hcm
  clear hk hn
  go_enter Tryz.func85, Tryz.ntmps85
  go_wp2
  go_loopw [8] (fun i wr => ∃ k : Nat, k ≤ l.length ∧ i = .int .i64 k ∧ Grown w wr ∧ (l.take k).any (lackS D) = false) (fun i _ => l.length - (intOf i).toNat)
  case atStart => exact ⟨0, Nat.zero_le _, rfl, Grown.refl _, by simp⟩
  case round =>
    obtain ⟨k, hk, rfl, hg, hno⟩ := hrel
    have Hg := Lib.hid hg
    have Hno := Lib.hid hno
    clear hg hno
    by_cases hlt : k < l.length
    · obtain ⟨b, off, cap', he, hbl, hlz, x0, x1⟩ := span_cells (H.out.below (Hg.out.below (Nat.le_refl _))) k hlt
      injection he with he1 he2 he3
      subst he1 he3
      clear he2
      have hltz : (k : Int) < (l.length : Int) := by omega
      have HT := Lib.hid (show (l.take (k + 1)).any (lackS D) = ((l.take k).any (lackS D) || lackS D l[k]) by rw [List.take_succ_eq_append_getElem hlt, List.any_append]; simp)
      have HA := Lib.hid (fun (h : lackS D l[k] = true) => (List.any_eq_true.2 ⟨l[k], List.getElem_mem hlt, h⟩ : l.any (lackS D) = true))
      have HC := Lib.hid (HL.out _ Hg.out l[k])
      generalize l[k] = x at *
      generalize hlk : lackS D x = lk at *
      have Hlk := Lib.hid hlk
      clear hlk
      cases lk
      all_goals
        go_wp2_with (go_at_call 67; refine HC.out.mono ?_; rintro e w2 ⟨rfl, hg2⟩; have Hg2 := Lib.hid hg2; clear hg2)
      · go_roundw
        case rel => exact ⟨k + 1, by omega, by go_num, Hg.out.trans Hg2.out, by rw [HT.out, Hno.out]; rfl⟩
        case measure => simp [intOf]; omega
      · go_ret
        exact ⟨_, rfl, by rw [HA.out trivial]; simp, Hg.out.trans Hg2.out⟩
    · obtain rfl : k = l.length := by omega
      rw [List.take_length] at Hno
      go_wp2
      go_ret
      exact ⟨_, rfl, by rw [Hno.out]; rfl, Hg.out⟩
theorem contains_w (v kv : Value) (l D : List Sp) (w : World) (h : IsSpans w v l) (hk : IsSpans w kv D) (hn : Nrm D) (hl : l.length ≤ 1000) (hD : D.length ≤ 1000) :
    Calls Tryz.prog 66 #[v, .func (.func 67) #[kv] #[]] w fun e w' => e = .returned (.bool (l.any (lackS D))) ∧ Grown w w' := by
  have HI := Lib.hid (index_w v kv l D w h hk hn hl hD)
  clear h hk hn hl hD
  go_enter Tryz.func66, Tryz.ntmps66
  go_wp2_with (go_at_call 85; refine HI.out.mono ?_; rintro e w2 ⟨r, rfl, hr, hg2⟩; have Hg2 := Lib.hid hg2; have Hr := Lib.hid hr; clear hg2 hr)
  go_ret
  exact ⟨ret_bool (by rw [← Hr.out]), Hg2.out⟩

end Go.Proofs.YtpppkjcbheooeaaGreat
