/-
  Nodes: lists of numbers and of bounds in memory, and what lies at a place of a list. Walks: every of package node, at each type of elements; a function is handed over, and called for each element in turn. Walks: whether a list is a table, by the program and by the reference.
-/
import Derived.Test.YtmbfghbhajmpiaaGreatMDH
import Derived.Test.YtmbfghbhajmpiaaGreatKQ
import Derived.Laws.EntriesVeiled
import Derived.IntWalk
namespace Go.Proofs.YtmbfghbhajmpiaaGreat
open Go.RowKit Go.Sort
set_option linter.unusedVariables false

/-- Bounds: of inodes, of bytes. -/
abbrev Rg := Int × Int
abbrev Sm := Rg × Rg
@[reducible] def smV (s : Sm) : Value := .agg #[.int .i64 s.1.1, .int .i64 s.1.2, .int .i64 s.2.1, .int .i64 s.2.2]
/-- A node. -/
structure Nd where
  pairs : List Pr
  pivots : List Bs
  kids : List Int
  sums : List Sm
  buf : List Ms

/-- A slice of numbers, of bounds. -/
def IsInts (w : World) (v : Value) (l : List Int) : Prop :=
  ∃ a cap, v = .slice a l.length cap ∧ l.length ≤ cap ∧ cap ≤ maxLen ∧ (l ≠ [] → ∃ b off, a = some ⟨b, off, none⟩ ∧ b < w.heap.size ∧ ∀ i (h : i < l.length), w.cell? ⟨b, off + i, none⟩ = some (.int .i64 l[i]))
def SAt (w : World) (b o : Nat) (s : Sm) : Prop :=
  w.cell? ⟨b, o, none⟩ = some (.int .i64 s.1.1) ∧ w.cell? ⟨b, o + 1, none⟩ = some (.int .i64 s.1.2) ∧ w.cell? ⟨b, o + 2, none⟩ = some (.int .i64 s.2.1) ∧ w.cell? ⟨b, o + 3, none⟩ = some (.int .i64 s.2.2)
def IsSums (w : World) (v : Value) (l : List Sm) : Prop :=
  ∃ a cap, v = .slice a l.length cap ∧ l.length ≤ cap ∧ cap ≤ maxLen ∧ (l ≠ [] → ∃ b off, a = some ⟨b, off, none⟩ ∧ b < w.heap.size ∧ ∀ i (h : i < l.length), SAt w b (off + i * 4) l[i])
theorem IsInts.below {w w' : World} {v : Value} {l : List Int} (h : IsInts w v l) (hb : Below w.heap.size w w') : IsInts w' v l := by
  obtain ⟨a, cap, h1, h2, h3, h4⟩ := h
  refine ⟨a, cap, h1, h2, h3, fun hl => ?_⟩
  obtain ⟨b, off, e, hlt, hc⟩ := h4 hl
  exact ⟨b, off, e, Nat.lt_of_lt_of_le hlt hb.size, fun i hi => by rw [hb.cell (by exact hlt)]; exact hc i hi⟩
theorem IsSums.below {w w' : World} {v : Value} {l : List Sm} (h : IsSums w v l) (hb : Below w.heap.size w w') : IsSums w' v l := by
  obtain ⟨a, cap, h1, h2, h3, h4⟩ := h
  refine ⟨a, cap, h1, h2, h3, fun hl => ?_⟩
  obtain ⟨b, off, e, hlt, hc⟩ := h4 hl
  exact ⟨b, off, e, Nat.lt_of_lt_of_le hlt hb.size, fun i hi => ⟨by rw [hb.cell (by exact hlt)]; exact (hc i hi).1, by rw [hb.cell (by exact hlt)]; exact (hc i hi).2.1, by rw [hb.cell (by exact hlt)]; exact (hc i hi).2.2.1, by rw [hb.cell (by exact hlt)]; exact (hc i hi).2.2.2⟩⟩

theorem at_str {w : World} {v : Value} {l : List Bs} (h : IsStrs w v l) (i : Nat) (hi : i < l.length) : ∃ b off cap, v = .slice (some ⟨b, off, none⟩) l.length cap ∧ b < w.heap.size ∧ (l.length : Int) ≤ 9223372036854775807 ∧
    w.cell? ⟨b, off + i, none⟩ = some (.string (Str l[i])) := by
  obtain ⟨a, cap, rfl, h1, h2, h3⟩ := h
  obtain ⟨b, off, rfl, h4, h5⟩ := h3 (by rintro rfl; simp at hi)
  unfold maxLen at h2
  exact ⟨b, off, cap, rfl, h4, by omega, h5 i hi⟩
theorem at_int {w : World} {v : Value} {l : List Int} (h : IsInts w v l) (i : Nat) (hi : i < l.length) : ∃ b off cap, v = .slice (some ⟨b, off, none⟩) l.length cap ∧ b < w.heap.size ∧ (l.length : Int) ≤ 9223372036854775807 ∧
    w.cell? ⟨b, off + i, none⟩ = some (.int .i64 l[i]) := by
  obtain ⟨a, cap, rfl, h1, h2, h3⟩ := h
  obtain ⟨b, off, rfl, h4, h5⟩ := h3 (by rintro rfl; simp at hi)
  unfold maxLen at h2
  exact ⟨b, off, cap, rfl, h4, by omega, h5 i hi⟩
theorem at_span {w : World} {v : Value} {l : List Sp} (h : IsSpans w v l) (i : Nat) (hi : i < l.length) : ∃ b off cap, v = .slice (some ⟨b, off, none⟩) l.length cap ∧ b < w.heap.size ∧ (l.length : Int) ≤ 9223372036854775807 ∧
    w.cell? ⟨b, off + i * 2, none⟩ = some (.string (Str l[i].1)) ∧ w.cell? ⟨b, off + i * 2 + 1, none⟩ = some (.string (Str l[i].2)) := by
  obtain ⟨a, cap, rfl, h1, h2, h3⟩ := h
  obtain ⟨b, off, rfl, h4, h5⟩ := h3 (by rintro rfl; simp at hi)
  unfold maxLen at h2
  exact ⟨b, off, cap, rfl, h4, by omega, h5 i hi⟩
theorem at_sum {w : World} {v : Value} {l : List Sm} (h : IsSums w v l) (i : Nat) (hi : i < l.length) : ∃ b off cap, v = .slice (some ⟨b, off, none⟩) l.length cap ∧ b < w.heap.size ∧ (l.length : Int) ≤ 9223372036854775807 ∧
    SAt w b (off + i * 4) l[i] := by
  obtain ⟨a, cap, rfl, h1, h2, h3⟩ := h
  obtain ⟨b, off, rfl, h4, h5⟩ := h3 (by rintro rfl; simp at hi)
  unfold maxLen at h2
  exact ⟨b, off, cap, rfl, h4, by omega, h5 i hi⟩
theorem at_msg {w : World} {v : Value} {l : List Ms} (h : IsMsgs w v l) (i : Nat) (hi : i < l.length) : ∃ b off cap, v = .slice (some ⟨b, off, none⟩) l.length cap ∧ b < w.heap.size ∧ (l.length : Int) ≤ 9223372036854775807 ∧
    MAt w b (off + i * 8) l[i] := by
  obtain ⟨a, cap, rfl, h1, h2, h3⟩ := h
  obtain ⟨b, off, rfl, h4, h5⟩ := h3 (by rintro rfl; simp at hi)
  unfold maxLen at h2
  exact ⟨b, off, cap, rfl, h4, by omega, h5 i hi⟩

/-- A node in memory. -/
def IsNode (w : World) (v : Value) (n : Nd) : Prop :=
  ∃ a b c d e, v = .agg #[a, b, c, d, e] ∧ IsPairs w a n.pairs ∧ IsStrs w b n.pivots ∧ IsInts w c n.kids ∧ IsSums w d n.sums ∧ IsMsgs w e n.buf
theorem IsNode.below {w w' : World} {v : Value} {n : Nd} (h : IsNode w v n) (hb : Below w.heap.size w w') : IsNode w' v n := by
  obtain ⟨a, b, c, d, e, h0, h1, h2, h3, h4, h5⟩ := h
  exact ⟨a, b, c, d, e, h0, h1.below hb, h2.below hb, h3.below hb, h4.below hb, h5.below hb⟩

end Go.Proofs.YtmbfghbhajmpiaaGreat
namespace Go.Proofs.YtmbfghbhajmpiaaGreat
open Go.RowKit Go.Sort
set_option linter.unusedVariables false

set_option maxRecDepth 100000 in
set_option maxHeartbeats 1000000 in
theorem eachNotP (c : Nat) (b : Nat) (x : Pr) (r : Bool) (w : World) (hb : w.cell? ⟨b, 0, none⟩ = some (.func (.func 130) #[] #[.pointer (some ⟨c, 0, none⟩)])) (hf : ∀ wx, Grown w wx → Calls Tryz.prog 130 #[.agg #[.string (Str x.1), .string (Str x.2.1), .int .i64 x.2.2], .pointer (some ⟨c, 0, none⟩)] wx fun e w' => e = .returned (.bool r) ∧ Grown wx w') :
    Calls Tryz.prog 179 #[.agg #[.string (Str x.1), .string (Str x.2.1), .int .i64 x.2.2], .pointer (some ⟨b, 0, none⟩)] w fun e w' => e = .returned (.bool (!r)) ∧ Grown w w' := by
  have mixed := mixedA
  obtain ⟨xk, xv, xn⟩ := x
  have HF := Lib.hid hf
  clear hf
  have cb : (w.alloc (.cells #[.string (Str xk), .string (Str xv), .int .i64 xn] 48)).cell? ⟨b, 0, none⟩ = some (.func (.func 130) #[] #[.pointer (some ⟨c, 0, none⟩)]) := by rw [World.cell?_alloc_lt _ _ _ (by exact cell_lt hb)]; exact hb
  go_enter Tryz.func179, Tryz.ntmps179
  go_wp2_with (go_at_call 130; refine (HF.out _ ((Grown.refl w).alloc _)).mono ?_; rintro e w1 ⟨rfl, hg1⟩; have Hg1 := Lib.hid hg1; clear hg1)
  go_ret
  exact ⟨by cases r <;> rfl, ((Grown.refl w).alloc _).trans Hg1.out⟩

set_option maxRecDepth 100000 in
set_option maxHeartbeats 2000000 in
theorem indexNotP (c : Nat) (b : Nat) (v : Value) (l : List Pr) (p : Pr → Bool) (w : World) (h : IsPairs w v l) (hb : w.cell? ⟨b, 0, none⟩ = some (.func (.func 130) #[] #[.pointer (some ⟨c, 0, none⟩)])) (hbl : b < w.heap.size) (hf : ∀ wx, Grown w wx → ∀ x ∈ l, Calls Tryz.prog 130 #[.agg #[.string (Str x.1), .string (Str x.2.1), .int .i64 x.2.2], .pointer (some ⟨c, 0, none⟩)] wx fun e w' => e = .returned (.bool (p x)) ∧ Grown wx w') :
    Calls Tryz.prog 213 #[v, .func (.func 179) #[] #[.pointer (some ⟨b, 0, none⟩)]] w fun e w' => ∃ r : Int, e = .returned (.int .i64 r) ∧ decide (0 ≤ r) = !l.all p ∧ Grown w w' := by
  have mixed := mixedA
  have H := Lib.hid h
  have HL := Lib.hid (fun wx (hx : Grown w wx) x (hxm : x ∈ l) => eachNotP c b x (p x) wx (by rw [(hx.below (B := w.heap.size) (Nat.le_refl _)).cell (by exact hbl)]; exact hb) (fun wy hy => hf wy (hx.trans hy) x hxm))
  obtain ⟨a, cap, rfl, hlc, hcm, -⟩ := h
  unfold maxLen at hcm
  clear hf hb hbl
  go_enter Tryz.func213, Tryz.ntmps213
  go_wp2
  go_loopw [8] (fun i wr => ∃ k : Nat, k ≤ l.length ∧ i = .int .i64 k ∧ Grown w wr ∧ (l.take k).all p = true) (fun i _ => l.length - (intOf i).toNat)
  case atStart => exact ⟨0, Nat.zero_le _, rfl, Grown.refl _, by simp⟩
  case round =>
    obtain ⟨k, hk, rfl, hg, hno⟩ := hrel
    have Hg := Lib.hid hg
    have Hno := Lib.hid hno
    clear hg hno
    by_cases hlt : k < l.length
    · obtain ⟨bb, off, cap', he, hbl, hlz, x0, x1, x2⟩ := pair_cells (H.out.below (Hg.out.below (Nat.le_refl _))) k hlt
      injection he with he1 he2 he3
      subst he1 he3
      clear he2
      have hltz : (k : Int) < (l.length : Int) := by omega
      have HT := Lib.hid (show (l.take (k + 1)).all p = ((l.take k).all p && p l[k]) by rw [List.take_succ_eq_append_getElem hlt, List.all_append]; simp)
      have HA := Lib.hid (fun (h : p l[k] = false) => (List.all_eq_false.2 ⟨l[k], List.getElem_mem hlt, by rw [h]; simp⟩ : l.all p = false))
      have HC := Lib.hid (HL.out _ Hg.out l[k] (List.getElem_mem hlt))
      generalize l[k] = x at *
      generalize hlk : p x = lk at *
      have Hlk := Lib.hid hlk
      clear hlk
      obtain ⟨xk, xv, xn⟩ := x
      cases lk
      all_goals
        go_wp2_with (go_at_call 179; refine HC.out.mono ?_; rintro e w2 ⟨rfl, hg2⟩; have Hg2 := Lib.hid hg2; clear hg2)
      · go_ret
        exact ⟨_, rfl, by rw [HA.out trivial]; simp, Hg.out.trans Hg2.out⟩
      · go_roundw
        case rel => exact ⟨k + 1, by omega, by go_num, Hg.out.trans Hg2.out, by rw [HT.out, Hno.out]; rfl⟩
        case measure => simp [intOf]; omega
    · obtain rfl : k = l.length := by omega
      rw [List.take_length] at Hno
      go_wp2
      go_ret
      exact ⟨_, rfl, by rw [Hno.out]; rfl, Hg.out⟩

set_option maxHeartbeats 1000000 in
theorem containsNotP (c : Nat) (b : Nat) (v : Value) (l : List Pr) (p : Pr → Bool) (w : World) (h : IsPairs w v l) (hb : w.cell? ⟨b, 0, none⟩ = some (.func (.func 130) #[] #[.pointer (some ⟨c, 0, none⟩)])) (hbl : b < w.heap.size) (hf : ∀ wx, Grown w wx → ∀ x ∈ l, Calls Tryz.prog 130 #[.agg #[.string (Str x.1), .string (Str x.2.1), .int .i64 x.2.2], .pointer (some ⟨c, 0, none⟩)] wx fun e w' => e = .returned (.bool (p x)) ∧ Grown wx w') :
    Calls Tryz.prog 178 #[v, .func (.func 179) #[] #[.pointer (some ⟨b, 0, none⟩)]] w fun e w' => e = .returned (.bool (!l.all p)) ∧ Grown w w' := by
  have HI := Lib.hid (indexNotP c b v l p w h hb hbl hf)
  clear h hb hbl hf
  go_enter Tryz.func178, Tryz.ntmps178
  go_wp2_with (go_at_call 213; refine HI.out.mono ?_; rintro e w2 ⟨r, rfl, hr, hg2⟩; have Hg2 := Lib.hid hg2; have Hr := Lib.hid hr; clear hg2 hr)
  go_ret
  exact ⟨ret_bool (by rw [← Hr.out]), Hg2.out⟩

set_option maxHeartbeats 1000000 in
theorem everyP (c : Nat) (v : Value) (l : List Pr) (p : Pr → Bool) (w : World) (h : IsPairs w v l) (hf : ∀ wx, Grown w wx → ∀ x ∈ l, Calls Tryz.prog 130 #[.agg #[.string (Str x.1), .string (Str x.2.1), .int .i64 x.2.2], .pointer (some ⟨c, 0, none⟩)] wx fun e w' => e = .returned (.bool (p x)) ∧ Grown wx w') :
    Calls Tryz.prog 129 #[v, (.func (.func 130) #[] #[.pointer (some ⟨c, 0, none⟩)])] w fun e w' => e = .returned (.bool (l.all p)) ∧ Grown w w' := by
  have HI := Lib.hid (fun (o : Obj) (ho : o = .cells #[(.func (.func 130) #[] #[.pointer (some ⟨c, 0, none⟩)])] 178) => containsNotP c w.heap.size v l p (w.alloc o) (h.below (below_box _)) (by subst ho; exact (Blk.new _ _ _).c0 0 _ rfl) (by simp) (fun wx hx => hf wx ((Grown.alloc (Grown.refl w) _).trans hx)))
  clear h hf
  go_enter Tryz.func129, Tryz.ntmps129
  go_wp2_with (go_at_call 178; refine (HI.out _ rfl).mono ?_; rintro e w2 ⟨rfl, hg2⟩; have Hg2 := Lib.hid hg2; clear hg2)
  go_ret
  exact ⟨ret_bool (by simp), ((Grown.refl w).alloc _).trans Hg2.out⟩

set_option maxRecDepth 100000 in
set_option maxHeartbeats 1000000 in
theorem eachNotI (b : Nat) (x : Int) (r : Bool) (w : World) (hb : w.cell? ⟨b, 0, none⟩ = some (.func (.func 134) #[] #[])) (hf : ∀ wx, Grown w wx → Calls Tryz.prog 134 #[.int .i64 x] wx fun e w' => e = .returned (.bool r) ∧ Grown wx w') :
    Calls Tryz.prog 181 #[.int .i64 x, .pointer (some ⟨b, 0, none⟩)] w fun e w' => e = .returned (.bool (!r)) ∧ Grown w w' := by
  have mixed := mixedA
  skip
  have HF := Lib.hid hf
  clear hf
  have cb := hb
  go_enter Tryz.func181, Tryz.ntmps181
  go_wp2_with (go_at_call 134; refine (HF.out _ (Grown.refl w)).mono ?_; rintro e w1 ⟨rfl, hg1⟩; have Hg1 := Lib.hid hg1; clear hg1)
  go_ret
  exact ⟨by cases r <;> rfl, (Grown.refl w).trans Hg1.out⟩

set_option maxRecDepth 100000 in
set_option maxHeartbeats 2000000 in
theorem indexNotI (b : Nat) (v : Value) (l : List Int) (p : Int → Bool) (w : World) (h : IsInts w v l) (hb : w.cell? ⟨b, 0, none⟩ = some (.func (.func 134) #[] #[])) (hbl : b < w.heap.size) (hf : ∀ wx, Grown w wx → ∀ x ∈ l, Calls Tryz.prog 134 #[.int .i64 x] wx fun e w' => e = .returned (.bool (p x)) ∧ Grown wx w') :
    Calls Tryz.prog 214 #[v, .func (.func 181) #[] #[.pointer (some ⟨b, 0, none⟩)]] w fun e w' => ∃ r : Int, e = .returned (.int .i64 r) ∧ decide (0 ≤ r) = !l.all p ∧ Grown w w' := by
  have mixed := mixedA
  have H := Lib.hid h
  have HL := Lib.hid (fun wx (hx : Grown w wx) x (hxm : x ∈ l) => eachNotI b x (p x) wx (by rw [(hx.below (B := w.heap.size) (Nat.le_refl _)).cell (by exact hbl)]; exact hb) (fun wy hy => hf wy (hx.trans hy) x hxm))
  obtain ⟨a, cap, rfl, hlc, hcm, -⟩ := h
  unfold maxLen at hcm
  clear hf hb hbl
  go_enter Tryz.func214, Tryz.ntmps214
  go_wp2
  go_loopw [8] (fun i wr => ∃ k : Nat, k ≤ l.length ∧ i = .int .i64 k ∧ Grown w wr ∧ (l.take k).all p = true) (fun i _ => l.length - (intOf i).toNat)
  case atStart => exact ⟨0, Nat.zero_le _, rfl, Grown.refl _, by simp⟩
  case round =>
    obtain ⟨k, hk, rfl, hg, hno⟩ := hrel
    have Hg := Lib.hid hg
    have Hno := Lib.hid hno
    clear hg hno
    by_cases hlt : k < l.length
    · obtain ⟨bb, off, cap', he, hbl, hlz, x0⟩ := at_int (H.out.below (Hg.out.below (Nat.le_refl _))) k hlt
      injection he with he1 he2 he3
      subst he1 he3
      clear he2
      have hltz : (k : Int) < (l.length : Int) := by omega
      have HT := Lib.hid (show (l.take (k + 1)).all p = ((l.take k).all p && p l[k]) by rw [List.take_succ_eq_append_getElem hlt, List.all_append]; simp)
      have HA := Lib.hid (fun (h : p l[k] = false) => (List.all_eq_false.2 ⟨l[k], List.getElem_mem hlt, by rw [h]; simp⟩ : l.all p = false))
      have HC := Lib.hid (HL.out _ Hg.out l[k] (List.getElem_mem hlt))
      generalize l[k] = x at *
      generalize hlk : p x = lk at *
      have Hlk := Lib.hid hlk
      clear hlk
      skip
      cases lk
      all_goals
        go_wp2_with (go_at_call 181; refine HC.out.mono ?_; rintro e w2 ⟨rfl, hg2⟩; have Hg2 := Lib.hid hg2; clear hg2)
      · go_ret
        exact ⟨_, rfl, by rw [HA.out trivial]; simp, Hg.out.trans Hg2.out⟩
      · go_roundw
        case rel => exact ⟨k + 1, by omega, by go_num, Hg.out.trans Hg2.out, by rw [HT.out, Hno.out]; rfl⟩
        case measure => simp [intOf]; omega
    · obtain rfl : k = l.length := by omega
      rw [List.take_length] at Hno
      go_wp2
      go_ret
      exact ⟨_, rfl, by rw [Hno.out]; rfl, Hg.out⟩

set_option maxHeartbeats 1000000 in
theorem containsNotI (b : Nat) (v : Value) (l : List Int) (p : Int → Bool) (w : World) (h : IsInts w v l) (hb : w.cell? ⟨b, 0, none⟩ = some (.func (.func 134) #[] #[])) (hbl : b < w.heap.size) (hf : ∀ wx, Grown w wx → ∀ x ∈ l, Calls Tryz.prog 134 #[.int .i64 x] wx fun e w' => e = .returned (.bool (p x)) ∧ Grown wx w') :
    Calls Tryz.prog 180 #[v, .func (.func 181) #[] #[.pointer (some ⟨b, 0, none⟩)]] w fun e w' => e = .returned (.bool (!l.all p)) ∧ Grown w w' := by
  have HI := Lib.hid (indexNotI b v l p w h hb hbl hf)
  clear h hb hbl hf
  go_enter Tryz.func180, Tryz.ntmps180
  go_wp2_with (go_at_call 214; refine HI.out.mono ?_; rintro e w2 ⟨r, rfl, hr, hg2⟩; have Hg2 := Lib.hid hg2; have Hr := Lib.hid hr; clear hg2 hr)
  go_ret
  exact ⟨ret_bool (by rw [← Hr.out]), Hg2.out⟩

set_option maxHeartbeats 1000000 in
theorem everyI (v : Value) (l : List Int) (p : Int → Bool) (w : World) (h : IsInts w v l) (hf : ∀ wx, Grown w wx → ∀ x ∈ l, Calls Tryz.prog 134 #[.int .i64 x] wx fun e w' => e = .returned (.bool (p x)) ∧ Grown wx w') :
    Calls Tryz.prog 133 #[v, (.func (.func 134) #[] #[])] w fun e w' => e = .returned (.bool (l.all p)) ∧ Grown w w' := by
  have HI := Lib.hid (fun (o : Obj) (ho : o = .cells #[(.func (.func 134) #[] #[])] 170) => containsNotI w.heap.size v l p (w.alloc o) (h.below (below_box _)) (by subst ho; exact (Blk.new _ _ _).c0 0 _ rfl) (by simp) (fun wx hx => hf wx ((Grown.alloc (Grown.refl w) _).trans hx)))
  clear h hf
  go_enter Tryz.func133, Tryz.ntmps133
  go_wp2_with (go_at_call 180; refine (HI.out _ rfl).mono ?_; rintro e w2 ⟨rfl, hg2⟩; have Hg2 := Lib.hid hg2; clear hg2)
  go_ret
  exact ⟨ret_bool (by simp), ((Grown.refl w).alloc _).trans Hg2.out⟩

set_option maxRecDepth 100000 in
set_option maxHeartbeats 1000000 in
theorem eachNotS (b : Nat) (x : Sm) (r : Bool) (w : World) (hb : w.cell? ⟨b, 0, none⟩ = some (.func (.func 137) #[] #[])) (hf : ∀ wx, Grown w wx → Calls Tryz.prog 137 #[smV x] wx fun e w' => e = .returned (.bool r) ∧ Grown wx w') :
    Calls Tryz.prog 183 #[smV x, .pointer (some ⟨b, 0, none⟩)] w fun e w' => e = .returned (.bool (!r)) ∧ Grown w w' := by
  have mixed := mixedA
  obtain ⟨⟨xa, xb⟩, xc, xd⟩ := x
  have HF := Lib.hid hf
  clear hf
  have cb : (w.alloc (.cells #[.int .i64 xa, .int .i64 xb, .int .i64 xc, .int .i64 xd] 52)).cell? ⟨b, 0, none⟩ = some (.func (.func 137) #[] #[]) := by rw [World.cell?_alloc_lt _ _ _ (by exact cell_lt hb)]; exact hb
  go_enter Tryz.func183, Tryz.ntmps183
  go_wp2_with (go_at_call 137; refine (HF.out _ ((Grown.refl w).alloc _)).mono ?_; rintro e w1 ⟨rfl, hg1⟩; have Hg1 := Lib.hid hg1; clear hg1)
  go_ret
  exact ⟨by cases r <;> rfl, ((Grown.refl w).alloc _).trans Hg1.out⟩

set_option maxRecDepth 100000 in
set_option maxHeartbeats 2000000 in
theorem indexNotS (b : Nat) (v : Value) (l : List Sm) (p : Sm → Bool) (w : World) (h : IsSums w v l) (hb : w.cell? ⟨b, 0, none⟩ = some (.func (.func 137) #[] #[])) (hbl : b < w.heap.size) (hf : ∀ wx, Grown w wx → ∀ x ∈ l, Calls Tryz.prog 137 #[smV x] wx fun e w' => e = .returned (.bool (p x)) ∧ Grown wx w') :
    Calls Tryz.prog 215 #[v, .func (.func 183) #[] #[.pointer (some ⟨b, 0, none⟩)]] w fun e w' => ∃ r : Int, e = .returned (.int .i64 r) ∧ decide (0 ≤ r) = !l.all p ∧ Grown w w' := by
  have mixed := mixedA
  have H := Lib.hid h
  have HL := Lib.hid (fun wx (hx : Grown w wx) x (hxm : x ∈ l) => eachNotS b x (p x) wx (by rw [(hx.below (B := w.heap.size) (Nat.le_refl _)).cell (by exact hbl)]; exact hb) (fun wy hy => hf wy (hx.trans hy) x hxm))
  obtain ⟨a, cap, rfl, hlc, hcm, -⟩ := h
  unfold maxLen at hcm
  clear hf hb hbl
  go_enter Tryz.func215, Tryz.ntmps215
  go_wp2
  go_loopw [8] (fun i wr => ∃ k : Nat, k ≤ l.length ∧ i = .int .i64 k ∧ Grown w wr ∧ (l.take k).all p = true) (fun i _ => l.length - (intOf i).toNat)
  case atStart => exact ⟨0, Nat.zero_le _, rfl, Grown.refl _, by simp⟩
  case round =>
    obtain ⟨k, hk, rfl, hg, hno⟩ := hrel
    have Hg := Lib.hid hg
    have Hno := Lib.hid hno
    clear hg hno
    by_cases hlt : k < l.length
    · obtain ⟨bb, off, cap', he, hbl, hlz, x0, x1, x2, x3⟩ := at_sum (H.out.below (Hg.out.below (Nat.le_refl _))) k hlt
      injection he with he1 he2 he3
      subst he1 he3
      clear he2
      have hltz : (k : Int) < (l.length : Int) := by omega
      have HT := Lib.hid (show (l.take (k + 1)).all p = ((l.take k).all p && p l[k]) by rw [List.take_succ_eq_append_getElem hlt, List.all_append]; simp)
      have HA := Lib.hid (fun (h : p l[k] = false) => (List.all_eq_false.2 ⟨l[k], List.getElem_mem hlt, by rw [h]; simp⟩ : l.all p = false))
      have HC := Lib.hid (HL.out _ Hg.out l[k] (List.getElem_mem hlt))
      generalize l[k] = x at *
      generalize hlk : p x = lk at *
      have Hlk := Lib.hid hlk
      clear hlk
      obtain ⟨⟨xa, xb⟩, xc, xd⟩ := x
      cases lk
      all_goals
        go_wp2_with (go_at_call 183; refine HC.out.mono ?_; rintro e w2 ⟨rfl, hg2⟩; have Hg2 := Lib.hid hg2; clear hg2)
      · go_ret
        exact ⟨_, rfl, by rw [HA.out trivial]; simp, Hg.out.trans Hg2.out⟩
      · go_roundw
        case rel => exact ⟨k + 1, by omega, by go_num, Hg.out.trans Hg2.out, by rw [HT.out, Hno.out]; rfl⟩
        case measure => simp [intOf]; omega
    · obtain rfl : k = l.length := by omega
      rw [List.take_length] at Hno
      go_wp2
      go_ret
      exact ⟨_, rfl, by rw [Hno.out]; rfl, Hg.out⟩

set_option maxHeartbeats 1000000 in
theorem containsNotS (b : Nat) (v : Value) (l : List Sm) (p : Sm → Bool) (w : World) (h : IsSums w v l) (hb : w.cell? ⟨b, 0, none⟩ = some (.func (.func 137) #[] #[])) (hbl : b < w.heap.size) (hf : ∀ wx, Grown w wx → ∀ x ∈ l, Calls Tryz.prog 137 #[smV x] wx fun e w' => e = .returned (.bool (p x)) ∧ Grown wx w') :
    Calls Tryz.prog 182 #[v, .func (.func 183) #[] #[.pointer (some ⟨b, 0, none⟩)]] w fun e w' => e = .returned (.bool (!l.all p)) ∧ Grown w w' := by
  have HI := Lib.hid (indexNotS b v l p w h hb hbl hf)
  clear h hb hbl hf
  go_enter Tryz.func182, Tryz.ntmps182
  go_wp2_with (go_at_call 215; refine HI.out.mono ?_; rintro e w2 ⟨r, rfl, hr, hg2⟩; have Hg2 := Lib.hid hg2; have Hr := Lib.hid hr; clear hg2 hr)
  go_ret
  exact ⟨ret_bool (by rw [← Hr.out]), Hg2.out⟩

set_option maxHeartbeats 1000000 in
theorem everyS (v : Value) (l : List Sm) (p : Sm → Bool) (w : World) (h : IsSums w v l) (hf : ∀ wx, Grown w wx → ∀ x ∈ l, Calls Tryz.prog 137 #[smV x] wx fun e w' => e = .returned (.bool (p x)) ∧ Grown wx w') :
    Calls Tryz.prog 136 #[v, (.func (.func 137) #[] #[])] w fun e w' => e = .returned (.bool (l.all p)) ∧ Grown w w' := by
  have HI := Lib.hid (fun (o : Obj) (ho : o = .cells #[(.func (.func 137) #[] #[])] 181) => containsNotS w.heap.size v l p (w.alloc o) (h.below (below_box _)) (by subst ho; exact (Blk.new _ _ _).c0 0 _ rfl) (by simp) (fun wx hx => hf wx ((Grown.alloc (Grown.refl w) _).trans hx)))
  clear h hf
  go_enter Tryz.func136, Tryz.ntmps136
  go_wp2_with (go_at_call 182; refine (HI.out _ rfl).mono ?_; rintro e w2 ⟨rfl, hg2⟩; have Hg2 := Lib.hid hg2; clear hg2)
  go_ret
  exact ⟨ret_bool (by simp), ((Grown.refl w).alloc _).trans Hg2.out⟩

set_option maxRecDepth 100000 in
set_option maxHeartbeats 1000000 in
theorem eachNotM (c : Nat) (b : Nat) (x : Ms) (r : Bool) (w : World) (hb : w.cell? ⟨b, 0, none⟩ = some (.func (.func 139) #[] #[.pointer (some ⟨c, 0, none⟩)])) (hf : ∀ wx, Grown w wx → Calls Tryz.prog 139 #[msgV x, .pointer (some ⟨c, 0, none⟩)] wx fun e w' => e = .returned (.bool r) ∧ Grown wx w') :
    Calls Tryz.prog 186 #[msgV x, .pointer (some ⟨b, 0, none⟩)] w fun e w' => e = .returned (.bool (!r)) ∧ Grown w w' := by
  have mixed := mixedA
  obtain ⟨xkind, xkey, xval, xlo, xhi, xsrc, xdst, xn⟩ := x
  have HF := Lib.hid hf
  clear hf
  have cb : (w.alloc (.cells #[.int .i64 xkind, .string (Str xkey), .string (Str xval), .string (Str xlo), .string (Str xhi), .string (Str xsrc), .string (Str xdst), .int .i64 xn] 46)).cell? ⟨b, 0, none⟩ = some (.func (.func 139) #[] #[.pointer (some ⟨c, 0, none⟩)]) := by rw [World.cell?_alloc_lt _ _ _ (by exact cell_lt hb)]; exact hb
  go_enter Tryz.func186, Tryz.ntmps186
  go_wp2_with (go_at_call 139; refine (HF.out _ ((Grown.refl w).alloc _)).mono ?_; rintro e w1 ⟨rfl, hg1⟩; have Hg1 := Lib.hid hg1; clear hg1)
  go_ret
  exact ⟨by cases r <;> rfl, ((Grown.refl w).alloc _).trans Hg1.out⟩

set_option maxRecDepth 100000 in
set_option maxHeartbeats 2000000 in
theorem indexNotM (c : Nat) (b : Nat) (v : Value) (l : List Ms) (p : Ms → Bool) (w : World) (h : IsMsgs w v l) (hb : w.cell? ⟨b, 0, none⟩ = some (.func (.func 139) #[] #[.pointer (some ⟨c, 0, none⟩)])) (hbl : b < w.heap.size) (hf : ∀ wx, Grown w wx → ∀ x ∈ l, Calls Tryz.prog 139 #[msgV x, .pointer (some ⟨c, 0, none⟩)] wx fun e w' => e = .returned (.bool (p x)) ∧ Grown wx w') :
    Calls Tryz.prog 216 #[v, .func (.func 186) #[] #[.pointer (some ⟨b, 0, none⟩)]] w fun e w' => ∃ r : Int, e = .returned (.int .i64 r) ∧ decide (0 ≤ r) = !l.all p ∧ Grown w w' := by
  have mixed := mixedA
  have H := Lib.hid h
  have HL := Lib.hid (fun wx (hx : Grown w wx) x (hxm : x ∈ l) => eachNotM c b x (p x) wx (by rw [(hx.below (B := w.heap.size) (Nat.le_refl _)).cell (by exact hbl)]; exact hb) (fun wy hy => hf wy (hx.trans hy) x hxm))
  obtain ⟨a, cap, rfl, hlc, hcm, -⟩ := h
  unfold maxLen at hcm
  clear hf hb hbl
  go_enter Tryz.func216, Tryz.ntmps216
  go_wp2
  go_loopw [8] (fun i wr => ∃ k : Nat, k ≤ l.length ∧ i = .int .i64 k ∧ Grown w wr ∧ (l.take k).all p = true) (fun i _ => l.length - (intOf i).toNat)
  case atStart => exact ⟨0, Nat.zero_le _, rfl, Grown.refl _, by simp⟩
  case round =>
    obtain ⟨k, hk, rfl, hg, hno⟩ := hrel
    have Hg := Lib.hid hg
    have Hno := Lib.hid hno
    clear hg hno
    by_cases hlt : k < l.length
    · obtain ⟨bb, off, cap', he, hbl, hlz, x0, x1, x2, x3, x4, x5, x6, x7⟩ := at_msg (H.out.below (Hg.out.below (Nat.le_refl _))) k hlt
      injection he with he1 he2 he3
      subst he1 he3
      clear he2
      have hltz : (k : Int) < (l.length : Int) := by omega
      have HT := Lib.hid (show (l.take (k + 1)).all p = ((l.take k).all p && p l[k]) by rw [List.take_succ_eq_append_getElem hlt, List.all_append]; simp)
      have HA := Lib.hid (fun (h : p l[k] = false) => (List.all_eq_false.2 ⟨l[k], List.getElem_mem hlt, by rw [h]; simp⟩ : l.all p = false))
      have HC := Lib.hid (HL.out _ Hg.out l[k] (List.getElem_mem hlt))
      generalize l[k] = x at *
      generalize hlk : p x = lk at *
      have Hlk := Lib.hid hlk
      clear hlk
      obtain ⟨xkind, xkey, xval, xlo, xhi, xsrc, xdst, xn⟩ := x
      cases lk
      all_goals
        go_wp2_with (go_at_call 186; refine HC.out.mono ?_; rintro e w2 ⟨rfl, hg2⟩; have Hg2 := Lib.hid hg2; clear hg2)
      · go_ret
        exact ⟨_, rfl, by rw [HA.out trivial]; simp, Hg.out.trans Hg2.out⟩
      · go_roundw
        case rel => exact ⟨k + 1, by omega, by go_num, Hg.out.trans Hg2.out, by rw [HT.out, Hno.out]; rfl⟩
        case measure => simp [intOf]; omega
    · obtain rfl : k = l.length := by omega
      rw [List.take_length] at Hno
      go_wp2
      go_ret
      exact ⟨_, rfl, by rw [Hno.out]; rfl, Hg.out⟩

set_option maxHeartbeats 1000000 in
theorem containsNotM (c : Nat) (b : Nat) (v : Value) (l : List Ms) (p : Ms → Bool) (w : World) (h : IsMsgs w v l) (hb : w.cell? ⟨b, 0, none⟩ = some (.func (.func 139) #[] #[.pointer (some ⟨c, 0, none⟩)])) (hbl : b < w.heap.size) (hf : ∀ wx, Grown w wx → ∀ x ∈ l, Calls Tryz.prog 139 #[msgV x, .pointer (some ⟨c, 0, none⟩)] wx fun e w' => e = .returned (.bool (p x)) ∧ Grown wx w') :
    Calls Tryz.prog 185 #[v, .func (.func 186) #[] #[.pointer (some ⟨b, 0, none⟩)]] w fun e w' => e = .returned (.bool (!l.all p)) ∧ Grown w w' := by
  have HI := Lib.hid (indexNotM c b v l p w h hb hbl hf)
  clear h hb hbl hf
  go_enter Tryz.func185, Tryz.ntmps185
  go_wp2_with (go_at_call 216; refine HI.out.mono ?_; rintro e w2 ⟨r, rfl, hr, hg2⟩; have Hg2 := Lib.hid hg2; have Hr := Lib.hid hr; clear hg2 hr)
  go_ret
  exact ⟨ret_bool (by rw [← Hr.out]), Hg2.out⟩

set_option maxHeartbeats 1000000 in
theorem everyM (c : Nat) (v : Value) (l : List Ms) (p : Ms → Bool) (w : World) (h : IsMsgs w v l) (hf : ∀ wx, Grown w wx → ∀ x ∈ l, Calls Tryz.prog 139 #[msgV x, .pointer (some ⟨c, 0, none⟩)] wx fun e w' => e = .returned (.bool (p x)) ∧ Grown wx w') :
    Calls Tryz.prog 138 #[v, (.func (.func 139) #[] #[.pointer (some ⟨c, 0, none⟩)])] w fun e w' => e = .returned (.bool (l.all p)) ∧ Grown w w' := by
  have HI := Lib.hid (fun (o : Obj) (ho : o = .cells #[(.func (.func 139) #[] #[.pointer (some ⟨c, 0, none⟩)])] 76) => containsNotM c w.heap.size v l p (w.alloc o) (h.below (below_box _)) (by subst ho; exact (Blk.new _ _ _).c0 0 _ rfl) (by simp) (fun wx hx => hf wx ((Grown.alloc (Grown.refl w) _).trans hx)))
  clear h hf
  go_enter Tryz.func138, Tryz.ntmps138
  go_wp2_with (go_at_call 185; refine (HI.out _ rfl).mono ?_; rintro e w2 ⟨rfl, hg2⟩; have Hg2 := Lib.hid hg2; clear hg2)
  go_ret
  exact ⟨ret_bool (by simp), ((Grown.refl w).alloc _).trans Hg2.out⟩

set_option maxRecDepth 100000 in
set_option maxHeartbeats 1000000 in
theorem eachNotN (c : Nat) (b : Nat) (x : Sp) (r : Bool) (w : World) (hb : w.cell? ⟨b, 0, none⟩ = some (.func (.func 187) #[] #[.pointer (some ⟨c, 0, none⟩)])) (hf : ∀ wx, Grown w wx → Calls Tryz.prog 187 #[.agg #[.string (Str x.1), .string (Str x.2)], .pointer (some ⟨c, 0, none⟩)] wx fun e w' => e = .returned (.bool r) ∧ Grown wx w') :
    Calls Tryz.prog 217 #[.agg #[.string (Str x.1), .string (Str x.2)], .pointer (some ⟨b, 0, none⟩)] w fun e w' => e = .returned (.bool (!r)) ∧ Grown w w' := by
  have mixed := mixedA
  obtain ⟨xlo, xhi⟩ := x
  have HF := Lib.hid hf
  clear hf
  have cb : (w.alloc (.cells #[.string (Str xlo), .string (Str xhi)] 41)).cell? ⟨b, 0, none⟩ = some (.func (.func 187) #[] #[.pointer (some ⟨c, 0, none⟩)]) := by rw [World.cell?_alloc_lt _ _ _ (by exact cell_lt hb)]; exact hb
  go_enter Tryz.func217, Tryz.ntmps217
  go_wp2_with (go_at_call 187; refine (HF.out _ ((Grown.refl w).alloc _)).mono ?_; rintro e w1 ⟨rfl, hg1⟩; have Hg1 := Lib.hid hg1; clear hg1)
  go_ret
  exact ⟨by cases r <;> rfl, ((Grown.refl w).alloc _).trans Hg1.out⟩

set_option maxRecDepth 100000 in
set_option maxHeartbeats 2000000 in
theorem indexNotN (c : Nat) (b : Nat) (v : Value) (l : List Sp) (p : Sp → Bool) (w : World) (h : IsSpans w v l) (hb : w.cell? ⟨b, 0, none⟩ = some (.func (.func 187) #[] #[.pointer (some ⟨c, 0, none⟩)])) (hbl : b < w.heap.size) (hf : ∀ wx, Grown w wx → ∀ x ∈ l, Calls Tryz.prog 187 #[.agg #[.string (Str x.1), .string (Str x.2)], .pointer (some ⟨c, 0, none⟩)] wx fun e w' => e = .returned (.bool (p x)) ∧ Grown wx w') :
    Calls Tryz.prog 177 #[v, .func (.func 217) #[] #[.pointer (some ⟨b, 0, none⟩)]] w fun e w' => ∃ r : Int, e = .returned (.int .i64 r) ∧ decide (0 ≤ r) = !l.all p ∧ Grown w w' := by
  have mixed := mixedA
  have H := Lib.hid h
  have HL := Lib.hid (fun wx (hx : Grown w wx) x (hxm : x ∈ l) => eachNotN c b x (p x) wx (by rw [(hx.below (B := w.heap.size) (Nat.le_refl _)).cell (by exact hbl)]; exact hb) (fun wy hy => hf wy (hx.trans hy) x hxm))
  obtain ⟨a, cap, rfl, hlc, hcm, -⟩ := h
  unfold maxLen at hcm
  clear hf hb hbl
  go_enter Tryz.func177, Tryz.ntmps177
  go_wp2
  go_loopw [8] (fun i wr => ∃ k : Nat, k ≤ l.length ∧ i = .int .i64 k ∧ Grown w wr ∧ (l.take k).all p = true) (fun i _ => l.length - (intOf i).toNat)
  case atStart => exact ⟨0, Nat.zero_le _, rfl, Grown.refl _, by simp⟩
  case round =>
    obtain ⟨k, hk, rfl, hg, hno⟩ := hrel
    have Hg := Lib.hid hg
    have Hno := Lib.hid hno
    clear hg hno
    by_cases hlt : k < l.length
    · obtain ⟨bb, off, cap', he, hbl, hlz, x0, x1⟩ := at_span (H.out.below (Hg.out.below (Nat.le_refl _))) k hlt
      injection he with he1 he2 he3
      subst he1 he3
      clear he2
      have hltz : (k : Int) < (l.length : Int) := by omega
      have HT := Lib.hid (show (l.take (k + 1)).all p = ((l.take k).all p && p l[k]) by rw [List.take_succ_eq_append_getElem hlt, List.all_append]; simp)
      have HA := Lib.hid (fun (h : p l[k] = false) => (List.all_eq_false.2 ⟨l[k], List.getElem_mem hlt, by rw [h]; simp⟩ : l.all p = false))
      have HC := Lib.hid (HL.out _ Hg.out l[k] (List.getElem_mem hlt))
      generalize l[k] = x at *
      generalize hlk : p x = lk at *
      have Hlk := Lib.hid hlk
      clear hlk
      obtain ⟨xlo, xhi⟩ := x
      cases lk
      all_goals
        go_wp2_with (go_at_call 217; refine HC.out.mono ?_; rintro e w2 ⟨rfl, hg2⟩; have Hg2 := Lib.hid hg2; clear hg2)
      · go_ret
        exact ⟨_, rfl, by rw [HA.out trivial]; simp, Hg.out.trans Hg2.out⟩
      · go_roundw
        case rel => exact ⟨k + 1, by omega, by go_num, Hg.out.trans Hg2.out, by rw [HT.out, Hno.out]; rfl⟩
        case measure => simp [intOf]; omega
    · obtain rfl : k = l.length := by omega
      rw [List.take_length] at Hno
      go_wp2
      go_ret
      exact ⟨_, rfl, by rw [Hno.out]; rfl, Hg.out⟩

set_option maxHeartbeats 1000000 in
theorem containsNotN (c : Nat) (b : Nat) (v : Value) (l : List Sp) (p : Sp → Bool) (w : World) (h : IsSpans w v l) (hb : w.cell? ⟨b, 0, none⟩ = some (.func (.func 187) #[] #[.pointer (some ⟨c, 0, none⟩)])) (hbl : b < w.heap.size) (hf : ∀ wx, Grown w wx → ∀ x ∈ l, Calls Tryz.prog 187 #[.agg #[.string (Str x.1), .string (Str x.2)], .pointer (some ⟨c, 0, none⟩)] wx fun e w' => e = .returned (.bool (p x)) ∧ Grown wx w') :
    Calls Tryz.prog 124 #[v, .func (.func 217) #[] #[.pointer (some ⟨b, 0, none⟩)]] w fun e w' => e = .returned (.bool (!l.all p)) ∧ Grown w w' := by
  have HI := Lib.hid (indexNotN c b v l p w h hb hbl hf)
  clear h hb hbl hf
  go_enter Tryz.func124, Tryz.ntmps124
  go_wp2_with (go_at_call 177; refine HI.out.mono ?_; rintro e w2 ⟨r, rfl, hr, hg2⟩; have Hg2 := Lib.hid hg2; have Hr := Lib.hid hr; clear hg2 hr)
  go_ret
  exact ⟨ret_bool (by rw [← Hr.out]), Hg2.out⟩

set_option maxHeartbeats 1000000 in
theorem everyN (c : Nat) (v : Value) (l : List Sp) (p : Sp → Bool) (w : World) (h : IsSpans w v l) (hf : ∀ wx, Grown w wx → ∀ x ∈ l, Calls Tryz.prog 187 #[.agg #[.string (Str x.1), .string (Str x.2)], .pointer (some ⟨c, 0, none⟩)] wx fun e w' => e = .returned (.bool (p x)) ∧ Grown wx w') :
    Calls Tryz.prog 188 #[v, (.func (.func 187) #[] #[.pointer (some ⟨c, 0, none⟩)])] w fun e w' => e = .returned (.bool (l.all p)) ∧ Grown w w' := by
  have HI := Lib.hid (fun (o : Obj) (ho : o = .cells #[(.func (.func 187) #[] #[.pointer (some ⟨c, 0, none⟩)])] 80) => containsNotN c w.heap.size v l p (w.alloc o) (h.below (below_box _)) (by subst ho; exact (Blk.new _ _ _).c0 0 _ rfl) (by simp) (fun wx hx => hf wx ((Grown.alloc (Grown.refl w) _).trans hx)))
  clear h hf
  go_enter Tryz.func188, Tryz.ntmps188
  go_wp2_with (go_at_call 124; refine (HI.out _ rfl).mono ?_; rintro e w2 ⟨rfl, hg2⟩; have Hg2 := Lib.hid hg2; clear hg2)
  go_ret
  exact ⟨ret_bool (by simp), ((Grown.refl w).alloc _).trans Hg2.out⟩

set_option maxRecDepth 100000 in
set_option maxHeartbeats 1000000 in
theorem eachNotT (b : Nat) (x : Bs) (r : Bool) (w : World) (hb : w.cell? ⟨b, 0, none⟩ = some (.func (.func 70) #[] #[])) (hf : ∀ wx, Grown w wx → Calls Tryz.prog 70 #[.string (Str x)] wx fun e w' => e = .returned (.bool r) ∧ Grown wx w') :
    Calls Tryz.prog 145 #[.string (Str x), .pointer (some ⟨b, 0, none⟩)] w fun e w' => e = .returned (.bool (!r)) ∧ Grown w w' := by
  have mixed := mixedA
  skip
  have HF := Lib.hid hf
  clear hf
  have cb := hb
  go_enter Tryz.func145, Tryz.ntmps145
  go_wp2_with (go_at_call 70; refine (HF.out _ (Grown.refl w)).mono ?_; rintro e w1 ⟨rfl, hg1⟩; have Hg1 := Lib.hid hg1; clear hg1)
  go_ret
  exact ⟨by cases r <;> rfl, (Grown.refl w).trans Hg1.out⟩

set_option maxRecDepth 100000 in
set_option maxHeartbeats 2000000 in
theorem indexNotT (b : Nat) (v : Value) (l : List Bs) (p : Bs → Bool) (w : World) (h : IsStrs w v l) (hb : w.cell? ⟨b, 0, none⟩ = some (.func (.func 70) #[] #[])) (hbl : b < w.heap.size) (hf : ∀ wx, Grown w wx → ∀ x ∈ l, Calls Tryz.prog 70 #[.string (Str x)] wx fun e w' => e = .returned (.bool (p x)) ∧ Grown wx w') :
    Calls Tryz.prog 189 #[v, .func (.func 145) #[] #[.pointer (some ⟨b, 0, none⟩)]] w fun e w' => ∃ r : Int, e = .returned (.int .i64 r) ∧ decide (0 ≤ r) = !l.all p ∧ Grown w w' := by
  have mixed := mixedA
  have H := Lib.hid h
  have HL := Lib.hid (fun wx (hx : Grown w wx) x (hxm : x ∈ l) => eachNotT b x (p x) wx (by rw [(hx.below (B := w.heap.size) (Nat.le_refl _)).cell (by exact hbl)]; exact hb) (fun wy hy => hf wy (hx.trans hy) x hxm))
  obtain ⟨a, cap, rfl, hlc, hcm, -⟩ := h
  unfold maxLen at hcm
  clear hf hb hbl
  go_enter Tryz.func189, Tryz.ntmps189
  go_wp2
  go_loopw [8] (fun i wr => ∃ k : Nat, k ≤ l.length ∧ i = .int .i64 k ∧ Grown w wr ∧ (l.take k).all p = true) (fun i _ => l.length - (intOf i).toNat)
  case atStart => exact ⟨0, Nat.zero_le _, rfl, Grown.refl _, by simp⟩
  case round =>
    obtain ⟨k, hk, rfl, hg, hno⟩ := hrel
    have Hg := Lib.hid hg
    have Hno := Lib.hid hno
    clear hg hno
    by_cases hlt : k < l.length
    · obtain ⟨bb, off, cap', he, hbl, hlz, x0⟩ := at_str (H.out.below (Hg.out.below (Nat.le_refl _))) k hlt
      injection he with he1 he2 he3
      subst he1 he3
      clear he2
      have hltz : (k : Int) < (l.length : Int) := by omega
      have HT := Lib.hid (show (l.take (k + 1)).all p = ((l.take k).all p && p l[k]) by rw [List.take_succ_eq_append_getElem hlt, List.all_append]; simp)
      have HA := Lib.hid (fun (h : p l[k] = false) => (List.all_eq_false.2 ⟨l[k], List.getElem_mem hlt, by rw [h]; simp⟩ : l.all p = false))
      have HC := Lib.hid (HL.out _ Hg.out l[k] (List.getElem_mem hlt))
      generalize l[k] = x at *
      generalize hlk : p x = lk at *
      have Hlk := Lib.hid hlk
      clear hlk
      skip
      cases lk
      all_goals
        go_wp2_with (go_at_call 145; refine HC.out.mono ?_; rintro e w2 ⟨rfl, hg2⟩; have Hg2 := Lib.hid hg2; clear hg2)
      · go_ret
        exact ⟨_, rfl, by rw [HA.out trivial]; simp, Hg.out.trans Hg2.out⟩
      · go_roundw
        case rel => exact ⟨k + 1, by omega, by go_num, Hg.out.trans Hg2.out, by rw [HT.out, Hno.out]; rfl⟩
        case measure => simp [intOf]; omega
    · obtain rfl : k = l.length := by omega
      rw [List.take_length] at Hno
      go_wp2
      go_ret
      exact ⟨_, rfl, by rw [Hno.out]; rfl, Hg.out⟩

set_option maxHeartbeats 1000000 in
theorem containsNotT (b : Nat) (v : Value) (l : List Bs) (p : Bs → Bool) (w : World) (h : IsStrs w v l) (hb : w.cell? ⟨b, 0, none⟩ = some (.func (.func 70) #[] #[])) (hbl : b < w.heap.size) (hf : ∀ wx, Grown w wx → ∀ x ∈ l, Calls Tryz.prog 70 #[.string (Str x)] wx fun e w' => e = .returned (.bool (p x)) ∧ Grown wx w') :
    Calls Tryz.prog 144 #[v, .func (.func 145) #[] #[.pointer (some ⟨b, 0, none⟩)]] w fun e w' => e = .returned (.bool (!l.all p)) ∧ Grown w w' := by
  have HI := Lib.hid (indexNotT b v l p w h hb hbl hf)
  clear h hb hbl hf
  go_enter Tryz.func144, Tryz.ntmps144
  go_wp2_with (go_at_call 189; refine HI.out.mono ?_; rintro e w2 ⟨r, rfl, hr, hg2⟩; have Hg2 := Lib.hid hg2; have Hr := Lib.hid hr; clear hg2 hr)
  go_ret
  exact ⟨ret_bool (by rw [← Hr.out]), Hg2.out⟩

set_option maxHeartbeats 1000000 in
theorem everyT (v : Value) (l : List Bs) (p : Bs → Bool) (w : World) (h : IsStrs w v l) (hf : ∀ wx, Grown w wx → ∀ x ∈ l, Calls Tryz.prog 70 #[.string (Str x)] wx fun e w' => e = .returned (.bool (p x)) ∧ Grown wx w') :
    Calls Tryz.prog 69 #[v, (.func (.func 70) #[] #[])] w fun e w' => e = .returned (.bool (l.all p)) ∧ Grown w w' := by
  have HI := Lib.hid (fun (o : Obj) (ho : o = .cells #[(.func (.func 70) #[] #[])] 121) => containsNotT w.heap.size v l p (w.alloc o) (h.below (below_box _)) (by subst ho; exact (Blk.new _ _ _).c0 0 _ rfl) (by simp) (fun wx hx => hf wx ((Grown.alloc (Grown.refl w) _).trans hx)))
  clear h hf
  go_enter Tryz.func69, Tryz.ntmps69
  go_wp2_with (go_at_call 144; refine (HI.out _ rfl).mono ?_; rintro e w2 ⟨rfl, hg2⟩; have Hg2 := Lib.hid hg2; clear hg2)
  go_ret
  exact ⟨ret_bool (by simp), ((Grown.refl w).alloc _).trans Hg2.out⟩

end Go.Proofs.YtmbfghbhajmpiaaGreat
namespace Go.Proofs.YtmbfghbhajmpiaaGreat
open Go.RowKit Go.Sort
set_option linter.unusedVariables false

set_option maxRecDepth 100000 in
set_option maxHeartbeats 2000000 in
theorem tvalid_w (v : Value) (l : List Pr) (w : World) (h : IsPairs w v l) (hl : l.length ≤ 100000000000) :
    Calls Tryz.prog 128 #[v] w fun e w' => e = .returned (.bool (validB l)) ∧ ∃ n, w' = w.drewN n := by
  obtain ⟨b, off, cap, p, rfl, hlc, hcm, hpp, hcc⟩ := h.form
  unfold maxLen at hcm
  have HC := Lib.hid hcc
  clear h hpp hcc
  have mixed := mixedA
  go_enter Tryz.func128, Tryz.ntmps128
  go_wp2
  go_loopw [3] (fun i wr => ∃ k n : Nat, 1 ≤ k ∧ (k ≤ l.length ∨ k = 1) ∧ i = .int .i64 k ∧ Hid (Srt (l.take k)) ∧ wr = w.drewN n) (fun i _ => l.length - (intOf i).toNat)
  case atStart => exact ⟨1, 0, Nat.le_refl _, .inr rfl, rfl, Lib.hid (by rcases l with _ | ⟨x, r⟩ <;> simp [Srt]), rfl⟩
  case round =>
    obtain ⟨k, n, hk1, hk, rfl, HS, rfl⟩ := hrel
    by_cases hlt : k < l.length
    · obtain ⟨j, rfl⟩ : ∃ j, k = j + 1 := ⟨k - 1, by omega⟩
      obtain ⟨rfl, c0, -⟩ := HC.out j (by omega)
      obtain ⟨-, d0, -⟩ := HC.out (j + 1) hlt
      have hj : j < l.length := by omega
      have Hbad := Lib.hid (fun hb => validB_bad j hlt hb)
      have Hgood := Lib.hid (fun hb => validB_take j hlt HS.out hb)
      generalize (l[j]'hj) = x at *
      generalize l[j + 1] = y at *
      obtain ⟨xk, xv, xt⟩ := x
      obtain ⟨yk, yv, yt⟩ := y
      simp only at c0 d0
      have c0' := fun n => (show (w.drewN n).cell? ⟨b, off + j * 3, none⟩ = some (.string (Str xk)) from c0)
      have d0' := fun n => (show (w.drewN n).cell? ⟨b, off + (j + 1) * 3, none⟩ = some (.string (Str yk)) from d0)
      clear c0 d0
      have hw1 : IntKind.i64.wrap (((j + 1 : Nat) : Int) - 1) = (j : Int) := by rw [show ((j + 1 : Nat) : Int) - 1 = (j : Int) by omega]; exact IntWalk.i64_in _ (by omega)
      have hw2 : ((j + 1 : Nat) : Int) - 1 = (j : Int) := by omega
      have hz1 : (j : Int) < (l.length : Int) := by omega
      have hz2 : ((j + 1 : Nat) : Int) < (l.length : Int) := by omega
      have hz3 : (j : Int) + 1 < (l.length : Int) := by omega
      have hw3 : IntKind.i64.wrap ((j : Int) + 1 - 1) = (j : Int) := by rw [show (j : Int) + 1 - 1 = (j : Int) by omega]; exact IntWalk.i64_in _ (by omega)
      have d0'' := fun n => (show (w.drewN n).cell? ⟨b, off + ((j : Int) + 1).toNat * 3, none⟩ = some (.string (Str yk)) from by rw [show ((j : Int) + 1).toNat = j + 1 by omega]; exact d0' n)
      cases hB : Op.bytesLess xk yk with
      | true =>
        have HG := Lib.hid (Hgood.out hB)
        clear Hgood Hbad
        go_wp2_with fail
        go_quiet (fail)
        go_wp2
        go_roundw
        case rel => exact ⟨j + 2, n + nq, by omega, .inl (by omega), by go_num, HG, rfl⟩
        case measure => simp [intOf]; omega
      | false =>
        have HG := Lib.hid (Hbad.out hB)
        clear Hgood Hbad
        go_wp2_with fail
        go_quiet (fail)
        go_wp2
        go_ret
        exact ⟨ret_bool HG.out.symm, n + nq, by rw [World.drewN_drewN]⟩
    · have HG : Hid (validB l = true) := Lib.hid (by
        have := HS.out
        rw [List.take_of_length_le (by omega)] at this
        exact (validB_iff l).2 this)
      have hlt' : (l.length : Int) ≤ (k : Int) := by omega
      go_wp2
      go_ret
      exact ⟨ret_bool HG.out.symm, n, rfl⟩

set_option maxRecDepth 100000 in
set_option maxHeartbeats 2000000 in
theorem rtvalid_w (v : Value) (l : List Pr) (w : World) (h : IsPairs w v l) (hl : l.length ≤ 100000000000) :
    Calls Tryz.prog 141 #[v] w fun e w' => e = .returned (.bool (validB l)) ∧ ∃ n, w' = w.drewN n := by
  obtain ⟨b, off, cap, p, rfl, hlc, hcm, hpp, hcc⟩ := h.form
  unfold maxLen at hcm
  have HC := Lib.hid hcc
  clear h hpp hcc
  have mixed := mixedA
  go_enter Tryz.func141, Tryz.ntmps141
  go_wp2
  go_loopw [3] (fun i wr => ∃ k n : Nat, 1 ≤ k ∧ (k ≤ l.length ∨ k = 1) ∧ i = .int .i64 k ∧ Hid (Srt (l.take k)) ∧ wr = w.drewN n) (fun i _ => l.length - (intOf i).toNat)
  case atStart => exact ⟨1, 0, Nat.le_refl _, .inr rfl, rfl, Lib.hid (by rcases l with _ | ⟨x, r⟩ <;> simp [Srt]), rfl⟩
  case round =>
    obtain ⟨k, n, hk1, hk, rfl, HS, rfl⟩ := hrel
    by_cases hlt : k < l.length
    · obtain ⟨j, rfl⟩ : ∃ j, k = j + 1 := ⟨k - 1, by omega⟩
      obtain ⟨rfl, c0, -⟩ := HC.out j (by omega)
      obtain ⟨-, d0, -⟩ := HC.out (j + 1) hlt
      have hj : j < l.length := by omega
      have Hbad := Lib.hid (fun hb => validB_bad j hlt hb)
      have Hgood := Lib.hid (fun hb => validB_take j hlt HS.out hb)
      generalize (l[j]'hj) = x at *
      generalize l[j + 1] = y at *
      obtain ⟨xk, xv, xt⟩ := x
      obtain ⟨yk, yv, yt⟩ := y
      simp only at c0 d0
      have c0' := fun n => (show (w.drewN n).cell? ⟨b, off + j * 3, none⟩ = some (.string (Str xk)) from c0)
      have d0' := fun n => (show (w.drewN n).cell? ⟨b, off + (j + 1) * 3, none⟩ = some (.string (Str yk)) from d0)
      clear c0 d0
      have hw1 : IntKind.i64.wrap (((j + 1 : Nat) : Int) - 1) = (j : Int) := by rw [show ((j + 1 : Nat) : Int) - 1 = (j : Int) by omega]; exact IntWalk.i64_in _ (by omega)
      have hw2 : ((j + 1 : Nat) : Int) - 1 = (j : Int) := by omega
      have hz1 : (j : Int) < (l.length : Int) := by omega
      have hz2 : ((j + 1 : Nat) : Int) < (l.length : Int) := by omega
      have hz3 : (j : Int) + 1 < (l.length : Int) := by omega
      have hw3 : IntKind.i64.wrap ((j : Int) + 1 - 1) = (j : Int) := by rw [show (j : Int) + 1 - 1 = (j : Int) by omega]; exact IntWalk.i64_in _ (by omega)
      have d0'' := fun n => (show (w.drewN n).cell? ⟨b, off + ((j : Int) + 1).toNat * 3, none⟩ = some (.string (Str yk)) from by rw [show ((j : Int) + 1).toNat = j + 1 by omega]; exact d0' n)
      cases hB : Op.bytesLess xk yk with
      | true =>
        have HG := Lib.hid (Hgood.out hB)
        clear Hgood Hbad
        go_wp2_with fail
        go_quiet (fail)
        go_wp2
        go_roundw
        case rel => exact ⟨j + 2, n + nq, by omega, .inl (by omega), by go_num, HG, rfl⟩
        case measure => simp [intOf]; omega
      | false =>
        have HG := Lib.hid (Hbad.out hB)
        clear Hgood Hbad
        go_wp2_with fail
        go_quiet (fail)
        go_wp2
        go_ret
        exact ⟨ret_bool HG.out.symm, n + nq, by rw [World.drewN_drewN]⟩
    · have HG : Hid (validB l = true) := Lib.hid (by
        have := HS.out
        rw [List.take_of_length_le (by omega)] at this
        exact (validB_iff l).2 this)
      have hlt' : (l.length : Int) ≤ (k : Int) := by omega
      go_wp2
      go_ret
      exact ⟨ret_bool HG.out.symm, n, rfl⟩

end Go.Proofs.YtmbfghbhajmpiaaGreat
