/-
  Walks of package route: the kind of a message, the kid of a key, and where blocked spans meet a span.
-/
import Derived.Test.YtfpcaoacbjhkgaaGreatRPC
import Derived.Test.YtfpcaoacbjhkgaaGreatRBA
import Derived.Test.YtfpcaoacbjhkgaaGreatSh3
import Derived.Deep.LoopGhost
namespace Go.Proofs.YtfpcaoacbjhkgaaGreat
open Go.RowKit Go.Sort
set_option linter.unusedVariables false

set_option maxHeartbeats 1000000 in
theorem moves_w (m : Ms) (w : World) : Calls Tryz.prog 53 #[msgV m] w fun e w' => e = .returned (.bool (movesB m)) ∧ Grown w w' := by
  have mixed := mixedA
  unfold movesB
  by_cases h4 : m.kind = 4
  · rw [h4]
    obtain ⟨k, ky, va, lo, hi, sr, ds, n⟩ := m
    dsimp only at h4
    subst h4
    go_enter Tryz.func53, Tryz.ntmps53
    go_wp2
    go_ret
    exact ⟨by first | rfl | simp, (Grown.refl w).alloc _⟩
  · have g4 : decide (m.kind = 4) = false := decide_eq_false h4
    by_cases h5 : m.kind = 5
    · obtain ⟨k, ky, va, lo, hi, sr, ds, n⟩ := m
      dsimp only at h5
      subst h5
      go_enter Tryz.func53, Tryz.ntmps53
      go_wp2
      go_ret
      exact ⟨by first | rfl | simp, (Grown.refl w).alloc _⟩
    · have g5 : decide (m.kind = 5) = false := decide_eq_false h5
      rw [g4, g5]
      have e4 : (m.kind == 4) = false := by simpa using h4
      have e5 : (m.kind == 5) = false := by simpa using h5
      clear h4 h5 g4 g5
      go_enter Tryz.func53, Tryz.ntmps53
      go_wp2
      go_ret
      exact ⟨by first | rfl | simp, (Grown.refl w).alloc _⟩

set_option maxHeartbeats 1000000 in
theorem hasSp_w (m : Ms) (w : World) : Calls Tryz.prog 63 #[msgV m] w fun e w' => e = .returned (.bool (hasSpB m)) ∧ Grown w w' := by
  have mixed := mixedA
  unfold hasSpB
  by_cases h4 : m.kind = 3
  · rw [h4]
    obtain ⟨k, ky, va, lo, hi, sr, ds, n⟩ := m
    dsimp only at h4
    subst h4
    go_enter Tryz.func63, Tryz.ntmps63
    go_wp2
    go_ret
    exact ⟨by first | rfl | simp, (Grown.refl w).alloc _⟩
  · have g4 : decide (m.kind = 3) = false := decide_eq_false h4
    by_cases h5 : m.kind = 6
    · obtain ⟨k, ky, va, lo, hi, sr, ds, n⟩ := m
      dsimp only at h5
      subst h5
      go_enter Tryz.func63, Tryz.ntmps63
      go_wp2
      go_ret
      exact ⟨by first | rfl | simp, (Grown.refl w).alloc _⟩
    · have g5 : decide (m.kind = 6) = false := decide_eq_false h5
      rw [g4, g5]
      have e4 : (m.kind == 3) = false := by simpa using h4
      have e5 : (m.kind == 6) = false := by simpa using h5
      clear h4 h5 g4 g5
      go_enter Tryz.func63, Tryz.ntmps63
      go_wp2
      go_ret
      exact ⟨by first | rfl | simp, (Grown.refl w).alloc _⟩


theorem str_cells {w : World} {v : Value} {l : List Bs} (h : IsStrs w v l) (i : Nat) (hi : i < l.length) : ∃ b off cap, v = .slice (some ⟨b, off, none⟩) l.length cap ∧ b < w.heap.size ∧ (l.length : Int) ≤ 9223372036854775807 ∧
    w.cell? ⟨b, off + i, none⟩ = some (.string (Str l[i])) := by
  obtain ⟨a, cap, rfl, h1, h2, h3⟩ := h
  obtain ⟨b, off, rfl, h4, h5⟩ := h3 (by rintro rfl; simp at hi)
  unfold maxLen at h2
  exact ⟨b, off, cap, rfl, h4, by omega, h5 i hi⟩
theorem mono_at {α : Type} {p : α → Bool} {d : List α} (dflt : α) (h : d.Pairwise (fun x y => p x = true → p y = true)) (i j : Nat) (hij : i ≤ j) (hj : j < d.length) (hi : p (d[i]?.getD dflt) = true) : p (d[j]?.getD dflt) = true := by
  rcases Nat.eq_or_lt_of_le hij with rfl | hlt
  · exact hi
  · have hi' : i < d.length := by omega
    rw [List.getElem?_eq_getElem hi', Option.getD_some] at hi
    rw [List.getElem?_eq_getElem hj, Option.getD_some]
    exact (List.pairwise_iff_getElem.1 h) i j hi' hj hlt hi
theorem range_count {α : Type} (p : α → Bool) (d : List α) (dflt : α) : (List.range d.length).countP (fun i => !p (d[i]?.getD dflt)) = d.countP (fun x => !p x) := by
  have h : d = (List.range d.length).map (fun i => d[i]?.getD dflt) := by
    apply List.ext_getElem
    · simp
    · intro i h1 h2; simp [h1]
  conv => rhs; rw [h]
  rw [List.countP_map]
  rfl
theorem srtP_pair : ∀ {ps : List Bs}, SrtP ps → ps.Pairwise (fun x y => Op.bytesLess x y = true)
  | [], _ => List.Pairwise.nil
  | _ :: _, h => List.pairwise_cons.2 ⟨h.2.1, srtP_pair h.2.2⟩
theorem kid_pair {ps : List Bs} (h : SrtP ps) (k : Bs) : ps.Pairwise (fun x y => Op.bytesLess k x = true → Op.bytesLess k y = true) :=
  (srtP_pair h).imp fun h1 h2 => less_trans _ _ _ h2 h1
set_option maxHeartbeats 1000000 in
theorem kidC_w (bk bt : Nat) (v : Value) (l : List Bs) (k : Bs) (i : Nat) (W : World) (hi : i < l.length) (hk : W.cell? ⟨bk, 0, none⟩ = some (.string (Str k))) (ht : W.cell? ⟨bt, 0, none⟩ = some v) (hp : IsStrs W v l) :
    Calls Tryz.prog 50 (#[.int .i64 i] ++ #[.pointer (some ⟨bk, 0, none⟩), .pointer (some ⟨bt, 0, none⟩)]) W fun e w' => e = .returned (.bool (Op.bytesLess k (l[i]?.getD []))) ∧ ∃ q, w' = W.drewN q := by
  obtain ⟨b, off, cap, rfl, hb, hl, c0⟩ := str_cells hp i hi
  rw [List.getElem?_eq_getElem hi, Option.getD_some]
  clear hp
  generalize l[i] = x at *
  have hiz : (i : Int) < (l.length : Int) := by omega
  generalize l.length = n at *
  have mixed := mixedA
  go_enter Tryz.func50, Tryz.ntmps50
  go_wp2
  go_region
  all_goals go_wp2
  all_goals go_ret
  all_goals exact ⟨by first | rfl | simp, 1, rfl⟩
set_option maxHeartbeats 2000000 in
theorem kid_w (v : Value) (l : List Bs) (k : Bs) (w : World) (h : IsStrs w v l) (hs : SrtP l) (hl : l.length ≤ 1000000000) :
    Calls Tryz.prog 14 #[.string (Str k), v] w fun e w' => e = .returned (.int .i64 (kidN k l : Nat)) ∧ Grown w w' := by
  have eg : ∀ args w, (callFunc 50 args).run Tryz.prog w = .ok (.enter 50 args) w := enters_of Tryz.func50 (by kernel_rfl) rfl
  obtain ⟨W0, hW0⟩ : ∃ W0, W0 = (w.alloc (.cells #[.string (Str k)] 9)).alloc (.cells #[v] 27) := ⟨_, rfl⟩
  have hg0 : Grown w W0 := by rw [hW0]; exact ((Grown.refl w).alloc _).alloc _
  have b1 : Blk W0 w.heap.size 9 #[.string (Str k)] := by rw [hW0]; exact (Blk.new _ _ _).alloc _
  have b2 : Blk W0 (w.heap.size + 1) 27 #[v] := by rw [hW0]; exact Blk.new' _ _ _ (by simp)
  have hp0 : IsStrs W0 v l := h.below (hg0.below (Nat.le_refl _))
  obtain ⟨b, off, cap, a, hv, hlc, hcm, _, _⟩ := h.form
  unfold maxLen at hcm
  have hcon := Any.sort_Search Tryz.searchL 50 #[.pointer (some ⟨w.heap.size, 0, none⟩), .pointer (some ⟨w.heap.size + 1, 0, none⟩)] l.length (fun i => Op.bytesLess k (l[i]?.getD [])) W0 eg (by omega)
    (fun m os i hi => (kidC_w w.heap.size (w.heap.size + 1) v l k i _ hi (b1.c 0 _ rfl m os) (b2.c 0 _ rfl m os) (hp0.below (below_grown W0 m os (Nat.le_refl _)))).mono fun e w' ⟨h1, q, h2⟩ => ⟨h1, q, #[], by rw [h2, grow_empty]⟩)
    (fun i j hij hj hi => mono_at [] (kid_pair hs k) i j hij hj hi)
  change Calls Tryz.prog 49 _ _ _ at hcon
  rw [range_count (fun x => Op.bytesLess k x) l []] at hcon
  have hF : l.countP (fun x => !Op.bytesLess k x) = kidN k l := rfl
  rw [hF] at hcon
  have Hg0 := Lib.hid hg0
  have Hc := Lib.hid hcon
  have c2 := b2.c0 0 _ rfl
  clear hcon hp0 b2 hs eg h hg0 b1 hF
  subst hv
  generalize kidN k l = r at *
  go_enter Tryz.func14, Tryz.ntmps14
  go_wp2_with fail
  subst hW0
  refine Hc.out.mono ?_
  rintro e w' ⟨rfl, q, os, rfl⟩
  go_wp2
  go_ret
  exact ⟨rfl, Hg0.out.trans ⟨q, os, rfl⟩⟩

/-! ### Where blocked spans meet a span -/
theorem span_cells {w : World} {v : Value} {l : List Sp} (h : IsSpans w v l) (i : Nat) (hi : i < l.length) : ∃ b off cap, v = .slice (some ⟨b, off, none⟩) l.length cap ∧ b < w.heap.size ∧ (l.length : Int) ≤ 9223372036854775807 ∧
    w.cell? ⟨b, off + i * 2, none⟩ = some (.string (Str l[i].1)) ∧ w.cell? ⟨b, off + i * 2 + 1, none⟩ = some (.string (Str l[i].2)) := by
  obtain ⟨a, cap, rfl, h1, h2, h3⟩ := h
  obtain ⟨b, off, rfl, h4, h5⟩ := h3 (by rintro rfl; simp at hi)
  unfold maxLen at h2
  exact ⟨b, off, cap, rfl, h4, by omega, h5 i hi⟩
set_option maxHeartbeats 1000000 in
theorem meetA_w (bt bs : Nat) (v : Value) (l : List Sp) (s : Sp) (i : Nat) (W : World) (hi : i < l.length) (ht : W.cell? ⟨bt, 0, none⟩ = some v) (hs0 : W.cell? ⟨bs, 0, none⟩ = some (.string (Str s.1))) (hp : IsSpans W v l) :
    Calls Tryz.prog 121 (#[.int .i64 i] ++ #[.pointer (some ⟨bt, 0, none⟩), .pointer (some ⟨bs, 0, none⟩)]) W fun e w' => e = .returned (.bool (bfromT s (l[i]?.getD ([], [])))) ∧ ∃ q, w' = W.drewN q := by
  obtain ⟨b, off, cap, rfl, hb, hl, c0, c1⟩ := span_cells hp i hi
  rw [List.getElem?_eq_getElem hi, Option.getD_some]
  clear hp
  generalize l[i] = x at *
  have hiz : (i : Int) < (l.length : Int) := by omega
  generalize l.length = n at *
  unfold bfromT
  have mixed := mixedA
  cases hx : x.2.isEmpty with
  | true =>
    go_enter Tryz.func121, Tryz.ntmps121
    go_wp2
    go_region
    all_goals go_wp2
    all_goals go_ret
    all_goals exact ⟨by first | rfl | simp, 1, rfl⟩
  | false =>
    go_enter Tryz.func121, Tryz.ntmps121
    go_wp2
    go_region
    all_goals go_wp2
    all_goals go_ret
    all_goals exact ⟨by rw [← Bool.not_or, leq_eq, Bool.not_not]; rfl, 1, rfl⟩
set_option maxHeartbeats 1000000 in
theorem meetC_w (bt bs : Nat) (v : Value) (l : List Sp) (s : Sp) (i : Nat) (W : World) (hi : i < l.length) (ht : W.cell? ⟨bt, 0, none⟩ = some v) (hs1 : W.cell? ⟨bs, 1, none⟩ = some (.string (Str s.2))) (hp : IsSpans W v l) :
    Calls Tryz.prog 122 (#[.int .i64 i] ++ #[.pointer (some ⟨bs, 0, none⟩), .pointer (some ⟨bt, 0, none⟩)]) W fun e w' => e = .returned (.bool (btoT s (l[i]?.getD ([], [])))) ∧ ∃ q, w' = W.drewN q := by
  obtain ⟨b, off, cap, rfl, hb, hl, c0, c1⟩ := span_cells hp i hi
  rw [List.getElem?_eq_getElem hi, Option.getD_some]
  clear hp
  generalize l[i] = x at *
  have hiz : (i : Int) < (l.length : Int) := by omega
  generalize l.length = n at *
  unfold btoT
  have mixed := mixedA
  cases hx : s.2.isEmpty with
  | true =>
    go_enter Tryz.func122, Tryz.ntmps122
    go_wp2
    go_region
    all_goals go_wp2
    all_goals go_ret
    all_goals exact ⟨by first | rfl | simp, 1, rfl⟩
  | false =>
    go_enter Tryz.func122, Tryz.ntmps122
    go_wp2
    go_region
    all_goals go_wp2
    all_goals go_ret
    all_goals exact ⟨by first | rfl | simp, 1, rfl⟩

set_option maxHeartbeats 2000000 in
theorem meeting_w (v : Value) (l : List Sp) (s : Sp) (w : World) (h : IsSpans w v l) (hs : OrdD l) (hl : l.length ≤ 1000000000) :
    Calls Tryz.prog 109 #[v, strS s] w fun e w' => e = .returned (.tuple #[.int .i64 (bfrom l s : Nat), .int .i64 (bto l s : Nat)]) ∧ Grown w w' := by
  obtain ⟨lo, hi⟩ := s
  simp only [strS]
  have eg : ∀ args w, (callFunc 121 args).run Tryz.prog w = .ok (.enter 121 args) w := enters_of Tryz.func121 (by kernel_rfl) rfl
  have eh : ∀ args w, (callFunc 122 args).run Tryz.prog w = .ok (.enter 122 args) w := enters_of Tryz.func122 (by kernel_rfl) rfl
  obtain ⟨W0, hW0⟩ : ∃ W0, W0 = (w.alloc (.cells #[v] 108)).alloc (.cells #[.string (Str lo), .string (Str hi)] 38) := ⟨_, rfl⟩
  have hg0 : Grown w W0 := by rw [hW0]; exact ((Grown.refl w).alloc _).alloc _
  have b1 : Blk W0 w.heap.size 108 #[v] := by rw [hW0]; exact (Blk.new _ _ _).alloc _
  have b2 : Blk W0 (w.heap.size + 1) 38 #[.string (Str lo), .string (Str hi)] := by rw [hW0]; exact Blk.new' _ _ _ (by simp)
  have hp0 : IsSpans W0 v l := h.below (hg0.below (Nat.le_refl _))
  obtain ⟨a, cap, hv, hlc, hcm, _⟩ := h
  unfold maxLen at hcm
  have hcA := Any.sort_Search Tryz.searchL 121 #[.pointer (some ⟨w.heap.size, 0, none⟩), .pointer (some ⟨w.heap.size + 1, 0, none⟩)] l.length (fun i => bfromT (lo, hi) (l[i]?.getD ([], []))) W0 eg (by omega)
    (fun m os i hi' => (meetA_w w.heap.size (w.heap.size + 1) v l (lo, hi) i _ hi' (b1.c 0 _ rfl m os) (b2.c 0 _ rfl m os) (hp0.below (below_grown W0 m os (Nat.le_refl _)))).mono fun e w' ⟨h1, q, h2⟩ => ⟨h1, q, #[], by rw [h2, grow_empty]⟩)
    (fun i j hij hj hi' => mono_at _ (bfrom_pair hs (lo, hi)) i j hij hj hi')
  have hcB := fun m0 os0 => Any.sort_Search Tryz.searchL 122 #[.pointer (some ⟨w.heap.size + 1, 0, none⟩), .pointer (some ⟨w.heap.size, 0, none⟩)] l.length (fun i => btoT (lo, hi) (l[i]?.getD ([], []))) (grow (W0.drewN m0) os0) eh (by omega)
    (fun m os i hi' => (meetC_w w.heap.size (w.heap.size + 1) v l (lo, hi) i _ hi' ((b1.grown m0 os0).c 0 _ rfl m os) ((b2.grown m0 os0).c 1 _ rfl m os) ((hp0.below (below_grown W0 m0 os0 (Nat.le_refl _))).below (below_grown _ m os (Nat.le_refl _)))).mono fun e w' ⟨h1, q, h2⟩ => ⟨h1, q, #[], by rw [h2, grow_empty]⟩)
    (fun i j hij hj hi' => mono_at _ (bto_pair hs (lo, hi)) i j hij hj hi')
  change Calls Tryz.prog 49 _ _ _ at hcA
  change ∀ m0 os0, Calls Tryz.prog 49 _ _ _ at hcB
  rw [range_count (bfromT (lo, hi)) l ([], [])] at hcA
  simp only [range_count (btoT (lo, hi)) l ([], [])] at hcB
  have hF : l.countP (fun x => !bfromT (lo, hi) x) = bfrom l (lo, hi) := rfl
  have hT : l.countP (fun x => !btoT (lo, hi) x) = bto l (lo, hi) := rfl
  rw [hF] at hcA
  simp only [hT] at hcB
  have Hg0 := Lib.hid hg0
  have HA := Lib.hid hcA
  have HB := Lib.hid hcB
  have hdt : ∀ q os, (grow (W0.drewN q) os).cell? ⟨w.heap.size, 0, none⟩ = some v := b1.c 0 _ rfl
  have HDT := Lib.hid hdt
  have c1 := b1.c0 0 _ rfl
  have hz := Nat.lt_of_lt_of_le (show w.heap.size < w.heap.size + 1 from Nat.lt_succ_self _) (Nat.le_refl _)
  clear hcA hcB hp0 b2 hs eg eh hg0 b1 hF hT hdt
  subst hv
  generalize bfrom l (lo, hi) = ra at *
  generalize bto l (lo, hi) = rb at *
  go_enter Tryz.func109, Tryz.ntmps109
  go_wp2_with fail
  subst hW0
  refine HA.out.mono ?_
  rintro e w' ⟨rfl, q, os, rfl⟩
  have hdt := HDT.out q os
  go_wp2_with fail
  refine (HB.out q os).mono ?_
  rintro e w' ⟨rfl, q2, os2, rfl⟩
  go_wp2
  go_ret2
  exact ⟨rfl, (Hg0.out.trans ⟨q, os, rfl⟩).trans ⟨q2, os2, rfl⟩⟩
set_option maxHeartbeats 1000000 in
theorem meets_w (v : Value) (l : List Sp) (s : Sp) (w : World) (h : IsSpans w v l) (hs : OrdD l) (hl : l.length ≤ 1000000000) :
    Calls Tryz.prog 84 #[v, strS s] w fun e w' => e = .returned (.bool (decide (bfrom l s < bto l s))) ∧ Grown w w' := by
  have HN := Lib.hid (fun wx (hx : Grown w wx) => meeting_w v l s wx (h.below (hx.below (Nat.le_refl _))) hs hl)
  obtain ⟨a, cap, rfl, -⟩ := h
  clear hs
  simp only [strS] at HN ⊢
  generalize bfrom l s = ra at *
  generalize bto l s = rb at *
  have hc : Grown w (w.alloc (.cells #[.string (Str s.1), .string (Str s.2)] 38)) := (Grown.refl w).alloc _
  have HC := Lib.hid hc
  clear hc
  by_cases hlt : ra < rb
  · have e : decide (ra < rb) = true := decide_eq_true hlt
    rw [e]
    go_enter Tryz.func84, Tryz.ntmps84
    go_wp2_with (go_at_call 109; refine (HN.out _ HC.out).mono ?_; rintro e w2 ⟨rfl, hg2⟩; have HG2 := Lib.hid hg2; clear hg2)
    go_ret
    exact ⟨by first | rfl | simp, HC.out.trans HG2.out⟩
  · have e : decide (ra < rb) = false := decide_eq_false hlt
    rw [e]
    go_enter Tryz.func84, Tryz.ntmps84
    go_wp2_with (go_at_call 109; refine (HN.out _ HC.out).mono ?_; rintro e w2 ⟨rfl, hg2⟩; have HG2 := Lib.hid hg2; clear hg2)
    go_ret
    exact ⟨by first | rfl | simp, HC.out.trans HG2.out⟩

end Go.Proofs.YtfpcaoacbjhkgaaGreat
