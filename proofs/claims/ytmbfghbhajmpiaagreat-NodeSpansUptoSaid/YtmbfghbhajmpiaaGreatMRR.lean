/-
  Walks: lists of spans; what has a key. Walks: where spans meet, the program's and the reference's; the reference's Empty, Less, Moved, Prefix.
-/
import Derived.Test.YtmbfghbhajmpiaaGreatTX
import Derived.Test.YtmbfghbhajmpiaaGreatPL
import Derived.Laws.StructEq
namespace Go.Proofs.YtmbfghbhajmpiaaGreat
open Go.RowKit Go.Sort
set_option linter.unusedVariables false

/-- A slice of spans. -/
def IsSpans (w : World) (v : Value) (l : List Sp) : Prop :=
  ∃ a cap, v = .slice a l.length cap ∧ l.length ≤ cap ∧ cap ≤ maxLen ∧ (l ≠ [] → ∃ b off, a = some ⟨b, off, none⟩ ∧ b < w.heap.size ∧
    ∀ i (h : i < l.length), w.cell? ⟨b, off + i * 2, none⟩ = some (.string (Str l[i].1)) ∧ w.cell? ⟨b, off + i * 2 + 1, none⟩ = some (.string (Str l[i].2)))
theorem IsSpans.below {w w' : World} {v : Value} {l : List Sp} (h : IsSpans w v l) (hb : Below w.heap.size w w') : IsSpans w' v l := by
  obtain ⟨a, cap, h1, h2, h3, h4⟩ := h
  refine ⟨a, cap, h1, h2, h3, fun hl => ?_⟩
  obtain ⟨b, off, e, hlt, hc⟩ := h4 hl
  exact ⟨b, off, e, Nat.lt_of_lt_of_le hlt hb.size, fun i hi => ⟨by rw [hb.cell (by exact hlt)]; exact (hc i hi).1, by rw [hb.cell (by exact hlt)]; exact (hc i hi).2⟩⟩
theorem IsSpans.form {w : World} {v : Value} {l : List Sp} (h : IsSpans w v l) : ∃ b off cap a, v = .slice a l.length cap ∧ l.length ≤ cap ∧ cap ≤ maxLen ∧ (l ≠ [] → a = some ⟨b, off, none⟩ ∧ b < w.heap.size) ∧
    ∀ i (h : i < l.length), a = some ⟨b, off, none⟩ ∧ w.cell? ⟨b, off + i * 2, none⟩ = some (.string (Str l[i].1)) ∧ w.cell? ⟨b, off + i * 2 + 1, none⟩ = some (.string (Str l[i].2)) := by
  obtain ⟨a, cap, h1, h2, h3, h4⟩ := h
  by_cases hl : l = []
  · subst hl; exact ⟨0, 0, cap, a, h1, h2, h3, fun h => absurd rfl h, fun i hi => absurd hi (by simp)⟩
  · obtain ⟨b, off, e, hlt, hc⟩ := h4 hl
    exact ⟨b, off, cap, a, h1, h2, h3, fun _ => ⟨e, hlt⟩, fun i hi => ⟨e, hc i hi⟩⟩
/-- Flat cells. -/
theorem flatS_get (l : List Sp) (i : Nat) (h : i < l.length) : (l.flatMap encS)[i * 2]? = some (.string (Str l[i].1)) ∧ (l.flatMap encS)[i * 2 + 1]? = some (.string (Str l[i].2)) := by
  induction l generalizing i with
  | nil => simp at h
  | cons s l ih =>
    have e : (s :: l).flatMap encS = .string (Str s.1) :: .string (Str s.2) :: l.flatMap encS := rfl
    rw [e]
    cases i with
    | zero => exact ⟨rfl, rfl⟩
    | succ i =>
      have := ih i (by simpa using h)
      rw [show (i + 1) * 2 = i * 2 + 2 by omega]
      exact this
theorem flatS_len (l : List Sp) : (l.flatMap encS).length = l.length * 2 := by
  induction l with
  | nil => rfl
  | cons s l ih =>
    have e : (s :: l).flatMap encS = .string (Str s.1) :: .string (Str s.2) :: l.flatMap encS := rfl
    rw [e]; simp [ih]; omega
theorem IsSpans.owned {w : World} {base : Nat} {v : Value} {n : Nat} {l : List Sp} (h : w.ownsRow base 41 2 v n (l.flatMap encS)) : IsSpans w v l := by
  have hlen := h.1
  rw [flatS_len] at hlen
  obtain rfl : n = l.length := by omega
  rcases h.2 with ⟨rfl, h0⟩ | ⟨g, cap, cur, rfl, hb, hg, hn, hm, hsz, htk⟩
  · have : l = [] := List.length_eq_zero_iff.1 h0
    subst this
    exact ⟨none, 0, rfl, Nat.le_refl _, by unfold maxLen; omega, fun h => absurd rfl h⟩
  · refine ⟨_, cap, rfl, hn, hm, fun _ => ⟨g, 0, rfl, by rw [Array.getElem?_eq_some_iff] at hg; exact hg.1, fun i hi => ?_⟩⟩
    have hc : ∀ j, j < l.length * 2 → w.cell? ⟨g, j, none⟩ = (l.flatMap encS)[j]? := by
      intro j hj
      unfold World.cell?
      rw [hg, ← htk, List.getElem?_take, if_pos hj, Array.getElem?_toList]
      rfl
    have hi2 := flatS_get l i hi
    exact ⟨by rw [Nat.zero_add, hc _ (by omega)]; exact hi2.1, by rw [Nat.zero_add, hc _ (by omega)]; exact hi2.2⟩
set_option maxHeartbeats 1000000 in
theorem has_w (lo hi k : Bs) (w : World) : Calls Tryz.prog 132 #[.agg #[.string (Str lo), .string (Str hi)], .string (Str k)] w fun e w' => e = .returned (.bool (hasB (lo, hi) k)) ∧ Grown w w' := by
  have H : Hid (hasB (lo, hi) k = (!Op.bytesLess k lo && (hi.isEmpty || Op.bytesLess k hi))) := rfl
  cases h1 : Op.bytesLess k lo <;> cases h2 : hi.isEmpty <;> cases h3 : Op.bytesLess k hi
  all_goals
    rw [h1, h2, h3] at H
    go_enter Tryz.func132, Tryz.ntmps132
    go_wp2
    go_ret
    exact ⟨ret_bool (by rw [H.out]; rfl), (Grown.refl w).alloc _⟩
set_option maxHeartbeats 1000000 in
theorem rhas_w (lo hi k : Bs) (w : World) : Calls Tryz.prog 34 #[.agg #[.string (Str lo), .string (Str hi)], .string (Str k)] w fun e w' => e = .returned (.bool (hasB (lo, hi) k)) ∧ Grown w w' := by
  have H : Hid (hasB (lo, hi) k = (!Op.bytesLess k lo && (hi.isEmpty || Op.bytesLess k hi))) := rfl
  cases h1 : Op.bytesLess k lo <;> cases h2 : hi.isEmpty <;> cases h3 : Op.bytesLess k hi
  all_goals
    rw [h1, h2, h3] at H
    go_enter Tryz.func34, Tryz.ntmps34
    go_wp2
    go_ret
    exact ⟨ret_bool (by rw [H.out]; rfl), (Grown.refl w).alloc _⟩
set_option maxHeartbeats 1000000 in
theorem rone_w (k : Bs) (w : World) (hk : k.length ≤ 140737488355328) : Calls Tryz.prog 95 #[.string (Str k)] w fun e w' => e = .returned (.agg #[.string (Str k), .string (Str (k ++ [0]))]) ∧ Grown w w' := by
  go_enter Tryz.func95, Tryz.ntmps95
  go_wp2
  refine bodyPost_ret (v := .agg #[.string (Str k), .string (Str (k ++ [0]))]) (by simp [results, Tryz.results95, go_sem]; exact Str_add k [0]) rfl ⟨rfl, ?_⟩
  repeat (first | exact Grown.refl _ | refine Grown.setCell ?_ _ _ _ (by simp) | refine Grown.alloc ?_ _)
theorem eql_span (a b c d : Bs) (w : World) : (binOp .eql 41 (.agg #[.string (Str a), .string (Str b)]) (.agg #[.string (Str c), .string (Str d)])).run Tryz.prog w = .ok (.bool (a == c && b == d)) w := by
  have hS : Tryz.prog.underlying 41 = some (.struct (Tryz.prog.fieldsOf 41)) := by kernel_rfl
  have hp : Tryz.prog.stoodInHeld 41 = false := by kernel_rfl
  have u := Tryz.underlying9
  have ag := Tryz.isAgg9
  have sz := Tryz.sizeOf9
  rw [run_eql_struct, show (10000 : Nat) = 9999 + 1 from rfl, run_equalIn_agg w 9999 41 _ _ hS hp]
  simp only [Program.fieldsOf, Tryz.underlying41]
  go_simp
  by_cases h1 : a = c <;> by_cases h2 : b = d <;> simp [h1, h2]
theorem neq_span (a b c d : Bs) (w : World) : (binOp .neq 41 (.agg #[.string (Str a), .string (Str b)]) (.agg #[.string (Str c), .string (Str d)])).run Tryz.prog w = .ok (.bool (!(a == c && b == d))) w := by
  have hS : Tryz.prog.underlying 41 = some (.struct (Tryz.prog.fieldsOf 41)) := by kernel_rfl
  have hp : Tryz.prog.stoodInHeld 41 = false := by kernel_rfl
  have u := Tryz.underlying9
  have ag := Tryz.isAgg9
  have sz := Tryz.sizeOf9
  rw [run_neq_struct, show (10000 : Nat) = 9999 + 1 from rfl, run_equalIn_agg w 9999 41 _ _ hS hp]
  simp only [Program.fieldsOf, Tryz.underlying41]
  go_simp
  by_cases h1 : a = c <;> by_cases h2 : b = d <;> simp [h1, h2]
theorem guard_span (op : BinOp) (x y : Operand) (xs ys : Array Value) (w : World) : (eqGuard op 41 x y (.agg xs) (.agg ys)).run Tryz.prog w = .ok () w := run_eqGuard_agg w op 41 x y xs ys (by kernel_rfl)
attribute [go_sem high] eql_span neq_span guard_span
set_option maxHeartbeats 1000000 in
theorem spsame_w (v0 v1 : Value) (a b : List Sp) (w : World) (h0 : IsSpans w v0 a) (h1 : IsSpans w v1 b) :
    Calls Tryz.prog 58 #[v0, v1] w fun e w' => e = .returned (.bool (decide (a = b))) ∧ Grown w w' := by
  have mixed := mixedA
  obtain ⟨g0, o0, cap0, p0, rfl, hl0, hm0, hp0, hc0⟩ := h0.form
  obtain ⟨g1, o1, cap1, p1, rfl, hl1, hm1, hp1, hc1⟩ := h1.form
  unfold maxLen at hm0 hm1
  have HC0 := Lib.hid hc0
  have HC1 := Lib.hid hc1
  have HP0 := Lib.hid hp0
  have HP1 := Lib.hid hp1
  clear h0 h1 hp0 hp1 hc0 hc1
  by_cases hlen : a.length = b.length
  · have hlb : ((a.length : Int) != (b.length : Int)) = false := by rw [hlen]; simp
    have Hlen := Lib.hid hlen
    clear hlen
    go_enter Tryz.func58, Tryz.ntmps58
    go_wp2
    go_loopw [5] (fun i wr => ∃ k : Nat, k ≤ a.length ∧ i = .int .i64 k ∧ Hid (a.take k = b.take k) ∧ Grown w wr) (fun i _ => a.length - (intOf i).toNat)
    case atStart => exact ⟨0, Nat.zero_le _, rfl, Lib.hid rfl, Grown.refl _⟩
    case round =>
      obtain ⟨k, hk, rfl, htake, hgr⟩ := hrel
      by_cases hlt : k < a.length
      · have hltb : k < b.length := by have := Hlen.out; omega
        have hlz : (k : Int) < (b.length : Int) := by omega
        have hlza : (k : Int) < (a.length : Int) := by omega
        obtain ⟨rfl, c0, c1⟩ := HC0.out k hlt
        obtain ⟨rfl, d0, d1⟩ := HC1.out k hltb
        have g0l := (HP0.out (by rintro rfl; simp at hlt)).2
        have g1l := (HP1.out (by rintro rfl; simp at hltb)).2
        have hbel := hgr.below (B := w.heap.size) (Nat.le_refl _)
        have hc : ∀ g o v, g < w.heap.size → w.cell? ⟨g, o, none⟩ = some v → ∀ n os, (grow (wr.drewN n) os).cell? ⟨g, o, none⟩ = some v := fun g o v hg h n os =>
          cell_grown (by exact Nat.lt_of_lt_of_le hg hbel.size) (by rw [hbel.cell (by exact hg)]; exact h) n os
        have c0 := hc _ _ _ g0l c0
        have c1 := hc _ _ _ g0l c1
        have d0 := hc _ _ _ g1l d0
        have d1 := hc _ _ _ g1l d1
        have Ha := Lib.hid (show a.take (k + 1) = a.take k ++ [a[k]] from by rw [List.take_add_one, List.getElem?_eq_getElem hlt]; rfl)
        have Hb := Lib.hid (show b.take (k + 1) = b.take k ++ [b[k]] from by rw [List.take_add_one, List.getElem?_eq_getElem hltb]; rfl)
        have Hne : Hid (a[k] ≠ b[k] → a ≠ b) := Lib.hid (fun h e => h (by subst e; rfl))
        have Hg := Lib.hid hgr
        clear hc hbel hgr
        generalize hx : a[k] = x at *
        generalize hy : b[k] = y at *
        obtain ⟨x1, x2⟩ := x
        obtain ⟨y1, y2⟩ := y
        clear hx hy
        by_cases e1 : x1 = y1
        · by_cases e2 : x2 = y2
          · have hb1 : (x1 == y1) = true := by simpa using e1
            have hb2 : (x2 == y2) = true := by simpa using e2
            have He : Hid ((x1, x2) = (y1, y2)) := Lib.hid (by rw [e1, e2])
            clear e1 e2
            go_wp2_with fail
            refine wp_region_quiet_grown mixed (by kernel_rfl) ?_
            repeat (first | go_big_quiet_skip | (refine wpQuiet_step (fun K hK => ?_); have HK := Lib.hid hK; clear hK; go_simp; first | (refine HK.out _ ?_; clear HK K) | (apply Exists.intro; refine ⟨fun _ => ?_, HK.out _ ?_⟩; skip; clear HK K)))
            refine wpQuiet_nil ?_
            intro _ hw'
            obtain ⟨⟨nq, osq⟩, hw''⟩ := hw'
            subst hw''
            have Hg2 : Hid (Grown w (grow (wr.drewN nq) osq)) := Lib.hid (Hg.out.trans ⟨nq, osq, rfl⟩)
            go_wp2
            go_roundw
            case rel => exact ⟨k + 1, by omega, by go_num, Lib.hid (by rw [Ha.out, Hb.out, htake.out, He.out]), Hg2.out⟩
            case measure => simp [intOf]; omega
          · have hb1 : (x1 == y1) = true := by simpa using e1
            have hb2 : (x2 == y2) = false := by simpa using e2
            have He := Lib.hid (Hne.out (by intro h; exact e2 (by injection h)))
            clear e2
            go_wp2_with fail
            refine wp_region_quiet_grown mixed (by kernel_rfl) ?_
            repeat (first | go_big_quiet_skip | (refine wpQuiet_step (fun K hK => ?_); have HK := Lib.hid hK; clear hK; go_simp; first | (refine HK.out _ ?_; clear HK K) | (apply Exists.intro; refine ⟨fun _ => ?_, HK.out _ ?_⟩; skip; clear HK K)))
            refine wpQuiet_nil ?_
            intro _ hw'
            obtain ⟨⟨nq, osq⟩, hw''⟩ := hw'
            subst hw''
            have Hg2 : Hid (Grown w (grow (wr.drewN nq) osq)) := Lib.hid (Hg.out.trans ⟨nq, osq, rfl⟩)
            go_wp2
            go_ret
            exact ⟨ret_bool (by have := He.out; simp [this]), Hg2.out⟩
        · have hb1 : (x1 == y1) = false := by simpa using e1
          have He := Lib.hid (Hne.out (by intro h; exact e1 (by injection h)))
          clear e1
          go_wp2_with fail
          refine wp_region_quiet_grown mixed (by kernel_rfl) ?_
          repeat (first | go_big_quiet_skip | (refine wpQuiet_step (fun K hK => ?_); have HK := Lib.hid hK; clear hK; go_simp; first | (refine HK.out _ ?_; clear HK K) | (apply Exists.intro; refine ⟨fun _ => ?_, HK.out _ ?_⟩; skip; clear HK K)))
          refine wpQuiet_nil ?_
          intro _ hw'
          obtain ⟨⟨nq, osq⟩, hw''⟩ := hw'
          subst hw''
          have Hg2 : Hid (Grown w (grow (wr.drewN nq) osq)) := Lib.hid (Hg.out.trans ⟨nq, osq, rfl⟩)
          go_wp2
          go_ret
          exact ⟨ret_bool (by have := He.out; simp [this]), Hg2.out⟩
      · have He : Hid (a = b) := Lib.hid (by
          have := htake.out
          rwa [List.take_of_length_le (by omega), List.take_of_length_le (by have := Hlen.out; omega)] at this)
        go_wp2
        go_ret
        exact ⟨ret_bool (by have := He.out; simp [this]), hgr⟩
  · have hlb : ((a.length : Int) != (b.length : Int)) = true := by simp; omega
    have He : Hid (a ≠ b) := Lib.hid (fun e => hlen (by rw [e]))
    clear hlen
    go_enter Tryz.func58, Tryz.ntmps58
    go_wp2
    go_ret
    exact ⟨ret_bool (by have := He.out; simp [this]), Grown.refl _⟩
theorem begins_eq (k p : Bs) (h : p.length ≤ k.length) : p.isPrefixOf k = (k.take p.length == p) := by
  rw [Bool.eq_iff_iff, List.isPrefixOf_iff_prefix, List.prefix_iff_eq_take, beq_iff_eq]
  exact eq_comm
theorem begins_short (k p : Bs) (h : k.length < p.length) : p.isPrefixOf k = false := by
  rw [Bool.eq_false_iff]
  intro h2
  have := (List.isPrefixOf_iff_prefix.1 h2).length_le
  omega
set_option maxHeartbeats 1000000 in
theorem begins_w (k p : Bs) (w : World) (hk : k.length ≤ 140737488355328) (hp : p.length ≤ 140737488355328) : Calls Tryz.prog 86 #[.string (Str k), .string (Str p)] w fun e w' => e = .returned (.bool (p.isPrefixOf k)) ∧ Grown w w' := by
  by_cases h : p.length ≤ k.length
  · have H := Lib.hid (begins_eq k p h)
    have hz : (p.length : Int) ≤ (k.length : Int) := by omega
    go_enter Tryz.func86, Tryz.ntmps86
    go_wp2
    go_ret
    exact ⟨ret_bool H.out.symm, Grown.refl _⟩
  · have H := Lib.hid (begins_short k p (by omega))
    have hz : (k.length : Int) < (p.length : Int) := by omega
    have hzd : decide ((p.length : Int) ≤ (k.length : Int)) = false := by simp; omega
    go_enter Tryz.func86, Tryz.ntmps86
    go_wp2
    go_ret
    exact ⟨ret_bool H.out.symm, Grown.refl _⟩
end Go.Proofs.YtmbfghbhajmpiaaGreat
namespace Go.Proofs.YtmbfghbhajmpiaaGreat
open Go.RowKit Go.Sort
set_option linter.unusedVariables false

/-- The compared beginnings, the compared ends of two spans. -/
theorem cmp_low (a b : Bs) (s i t j : Int) : decide (0 < cmpE (a, false, s, i) (b, false, t, j)) = ltP (keyP b) (keyP a) :=
  cmpE_pos (a := (a, false, s, i)) (b := (b, false, t, j)) (fun h => by cases h) (fun h => by cases h)
theorem cmp_high (a b : Bs) (s i t j : Int) : decide (cmpE (a, a.isEmpty, s, i) (b, b.isEmpty, t, j) < 0) = ltP (hiP a) (hiP b) := by
  have h := ltE_wf (a := (a, a.isEmpty, s, i)) (b := (b, b.isEmpty, t, j)) (fun h => by simpa using h) (fun h => by simpa using h)
  rw [ptE_hi, ptE_hi] at h
  exact h
def strS (s : Sp) : Value := .agg #[.string (Str s.1), .string (Str s.2)]
/-- Where Meet stands: its two spans, its result, and what it makes. -/
structure MeetSt (w : World) (al ah bl bh ml mh : Bs) (wx : World) : Prop where
  a : Blk wx w.heap.size 41 #[.string (Str al), .string (Str ah)]
  b : Blk wx (w.heap.size + 1) 41 #[.string (Str bl), .string (Str bh)]
  r : Blk wx (w.heap.size + 1 + 1) 41 #[.string (Str []), .string (Str [])]
  m : Blk wx (w.heap.size + 1 + 1 + 1) 41 #[.string (Str ml), .string (Str mh)]
  g : Grown w wx
theorem MeetSt.start (w : World) (al ah bl bh : Bs) : MeetSt w al ah bl bh al ah ((((w.alloc (.cells #[.string (Str al), .string (Str ah)] 41)).alloc (.cells #[.string (Str bl), .string (Str bh)] 41)).alloc (.cells #[.string ⟨#[]⟩, .string ⟨#[]⟩] 41)).alloc (.cells #[.string (Str al), .string (Str ah)] 41)) where
  a := (((Blk.new _ _ _).alloc _).alloc _).alloc _
  b := ((Blk.new' _ _ _ (by simp)).alloc _).alloc _
  r := (Blk.new' _ _ _ (by simp)).alloc _
  m := Blk.new' _ _ _ (by simp)
  g := ((((Grown.refl w).alloc _).alloc _).alloc _).alloc _
theorem MeetSt.grown {w wx : World} {al ah bl bh ml mh : Bs} (h : MeetSt w al ah bl bh ml mh wx) (n : Nat) (os : Array Obj) : MeetSt w al ah bl bh ml mh (grow (wx.drewN n) os) where
  a := h.a.grown n os
  b := h.b.grown n os
  r := h.r.grown n os
  m := h.m.grown n os
  g := h.g.trans ⟨n, os, rfl⟩
theorem MeetSt.lo {w wx : World} {al ah bl bh ml mh : Bs} (h : MeetSt w al ah bl bh ml mh wx) (x : Bs) : MeetSt w al ah bl bh x mh (wx.setCell ⟨w.heap.size + 1 + 1 + 1, 0, none⟩ (.string (Str x))) where
  a := h.a.setCell_other (by omega) _ _
  b := h.b.setCell_other (by omega) _ _
  r := h.r.setCell_other (by omega) _ _
  m := h.m.setCell 0 _
  g := h.g.setCell _ _ _ (by omega)
theorem MeetSt.hi {w wx : World} {al ah bl bh ml mh : Bs} (h : MeetSt w al ah bl bh ml mh wx) (x : Bs) : MeetSt w al ah bl bh ml x (wx.setCell ⟨w.heap.size + 1 + 1 + 1, 1, none⟩ (.string (Str x))) where
  a := h.a.setCell_other (by omega) _ _
  b := h.b.setCell_other (by omega) _ _
  r := h.r.setCell_other (by omega) _ _
  m := h.m.setCell 1 _
  g := h.g.setCell _ _ _ (by omega)
set_option maxRecDepth 100000 in
set_option maxHeartbeats 4000000 in
theorem meet_w (a b : Sp) (w : World) : Calls Tryz.prog 123 #[strS a, strS b] w fun e w' => e = .returned (strS (meetS a b)) ∧ Grown w w' := by
  obtain ⟨al, ah⟩ := a
  obtain ⟨bl, bh⟩ := b
  simp only [strS]
  have hc1 := fun wx => compare_w (bl, false, 1, 0) (al, false, 1, 0) wx
  have hk1 := cmp_low bl al 1 0 1 0
  have hc2 := fun wx => compare_w (bh, bh.isEmpty, -1, 0) (ah, ah.isEmpty, -1, 0) wx
  have hk2 := cmp_high bh ah (-1) 0 (-1) 0
  have hla := fun wx => low_w al ah wx
  have hlb := fun wx => low_w bl bh wx
  have hha := fun wx => high_w al ah wx
  have hhb := fun wx => high_w bl bh wx
  have he := fun wx => empty_w (if ltP (keyP al) (keyP bl) then bl else al) (if ltP (hiP bh) (hiP ah) then bh else ah) wx
  have H : Hid (meetS (al, ah) (bl, bh) = if emptyB (if ltP (keyP al) (keyP bl) then bl else al, if ltP (hiP bh) (hiP ah) then bh else ah) then ([97], [97]) else (if ltP (keyP al) (keyP bl) then bl else al, if ltP (hiP bh) (hiP ah) then bh else ah)) := rfl
  rw [← hk1, ← hk2] at he H
  clear hk1 hk2
  simp only [encE] at hc1 hc2
  generalize cmpE (bl, false, 1, 0) (al, false, 1, 0) = r1 at *
  generalize cmpE (bh, bh.isEmpty, -1, 0) (ah, ah.isEmpty, -1, 0) = r2 at *
  generalize emptyB (if decide (0 < r1) then bl else al, if decide (r2 < 0) then bh else ah) = em at *
  generalize bh.isEmpty = tb at *
  generalize ah.isEmpty = ta at *
  have mixed := mixedA
  have S0 := MeetSt.start w al ah bl bh
  have a0 := S0.a.c 0 _ rfl
  have a1 := S0.a.c 1 _ rfl
  have b0 := S0.b.c 0 _ rfl
  have b1 := S0.b.c 1 _ rfl
  have HS := Lib.hid S0
  clear S0
  go_enter Tryz.func123, Tryz.ntmps123
  go_wp2
  go_cut [12] (fun s12 wx => s12 = .bool (decide (0 < r1)) ∧ MeetSt w al ah bl bh al ah wx)
  case first =>
    go_quiet_grown (first
      | (go_at_call_of 176 (Value.string (Str bl)); refine calls_grown (hlb _))
      | (go_at_call 176; refine calls_grown (hla _))
      | (go_at_call 175; refine calls_grown (hc1 _)))
    go_wp2_with fail
    go_meet
    exact ⟨by first | rfl | simp, HS.out.grown _ _⟩
  case rest =>
    clear a0 a1 b0 b1 hc1
    obtain ⟨rfl, S1⟩ := hcut
    have aA := S1.a.c0 0 _ rfl
    have aB := S1.b.c0 0 _ rfl
    have aM := S1.m.c0 0 _ rfl
    have fM := S1.m.free 0
    by_cases h1 : 0 < r1
    · have hd1 : decide (0 < r1) = true := by simp; omega
      have S2 := S1.lo bl
      have a0 := S2.a.c 0 _ rfl
      have a1 := S2.a.c 1 _ rfl
      have b0 := S2.b.c 0 _ rfl
      have b1 := S2.b.c 1 _ rfl
      have HS2 := Lib.hid S2
      have Hd1 := Lib.hid hd1
      clear S1 S2 hd1
      go_wp2
      go_cut [21] (fun s21 wy => s21 = .bool (decide (r2 < 0)) ∧ MeetSt w al ah bl bh bl ah wy)
      case first =>
        go_quiet_grown (first
          | (go_at_call_of 174 (Value.string (Str bl)); refine calls_grown (hhb _))
          | (go_at_call 174; refine calls_grown (hha _))
          | (go_at_call 175; refine calls_grown (hc2 _)))
        go_wp2_with fail
        go_meet
        exact ⟨by first | rfl | simp, HS2.out.grown _ _⟩
      case rest =>
        clear a0 a1 b0 b1 hc2 aA aB aM fM
        obtain ⟨rfl, S1⟩ := hcut
        have aB := S1.b.c0 1 _ rfl
        have aM := S1.m.c0 0 _ rfl
        have aM1 := S1.m.c0 1 _ rfl
        have fM := S1.m.free 1
        by_cases h2 : r2 < 0
        · have hd2 : decide (r2 < 0) = true := by simp; omega
          rw [Hd1.out, hd2] at he H
          simp only [↓reduceIte] at he H
          have HS3 := Lib.hid (S1.hi bh)
          clear S1 hd2
          cases em
          all_goals
            go_wp2_with (go_at_call 122; refine (he _).mono ?_; rintro e w1 ⟨rfl, n, os, rfl⟩; have S4 := HS3.out.grown n os; have r0 := S4.r.c0 0 _ rfl; have r1' := S4.r.c0 1 _ rfl; have f0 := S4.r.free 0; have f1 := S4.r.free 1; have m0 := S4.m.c0 0 _ rfl; have m1 := S4.m.c0 1 _ rfl; have G4 := Lib.hid S4.g; clear S4)
          · refine bodyPost_ret (v := .agg #[.string (Str bl), .string (Str bh)]) (by simp [results, Tryz.results123, go_sem, r0, r1']) rfl ⟨by rw [H.out]; rfl, ?_⟩
            repeat (first | exact G4.out | refine Grown.setCell ?_ _ _ _ (by omega))
          · refine bodyPost_ret (v := .agg #[.string (Str [97]), .string (Str [97])]) (by simp [results, Tryz.results123, go_sem, r0, r1']; try rfl) rfl ⟨by rw [H.out]; rfl, ?_⟩
            repeat (first | exact G4.out | refine Grown.setCell ?_ _ _ _ (by omega))
        · have hd2 : decide (r2 < 0) = false := by simp; omega
          rw [Hd1.out, hd2] at he H
          simp only [↓reduceIte, Bool.false_eq_true] at he H
          have HS3 := Lib.hid (S1)
          clear S1 hd2
          cases em
          all_goals
            go_wp2_with (go_at_call 122; refine (he _).mono ?_; rintro e w1 ⟨rfl, n, os, rfl⟩; have S4 := HS3.out.grown n os; have r0 := S4.r.c0 0 _ rfl; have r1' := S4.r.c0 1 _ rfl; have f0 := S4.r.free 0; have f1 := S4.r.free 1; have m0 := S4.m.c0 0 _ rfl; have m1 := S4.m.c0 1 _ rfl; have G4 := Lib.hid S4.g; clear S4)
          · refine bodyPost_ret (v := .agg #[.string (Str bl), .string (Str ah)]) (by simp [results, Tryz.results123, go_sem, r0, r1']) rfl ⟨by rw [H.out]; rfl, ?_⟩
            repeat (first | exact G4.out | refine Grown.setCell ?_ _ _ _ (by omega))
          · refine bodyPost_ret (v := .agg #[.string (Str [97]), .string (Str [97])]) (by simp [results, Tryz.results123, go_sem, r0, r1']; try rfl) rfl ⟨by rw [H.out]; rfl, ?_⟩
            repeat (first | exact G4.out | refine Grown.setCell ?_ _ _ _ (by omega))
    · have hd1 : decide (0 < r1) = false := by simp; omega
      have S2 := S1
      have a0 := S2.a.c 0 _ rfl
      have a1 := S2.a.c 1 _ rfl
      have b0 := S2.b.c 0 _ rfl
      have b1 := S2.b.c 1 _ rfl
      have HS2 := Lib.hid S2
      have Hd1 := Lib.hid hd1
      clear S1 S2 hd1
      go_wp2
      go_cut [21] (fun s21 wy => s21 = .bool (decide (r2 < 0)) ∧ MeetSt w al ah bl bh al ah wy)
      case first =>
        go_quiet_grown (first
          | (go_at_call_of 174 (Value.string (Str bl)); refine calls_grown (hhb _))
          | (go_at_call 174; refine calls_grown (hha _))
          | (go_at_call 175; refine calls_grown (hc2 _)))
        go_wp2_with fail
        go_meet
        exact ⟨by first | rfl | simp, HS2.out.grown _ _⟩
      case rest =>
        clear a0 a1 b0 b1 hc2 aA aB aM fM
        obtain ⟨rfl, S1⟩ := hcut
        have aB := S1.b.c0 1 _ rfl
        have aM := S1.m.c0 0 _ rfl
        have aM1 := S1.m.c0 1 _ rfl
        have fM := S1.m.free 1
        by_cases h2 : r2 < 0
        · have hd2 : decide (r2 < 0) = true := by simp; omega
          rw [Hd1.out, hd2] at he H
          simp only [↓reduceIte, Bool.false_eq_true] at he H
          have HS3 := Lib.hid (S1.hi bh)
          clear S1 hd2
          cases em
          all_goals
            go_wp2_with (go_at_call 122; refine (he _).mono ?_; rintro e w1 ⟨rfl, n, os, rfl⟩; have S4 := HS3.out.grown n os; have r0 := S4.r.c0 0 _ rfl; have r1' := S4.r.c0 1 _ rfl; have f0 := S4.r.free 0; have f1 := S4.r.free 1; have m0 := S4.m.c0 0 _ rfl; have m1 := S4.m.c0 1 _ rfl; have G4 := Lib.hid S4.g; clear S4)
          · refine bodyPost_ret (v := .agg #[.string (Str al), .string (Str bh)]) (by simp [results, Tryz.results123, go_sem, r0, r1']) rfl ⟨by rw [H.out]; rfl, ?_⟩
            repeat (first | exact G4.out | refine Grown.setCell ?_ _ _ _ (by omega))
          · refine bodyPost_ret (v := .agg #[.string (Str [97]), .string (Str [97])]) (by simp [results, Tryz.results123, go_sem, r0, r1']; try rfl) rfl ⟨by rw [H.out]; rfl, ?_⟩
            repeat (first | exact G4.out | refine Grown.setCell ?_ _ _ _ (by omega))
        · have hd2 : decide (r2 < 0) = false := by simp; omega
          rw [Hd1.out, hd2] at he H
          simp only [↓reduceIte, Bool.false_eq_true] at he H
          have HS3 := Lib.hid (S1)
          clear S1 hd2
          cases em
          all_goals
            go_wp2_with (go_at_call 122; refine (he _).mono ?_; rintro e w1 ⟨rfl, n, os, rfl⟩; have S4 := HS3.out.grown n os; have r0 := S4.r.c0 0 _ rfl; have r1' := S4.r.c0 1 _ rfl; have f0 := S4.r.free 0; have f1 := S4.r.free 1; have m0 := S4.m.c0 0 _ rfl; have m1 := S4.m.c0 1 _ rfl; have G4 := Lib.hid S4.g; clear S4)
          · refine bodyPost_ret (v := .agg #[.string (Str al), .string (Str ah)]) (by simp [results, Tryz.results123, go_sem, r0, r1']) rfl ⟨by rw [H.out]; rfl, ?_⟩
            repeat (first | exact G4.out | refine Grown.setCell ?_ _ _ _ (by omega))
          · refine bodyPost_ret (v := .agg #[.string (Str [97]), .string (Str [97])]) (by simp [results, Tryz.results123, go_sem, r0, r1']; try rfl) rfl ⟨by rw [H.out]; rfl, ?_⟩
            repeat (first | exact G4.out | refine Grown.setCell ?_ _ _ _ (by omega))
theorem leq_eq (a b : Bs) : (Op.bytesLess a b || a == b) = !Op.bytesLess b a := by
  rw [Bool.eq_iff_iff, Bool.or_eq_true, beq_iff_eq, Bool.not_eq_true']
  constructor
  · rintro (h | rfl)
    · cases h2 : Op.bytesLess b a with
      | false => rfl
      | true => have := less_trans a b a h h2; rw [less_irrefl] at this; cases this
    · exact less_irrefl _
  · intro h
    cases h2 : Op.bytesLess a b with
    | true => exact .inl rfl
    | false => exact .inr (less_total a b h2 h)
theorem emptyB_eq (lo hi : Bs) : emptyB (lo, hi) = (!hi.isEmpty && (Op.bytesLess hi lo || hi == lo)) := by
  unfold emptyB
  cases h : hi with
  | nil => rfl
  | cons a r =>
    rw [← h]
    have hne : hi ≠ [] := by rw [h]; simp
    show (!ltP (keyP lo) (hiP hi)) = _
    rw [hiP_ne hne, leq_eq]
    have : hi.isEmpty = false := by simpa using hne
    rw [this]; rfl
set_option maxHeartbeats 1000000 in
theorem rempty_w (lo hi : Bs) (w : World) : Calls Tryz.prog 32 #[.agg #[.string (Str lo), .string (Str hi)]] w fun e w' => e = .returned (.bool (emptyB (lo, hi))) ∧ Grown w w' := by
  have H := Lib.hid (emptyB_eq lo hi)
  cases h1 : hi.isEmpty <;> cases h2 : Op.bytesLess hi lo <;> cases h3 : hi == lo
  all_goals
    rw [h1, h2, h3] at H
    go_enter Tryz.func32, Tryz.ntmps32
    go_wp2
    go_ret
    exact ⟨ret_bool (by rw [H.out]; rfl), (Grown.refl w).alloc _⟩
theorem lessP_eq (a b : Bs) : ltP (hiP a) (hiP b) = (!a.isEmpty && (b.isEmpty || Op.bytesLess a b)) := by
  cases ha : a with
  | nil => rfl
  | cons x r =>
    rw [← ha]
    have hne : a ≠ [] := by rw [ha]; simp
    have h1 : a.isEmpty = false := by simpa using hne
    cases hb : b with
    | nil => rw [hiP_ne hne, h1]; rfl
    | cons y s =>
      rw [← hb]
      have hne2 : b ≠ [] := by rw [hb]; simp
      have h2 : b.isEmpty = false := by simpa using hne2
      rw [hiP_ne hne, hiP_ne hne2, h1, h2]; rfl
set_option maxHeartbeats 1000000 in
theorem rless_w (a b : Bs) (w : World) : Calls Tryz.prog 161 #[.string (Str a), .string (Str b)] w fun e w' => e = .returned (.bool (ltP (hiP a) (hiP b))) ∧ Grown w w' := by
  have H := Lib.hid (lessP_eq a b)
  cases h1 : a.isEmpty <;> cases h2 : b.isEmpty <;> cases h3 : Op.bytesLess a b
  all_goals
    rw [h1, h2, h3] at H
    go_enter Tryz.func161, Tryz.ntmps161
    go_wp2
    go_ret
    exact ⟨ret_bool (by rw [H.out]; rfl), Grown.refl w⟩
@[go_sem] theorem run_max_str {P : Program} {w : World} (ts : Array TypeId) (t : TypeId) (a b : Bs) : (Builtin.max_ ts t #[.string (Str a), .string (Str b)]).run P w = .ok (.string (Str (if Op.bytesLess a b then b else a))) w := by
  cases h : Op.bytesLess a b <;> simp [Builtin.max_, Builtin.max2, Op.stringOp, toList_Str, h, asBool]
set_option maxRecDepth 100000 in
set_option maxHeartbeats 2000000 in
theorem rprefix_w (p : Bs) (w : World) (hp : p.length ≤ 140737488355328) : Calls Tryz.prog 92 #[.string (Str p)] w fun e w' => e = .returned (.agg #[.string (Str p), .string (Str (preT p))]) ∧ Grown w w' := by
  have hsz := size_Str p
  go_enter Tryz.func92, Tryz.ntmps92
  go_wp2
  go_loop [3] (fun i => ∃ k : Nat, k ≤ p.length ∧ i = .int .i64 (k : Int) ∧ Hid (p.drop k = List.replicate (p.length - k) 255)) (fun i => (intOf i).toNat)
  case atStart => exact ⟨p.length, Nat.le_refl _, by first | rfl | go_num, Lib.hid (by simp)⟩
  case round =>
    obtain ⟨k, hk, rfl, HD⟩ := hrel
    by_cases hk0 : k = 0
    · subst hk0
      have H := Lib.hid (preT_full p HD.out)
      go_wp2
      refine bodyPost_ret (v := .agg #[.string (Str p), .string (Str [])]) (by simp [results, Tryz.results92, go_sem]; try rfl) rfl ⟨by rw [H.out], ?_⟩
      repeat (first | exact Grown.refl _ | refine Grown.setCell ?_ _ _ _ (by simp) | refine Grown.alloc ?_ _)
    · obtain ⟨j, rfl⟩ : ∃ j, k = j + 1 := ⟨k - 1, by omega⟩
      have hj : j < p.length := by omega
      have hjz : (j : Int) < (p.length : Int) := by omega
      have hpos : (0 : Int) < (j : Int) + 1 := by omega
      have hsub : (j : Int) + 1 - 1 = (j : Int) := by omega
      have hwr0 : IntKind.i64.wrap (j : Int) = (j : Int) := by rw [IntKind.wrap_i64]; omega
      by_cases hc : p[j] = 255
      · have HD' := Lib.hid (drop_full p j hj HD.out hc)
        have hcn : (p[j].toNat : Int) = 255 := by rw [hc]; rfl
        have hcb : ((p[j].toNat : Int) == 255) = true := by rw [hcn]; rfl
        clear hc hcn
        go_wp2
        go_round
        case rel => exact ⟨j, by omega, by go_num, HD'⟩
        case measure => simp [intOf]
      · have H := Lib.hid (preT_at p j hj HD.out hc)
        have hcn : (p[j].toNat : Int) < 255 := by
          have h0 : p[j].toNat ≠ 255 := fun h' => hc (UInt8.toNat_inj.1 (by rw [h']; rfl))
          have h1 := p[j].toNat_lt
          omega
        have hcb : ((p[j].toNat : Int) == 255) = false := by simp; omega
        have Hi := Lib.hid (u8_inc p[j] hc)
        have hwr : IntKind.u8.wrap ((p[j].toNat : Int) + 1) = (p[j].toNat : Int) + 1 := by simp [IntKind.wrap, IntKind.bits, IntKind.signed]; omega
        have hjl : j ≤ p.length := by omega
        have hjlz : (j : Int) ≤ (p.length : Int) := by omega
        clear hc
        go_wp2
        go_region
        all_goals go_wp2
        all_goals
          refine bodyPost_ret (v := .agg #[.string (Str p), .string (Str (p.take j ++ [p[j] + 1]))]) (by simp [results, Tryz.results92, go_sem, Str_add]) rfl ⟨by rw [H.out], ?_⟩
          repeat (first | exact Grown.refl _ | refine Grown.setCell ?_ _ _ _ (by simp) | refine Grown.alloc ?_ _ | refine Grown.draw ?_)

end Go.Proofs.YtmbfghbhajmpiaaGreat
