/-
  Walks: lists of spans; what has a key.
-/
import Derived.Test.YtaafckefeejjpaaGreatTW6
import Derived.Test.YtaafckefeejjpaaGreatPL
import Derived.Laws.StructEq
namespace Go.Proofs.YtaafckefeejjpaaGreat
open Go.RowKit Go.Sort
set_option linter.unusedVariables false

/-- A slice of spans. -/
def IsSpans (w : World) (v : Value) (l : List Sp) : Prop :=
  ∃ a cap, v = .slice a l.length cap ∧ l.length ≤ cap ∧ cap ≤ maxLen ∧ (l ≠ [] → ∃ b off, a = some ⟨b, off, none⟩ ∧ b < w.heap.size ∧
    ∀ i (h : i < l.length), w.cell? ⟨b, off + i * 2, none⟩ = some (.string (Str l[i].1)) ∧ w.cell? ⟨b, off + i * 2 + 1, none⟩ = some (.string (Str l[i].2)))
theorem IsSpans.below {w w' : World} {v : Value} {l : List Sp} (h : IsSpans w v l) (hb : Below w.heap.size w w') : IsSpans w' v l := by
  obtain ⟨a, cap, h1, h2, h3, h4⟩ := h
  refine ⟨a, cap, h1, h2, h3, fun hl => ?_⟩
  obtain ⟨b, off, e, hlt, hc⟩ := h4 hl
  exact ⟨b, off, e, Nat.lt_of_lt_of_le hlt hb.size, fun i hi => ⟨by rw [hb.cell (by exact hlt)]; exact (hc i hi).1, by rw [hb.cell (by exact hlt)]; exact (hc i hi).2⟩⟩
theorem IsSpans.form {w : World} {v : Value} {l : List Sp} (h : IsSpans w v l) : ∃ b off cap a, v = .slice a l.length cap ∧ l.length ≤ cap ∧ cap ≤ maxLen ∧ (l ≠ [] → a = some ⟨b, off, none⟩ ∧ b < w.heap.size) ∧
    ∀ i (h : i < l.length), a = some ⟨b, off, none⟩ ∧ w.cell? ⟨b, off + i * 2, none⟩ = some (.string (Str l[i].1)) ∧ w.cell? ⟨b, off + i * 2 + 1, none⟩ = some (.string (Str l[i].2)) := by
  obtain ⟨a, cap, h1, h2, h3, h4⟩ := h
  by_cases hl : l = []
  · subst hl; exact ⟨0, 0, cap, a, h1, h2, h3, fun h => absurd rfl h, fun i hi => absurd hi (by simp)⟩
  · obtain ⟨b, off, e, hlt, hc⟩ := h4 hl
    exact ⟨b, off, cap, a, h1, h2, h3, fun _ => ⟨e, hlt⟩, fun i hi => ⟨e, hc i hi⟩⟩
/-- Flat cells. -/
theorem flatS_get (l : List Sp) (i : Nat) (h : i < l.length) : (l.flatMap encS)[i * 2]? = some (.string (Str l[i].1)) ∧ (l.flatMap encS)[i * 2 + 1]? = some (.string (Str l[i].2)) := by
  induction l generalizing i with
  | nil => simp at h
  | cons s l ih =>
    have e : (s :: l).flatMap encS = .string (Str s.1) :: .string (Str s.2) :: l.flatMap encS := rfl
    rw [e]
    cases i with
    | zero => exact ⟨rfl, rfl⟩
    | succ i =>
      have := ih i (by simpa using h)
      rw [show (i + 1) * 2 = i * 2 + 2 by omega]
      exact this
theorem flatS_len (l : List Sp) : (l.flatMap encS).length = l.length * 2 := by
  induction l with
  | nil => rfl
  | cons s l ih =>
    have e : (s :: l).flatMap encS = .string (Str s.1) :: .string (Str s.2) :: l.flatMap encS := rfl
    rw [e]; simp [ih]; omega
theorem IsSpans.owned {w : World} {base : Nat} {v : Value} {n : Nat} {l : List Sp} (h : w.ownsRow base 45 2 v n (l.flatMap encS)) : IsSpans w v l := by
  have hlen := h.1
  rw [flatS_len] at hlen
  obtain rfl : n = l.length := by omega
  rcases h.2 with ⟨rfl, h0⟩ | ⟨g, cap, cur, rfl, hb, hg, hn, hm, hsz, htk⟩
  · have : l = [] := List.length_eq_zero_iff.1 h0
    subst this
    exact ⟨none, 0, rfl, Nat.le_refl _, by unfold maxLen; omega, fun h => absurd rfl h⟩
  · refine ⟨_, cap, rfl, hn, hm, fun _ => ⟨g, 0, rfl, by rw [Array.getElem?_eq_some_iff] at hg; exact hg.1, fun i hi => ?_⟩⟩
    have hc : ∀ j, j < l.length * 2 → w.cell? ⟨g, j, none⟩ = (l.flatMap encS)[j]? := by
      intro j hj
      unfold World.cell?
      rw [hg, ← htk, List.getElem?_take, if_pos hj, Array.getElem?_toList]
      rfl
    have hi2 := flatS_get l i hi
    exact ⟨by rw [Nat.zero_add, hc _ (by omega)]; exact hi2.1, by rw [Nat.zero_add, hc _ (by omega)]; exact hi2.2⟩
set_option maxHeartbeats 1000000 in
theorem has_w (lo hi k : Bs) (w : World) : Calls Tryz.prog 216 #[.agg #[.string (Str lo), .string (Str hi)], .string (Str k)] w fun e w' => e = .returned (.bool (hasB (lo, hi) k)) ∧ Grown w w' := by
  have H : Hid (hasB (lo, hi) k = (!Op.bytesLess k lo && (hi.isEmpty || Op.bytesLess k hi))) := rfl
  cases h1 : Op.bytesLess k lo <;> cases h2 : hi.isEmpty <;> cases h3 : Op.bytesLess k hi
  all_goals
    rw [h1, h2, h3] at H
    go_enter Tryz.func216, Tryz.ntmps216
    go_wp2
    go_ret
    exact ⟨ret_bool (by rw [H.out]; rfl), (Grown.refl w).alloc _⟩
set_option maxHeartbeats 1000000 in
theorem rhas_w (lo hi k : Bs) (w : World) : Calls Tryz.prog 67 #[.agg #[.string (Str lo), .string (Str hi)], .string (Str k)] w fun e w' => e = .returned (.bool (hasB (lo, hi) k)) ∧ Grown w w' := by
  have H : Hid (hasB (lo, hi) k = (!Op.bytesLess k lo && (hi.isEmpty || Op.bytesLess k hi))) := rfl
  cases h1 : Op.bytesLess k lo <;> cases h2 : hi.isEmpty <;> cases h3 : Op.bytesLess k hi
  all_goals
    rw [h1, h2, h3] at H
    go_enter Tryz.func67, Tryz.ntmps67
    go_wp2
    go_ret
    exact ⟨ret_bool (by rw [H.out]; rfl), (Grown.refl w).alloc _⟩
set_option maxHeartbeats 1000000 in
theorem rnone_w (w : World) : Calls Tryz.prog 101 #[] w fun e w' => e = .returned (.agg #[.string (Str [97]), .string (Str [97])]) ∧ Grown w w' := by
  go_enter Tryz.func101, Tryz.ntmps101
  go_wp2
  refine bodyPost_ret (v := .agg #[.string (Str [97]), .string (Str [97])]) (by simp [results, Tryz.results101, go_sem]; rfl) rfl ⟨rfl, ?_⟩
  repeat (first | exact Grown.refl _ | refine Grown.setCell ?_ _ _ _ (by simp) | refine Grown.alloc ?_ _)
set_option maxHeartbeats 1000000 in
theorem rone_w (k : Bs) (w : World) (hk : k.length ≤ 140737488355328) : Calls Tryz.prog 66 #[.string (Str k)] w fun e w' => e = .returned (.agg #[.string (Str k), .string (Str (k ++ [0]))]) ∧ Grown w w' := by
  go_enter Tryz.func66, Tryz.ntmps66
  go_wp2
  refine bodyPost_ret (v := .agg #[.string (Str k), .string (Str (k ++ [0]))]) (by simp [results, Tryz.results66, go_sem]; exact Str_add k [0]) rfl ⟨rfl, ?_⟩
  repeat (first | exact Grown.refl _ | refine Grown.setCell ?_ _ _ _ (by simp) | refine Grown.alloc ?_ _)
theorem eql_span (a b c d : Bs) (w : World) : (binOp .eql 45 (.agg #[.string (Str a), .string (Str b)]) (.agg #[.string (Str c), .string (Str d)])).run Tryz.prog w = .ok (.bool (a == c && b == d)) w := by
  have hS : Tryz.prog.underlying 45 = some (.struct (Tryz.prog.fieldsOf 45)) := by kernel_rfl
  have hp : Tryz.prog.stoodInHeld 45 = false := by kernel_rfl
  have u := Tryz.underlying9
  have ag := Tryz.isAgg9
  have sz := Tryz.sizeOf9
  rw [run_eql_struct, show (10000 : Nat) = 9999 + 1 from rfl, run_equalIn_agg w 9999 45 _ _ hS hp]
  simp only [Program.fieldsOf, Tryz.underlying45]
  go_simp
  by_cases h1 : a = c <;> by_cases h2 : b = d <;> simp [h1, h2]
theorem neq_span (a b c d : Bs) (w : World) : (binOp .neq 45 (.agg #[.string (Str a), .string (Str b)]) (.agg #[.string (Str c), .string (Str d)])).run Tryz.prog w = .ok (.bool (!(a == c && b == d))) w := by
  have hS : Tryz.prog.underlying 45 = some (.struct (Tryz.prog.fieldsOf 45)) := by kernel_rfl
  have hp : Tryz.prog.stoodInHeld 45 = false := by kernel_rfl
  have u := Tryz.underlying9
  have ag := Tryz.isAgg9
  have sz := Tryz.sizeOf9
  rw [run_neq_struct, show (10000 : Nat) = 9999 + 1 from rfl, run_equalIn_agg w 9999 45 _ _ hS hp]
  simp only [Program.fieldsOf, Tryz.underlying45]
  go_simp
  by_cases h1 : a = c <;> by_cases h2 : b = d <;> simp [h1, h2]
theorem guard_span (op : BinOp) (x y : Operand) (xs ys : Array Value) (w : World) : (eqGuard op 45 x y (.agg xs) (.agg ys)).run Tryz.prog w = .ok () w := run_eqGuard_agg w op 45 x y xs ys (by kernel_rfl)
attribute [go_sem high] eql_span neq_span guard_span
set_option maxHeartbeats 1000000 in
theorem spsame_w (v0 v1 : Value) (a b : List Sp) (w : World) (h0 : IsSpans w v0 a) (h1 : IsSpans w v1 b) :
    Calls Tryz.prog 73 #[v0, v1] w fun e w' => e = .returned (.bool (decide (a = b))) ∧ Grown w w' := by
  have mixed := mixedA
  obtain ⟨g0, o0, cap0, p0, rfl, hl0, hm0, hp0, hc0⟩ := h0.form
  obtain ⟨g1, o1, cap1, p1, rfl, hl1, hm1, hp1, hc1⟩ := h1.form
  unfold maxLen at hm0 hm1
  have HC0 := Lib.hid hc0
  have HC1 := Lib.hid hc1
  have HP0 := Lib.hid hp0
  have HP1 := Lib.hid hp1
  clear h0 h1 hp0 hp1 hc0 hc1
  by_cases hlen : a.length = b.length
  · have hlb : ((a.length : Int) != (b.length : Int)) = false := by rw [hlen]; simp
    have Hlen := Lib.hid hlen
    clear hlen
    go_enter Tryz.func73, Tryz.ntmps73
    go_wp2
    go_loopw [5] (fun i wr => ∃ k : Nat, k ≤ a.length ∧ i = .int .i64 k ∧ Hid (a.take k = b.take k) ∧ Grown w wr) (fun i _ => a.length - (intOf i).toNat)
    case atStart => exact ⟨0, Nat.zero_le _, rfl, Lib.hid rfl, Grown.refl _⟩
    case round =>
      obtain ⟨k, hk, rfl, htake, hgr⟩ := hrel
      by_cases hlt : k < a.length
      · have hltb : k < b.length := by have := Hlen.out; omega
        have hlz : (k : Int) < (b.length : Int) := by omega
        have hlza : (k : Int) < (a.length : Int) := by omega
        obtain ⟨rfl, c0, c1⟩ := HC0.out k hlt
        obtain ⟨rfl, d0, d1⟩ := HC1.out k hltb
        have g0l := (HP0.out (by rintro rfl; simp at hlt)).2
        have g1l := (HP1.out (by rintro rfl; simp at hltb)).2
        have hbel := hgr.below (B := w.heap.size) (Nat.le_refl _)
        have hc : ∀ g o v, g < w.heap.size → w.cell? ⟨g, o, none⟩ = some v → ∀ n os, (grow (wr.drewN n) os).cell? ⟨g, o, none⟩ = some v := fun g o v hg h n os =>
          cell_grown (by exact Nat.lt_of_lt_of_le hg hbel.size) (by rw [hbel.cell (by exact hg)]; exact h) n os
        have c0 := hc _ _ _ g0l c0
        have c1 := hc _ _ _ g0l c1
        have d0 := hc _ _ _ g1l d0
        have d1 := hc _ _ _ g1l d1
        have Ha := Lib.hid (show a.take (k + 1) = a.take k ++ [a[k]] from by rw [List.take_add_one, List.getElem?_eq_getElem hlt]; rfl)
        have Hb := Lib.hid (show b.take (k + 1) = b.take k ++ [b[k]] from by rw [List.take_add_one, List.getElem?_eq_getElem hltb]; rfl)
        have Hne : Hid (a[k] ≠ b[k] → a ≠ b) := Lib.hid (fun h e => h (by subst e; rfl))
        have Hg := Lib.hid hgr
        clear hc hbel hgr
        generalize hx : a[k] = x at *
        generalize hy : b[k] = y at *
        obtain ⟨x1, x2⟩ := x
        obtain ⟨y1, y2⟩ := y
        clear hx hy
        by_cases e1 : x1 = y1
        · by_cases e2 : x2 = y2
          · have hb1 : (x1 == y1) = true := by simpa using e1
            have hb2 : (x2 == y2) = true := by simpa using e2
            have He : Hid ((x1, x2) = (y1, y2)) := Lib.hid (by rw [e1, e2])
            clear e1 e2
            go_wp2_with fail
            refine wp_region_quiet_grown mixed (by kernel_rfl) ?_
            repeat (first | go_big_quiet_skip | (refine wpQuiet_step (fun K hK => ?_); have HK := Lib.hid hK; clear hK; go_simp; first | (refine HK.out _ ?_; clear HK K) | (apply Exists.intro; refine ⟨fun _ => ?_, HK.out _ ?_⟩; skip; clear HK K)))
            refine wpQuiet_nil ?_
            intro _ hw'
            obtain ⟨⟨nq, osq⟩, hw''⟩ := hw'
            subst hw''
            have Hg2 : Hid (Grown w (grow (wr.drewN nq) osq)) := Lib.hid (Hg.out.trans ⟨nq, osq, rfl⟩)
            go_wp2
            go_roundw
            case rel => exact ⟨k + 1, by omega, by go_num, Lib.hid (by rw [Ha.out, Hb.out, htake.out, He.out]), Hg2.out⟩
            case measure => simp [intOf]; omega
          · have hb1 : (x1 == y1) = true := by simpa using e1
            have hb2 : (x2 == y2) = false := by simpa using e2
            have He := Lib.hid (Hne.out (by intro h; exact e2 (by injection h)))
            clear e2
            go_wp2_with fail
            refine wp_region_quiet_grown mixed (by kernel_rfl) ?_
            repeat (first | go_big_quiet_skip | (refine wpQuiet_step (fun K hK => ?_); have HK := Lib.hid hK; clear hK; go_simp; first | (refine HK.out _ ?_; clear HK K) | (apply Exists.intro; refine ⟨fun _ => ?_, HK.out _ ?_⟩; skip; clear HK K)))
            refine wpQuiet_nil ?_
            intro _ hw'
            obtain ⟨⟨nq, osq⟩, hw''⟩ := hw'
            subst hw''
            have Hg2 : Hid (Grown w (grow (wr.drewN nq) osq)) := Lib.hid (Hg.out.trans ⟨nq, osq, rfl⟩)
            go_wp2
            go_ret
            exact ⟨ret_bool (by have := He.out; simp [this]), Hg2.out⟩
        · have hb1 : (x1 == y1) = false := by simpa using e1
          have He := Lib.hid (Hne.out (by intro h; exact e1 (by injection h)))
          clear e1
          go_wp2_with fail
          refine wp_region_quiet_grown mixed (by kernel_rfl) ?_
          repeat (first | go_big_quiet_skip | (refine wpQuiet_step (fun K hK => ?_); have HK := Lib.hid hK; clear hK; go_simp; first | (refine HK.out _ ?_; clear HK K) | (apply Exists.intro; refine ⟨fun _ => ?_, HK.out _ ?_⟩; skip; clear HK K)))
          refine wpQuiet_nil ?_
          intro _ hw'
          obtain ⟨⟨nq, osq⟩, hw''⟩ := hw'
          subst hw''
          have Hg2 : Hid (Grown w (grow (wr.drewN nq) osq)) := Lib.hid (Hg.out.trans ⟨nq, osq, rfl⟩)
          go_wp2
          go_ret
          exact ⟨ret_bool (by have := He.out; simp [this]), Hg2.out⟩
      · have He : Hid (a = b) := Lib.hid (by
          have := htake.out
          rwa [List.take_of_length_le (by omega), List.take_of_length_le (by have := Hlen.out; omega)] at this)
        go_wp2
        go_ret
        exact ⟨ret_bool (by have := He.out; simp [this]), hgr⟩
  · have hlb : ((a.length : Int) != (b.length : Int)) = true := by simp; omega
    have He : Hid (a ≠ b) := Lib.hid (fun e => hlen (by rw [e]))
    clear hlen
    go_enter Tryz.func73, Tryz.ntmps73
    go_wp2
    go_ret
    exact ⟨ret_bool (by have := He.out; simp [this]), Grown.refl _⟩
theorem begins_eq (k p : Bs) (h : p.length ≤ k.length) : p.isPrefixOf k = (k.take p.length == p) := by
  rw [Bool.eq_iff_iff, List.isPrefixOf_iff_prefix, List.prefix_iff_eq_take, beq_iff_eq]
  exact eq_comm
theorem begins_short (k p : Bs) (h : k.length < p.length) : p.isPrefixOf k = false := by
  rw [Bool.eq_false_iff]
  intro h2
  have := (List.isPrefixOf_iff_prefix.1 h2).length_le
  omega
set_option maxHeartbeats 1000000 in
theorem begins_w (k p : Bs) (w : World) (hk : k.length ≤ 140737488355328) (hp : p.length ≤ 140737488355328) : Calls Tryz.prog 70 #[.string (Str k), .string (Str p)] w fun e w' => e = .returned (.bool (p.isPrefixOf k)) ∧ Grown w w' := by
  by_cases h : p.length ≤ k.length
  · have H := Lib.hid (begins_eq k p h)
    have hz : (p.length : Int) ≤ (k.length : Int) := by omega
    go_enter Tryz.func70, Tryz.ntmps70
    go_wp2
    go_ret
    exact ⟨ret_bool H.out.symm, Grown.refl _⟩
  · have H := Lib.hid (begins_short k p (by omega))
    have hz : (k.length : Int) < (p.length : Int) := by omega
    have hzd : decide ((p.length : Int) ≤ (k.length : Int)) = false := by simp; omega
    go_enter Tryz.func70, Tryz.ntmps70
    go_wp2
    go_ret
    exact ⟨ret_bool H.out.symm, Grown.refl _⟩
theorem inB_take (l : List Sp) (k : Bs) (i : Nat) (h : i < l.length) : inB (l.take (i + 1)) k = (inB (l.take i) k || hasB l[i] k) := by
  unfold inB
  rw [List.take_add_one, List.getElem?_eq_getElem h, List.any_append]
  simp
theorem inB_hit (l : List Sp) (k : Bs) (i : Nat) (h : i < l.length) (hh : hasB l[i] k = true) : inB l k = true := by
  unfold inB
  rw [List.any_eq_true]
  exact ⟨l[i], List.getElem_mem h, hh⟩
set_option maxHeartbeats 1000000 in
theorem in_w (v : Value) (l : List Sp) (k : Bs) (w : World) (h : IsSpans w v l) : Calls Tryz.prog 83 #[v, .string (Str k)] w fun e w' => e = .returned (.bool (inB l k)) ∧ Grown w w' := by
  obtain ⟨g, off, cap, p, rfl, hlc, hcm, hpp, hcc⟩ := h.form
  unfold maxLen at hcm
  have HP := Lib.hid hpp
  have HC := Lib.hid hcc
  clear h hpp hcc
  go_enter Tryz.func83, Tryz.ntmps83
  go_wp2
  go_loopw [5] (fun i wr => ∃ j : Nat, j ≤ l.length ∧ i = .int .i64 j ∧ Hid (inB (l.take j) k = false) ∧ Grown w wr) (fun i _ => l.length - (intOf i).toNat)
  case atStart => exact ⟨0, Nat.zero_le _, rfl, Lib.hid rfl, Grown.refl _⟩
  case round =>
    obtain ⟨j, hj, rfl, hin, hgr⟩ := hrel
    by_cases hlt : j < l.length
    · obtain ⟨rfl, c0, c1⟩ := HC.out j hlt
      have hgl := (HP.out (by rintro rfl; simp at hlt)).2
      have hb := hgr.below (B := w.heap.size) (Nat.le_refl _)
      have c0 := (hb.cell (p := ⟨g, off + j * 2, none⟩) (by exact hgl)).trans c0
      have c1 := (hb.cell (p := ⟨g, off + j * 2 + 1, none⟩) (by exact hgl)).trans c1
      have Ht := Lib.hid (inB_take l k j hlt)
      have Hh := Lib.hid (inB_hit l k j hlt)
      have Hg := Lib.hid hgr
      have hltz : (j : Int) < (l.length : Int) := by omega
      clear hb hgr
      generalize hx : l[j] = x at *
      obtain ⟨a, b⟩ := x
      simp only at c0 c1
      have hh := fun wx => rhas_w a b k wx
      clear hx
      cases hB : hasB (a, b) k with
      | true =>
        rw [hB] at hh
        have H := Lib.hid (Hh.out hB)
        clear hB
        go_wp2_with (go_at_call 67; refine (hh _).mono ?_; rintro e w2 ⟨rfl, hg⟩; have Hg2 := Lib.hid (Hg.out.trans hg); clear hg)
        go_ret
        exact ⟨ret_bool H.out.symm, Hg2.out⟩
      | false =>
        rw [hB] at hh
        have H : Hid (inB (l.take (j + 1)) k = false) := Lib.hid (by rw [Ht.out, hin.out, hB]; rfl)
        clear hB
        go_wp2_with (go_at_call 67; refine (hh _).mono ?_; rintro e w2 ⟨rfl, hg⟩; have Hg2 := Lib.hid (Hg.out.trans hg); clear hg)
        go_roundw
        case rel => exact ⟨j + 1, by omega, by go_num, H, Hg2.out⟩
        case measure => simp [intOf]; omega
    · have H : Hid (inB l k = false) := Lib.hid (by have := hin.out; rwa [List.take_of_length_le (by omega)] at this)
      go_wp2
      go_ret
      exact ⟨ret_bool H.out.symm, hgr⟩

end Go.Proofs.YtaafckefeejjpaaGreat
