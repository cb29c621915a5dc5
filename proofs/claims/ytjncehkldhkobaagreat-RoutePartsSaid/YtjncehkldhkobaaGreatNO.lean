/-
  Walks: the reference's insertion of a pair. Walks: what the reference takes out of a table, what it leaves, and whether keys grow. Walks: the reference's choice of paths, keys and values. Walks: the reference's choice of messages.
-/
import Derived.Test.YtjncehkldhkobaaGreatMRR
import Derived.Test.YtjncehkldhkobaaGreatTX
import Derived.Test.YtjncehkldhkobaaGreatPL
import Derived.IntWalk
import Derived.Test.YtjncehkldhkobaaGreatMDH
namespace Go.Proofs.YtjncehkldhkobaaGreat
open Go.RowKit Go.Sort
set_option linter.unusedVariables false

theorem cells_in {w w' : World} {B b o : Nat} {x : Pr} (hb : Below B w w') (hl : b < B) (h : w.cell? ⟨b, o, none⟩ = some (.string (Str x.1)) ∧ w.cell? ⟨b, o + 1, none⟩ = some (.string (Str x.2.1)) ∧ w.cell? ⟨b, o + 2, none⟩ = some (.int .i64 x.2.2)) :
    w'.cell? ⟨b, o, none⟩ = some (.string (Str x.1)) ∧ w'.cell? ⟨b, o + 1, none⟩ = some (.string (Str x.2.1)) ∧ w'.cell? ⟨b, o + 2, none⟩ = some (.int .i64 x.2.2) :=
  ⟨(hb.cell (p := ⟨b, o, none⟩) hl).trans h.1, (hb.cell (p := ⟨b, o + 1, none⟩) hl).trans h.2.1, (hb.cell (p := ⟨b, o + 2, none⟩) hl).trans h.2.2⟩
theorem putR_step (p : Pr) (d : Bool) (l : List Pr) (j : Nat) (h : j < l.length) : putR p d (l.drop j) = (if !d && !Op.bytesLess l[j].1 p.1 then [p] else []) ++ (if l[j].1 == p.1 then [] else [l[j]]) ++ putR p (d || !Op.bytesLess l[j].1 p.1) (l.drop (j + 1)) := by
  rw [List.drop_eq_getElem_cons h, putR]
set_option maxRecDepth 100000 in
set_option maxHeartbeats 4000000 in
theorem insert_w (v : Value) (l : List Pr) (pk pv : Bs) (pt : Int) (w : World) (h : IsPairs w v l) (hs : Srt l) (hl : l.length ≤ 500000000) (hps : pk.length ≤ maxLen ∧ pv.length ≤ maxLen) :
    Calls Tryz.prog 61 #[v, .agg #[.string (Str pk), .string (Str pv), .int .i64 pt]] w (OwnOut w.heap.size w (putS (pk, pv, pt) l)) := by
  have mixed := mixedA
  have Hsm : Hid (∀ x ∈ putS (pk, pv, pt) l, x.1.length ≤ maxLen ∧ x.2.1.length ≤ maxLen) := Lib.hid (fun x hx => by
    rcases (mem_put _ _ _).1 hx with rfl | ⟨h1, -⟩
    · exact hps
    · exact h.small x h1)
  rw [← putR_eq (pk, pv, pt) hs] at Hsm ⊢
  have Hps := Lib.hid hps
  obtain ⟨b, off, cap, p, rfl, hlc, hcm, hpp, hcc⟩ := h.form
  unfold maxLen at hcm
  have HP := Lib.hid hpp
  have HC := Lib.hid hcc
  have Hls := Lib.hid h.small
  clear h hpp hcc hs hps
  let W1 := w.alloc (.cells #[.string (Str pk), .string (Str pv), .int .i64 pt] 82)
  have HS : Hid (Blk W1 w.heap.size 82 #[.string (Str pk), .string (Str pv), .int .i64 pt]) := Lib.hid (Blk.new _ _ _)
  have Hown0 := Lib.hid (own_empty W1 (w.heap.size + 1) (by simp [W1]))
  have hW1 : W1.heap.size = w.heap.size + 1 := by simp [W1]
  have HW1 := Lib.hid hW1
  clear hW1
  go_enter Tryz.func61, Tryz.ntmps61
  go_wp2
  go_loopw [5, 6, 7] (fun o sd i wr => ∃ (j : Nat) (left : List Pr) (d : Bool), j ≤ l.length ∧ i = .int .i64 j ∧ sd = .bool d ∧ wr.ownsRow (w.heap.size + 1) 82 3 o left.length (left.flatMap encP) ∧ left.length ≤ j + 1 ∧ (d = false → left.length ≤ j) ∧
      Below (w.heap.size + 1) W1 wr ∧ Hid (left ++ putR (pk, pv, pt) d (l.drop j) = putR (pk, pv, pt) false l)) (fun _ _ i _ => l.length - (intOf i).toNat)
  case atStart => exact ⟨0, [], false, Nat.zero_le _, rfl, rfl, by have h := Hown0.out; rw [HW1.out] at h; exact h, by simp, by simp, (Below.refl _ _).alloc (by rw [HW1.out]; exact Nat.le_refl _) _, Lib.hid (by simp)⟩
  case round =>
    clear Hown0
    obtain ⟨j, left, d, hj, rfl, rfl, hown, hll, hld, hbel, hp⟩ := hrel
    have hsz := hbel.size
    rw [HW1.out] at hsz
    have Hown := Lib.hid hown
    have Hbel := Lib.hid hbel
    have hbw : Below w.heap.size w wr := (below_box _).trans (hbel.mono (by omega))
    have Hbw := Lib.hid hbw
    have hbk := HS.out.below hbel (by omega)
    have Hbk := Lib.hid hbk
    have y0 := hbk.c0 0 _ rfl
    have y1 := hbk.c0 1 _ rfl
    have y2 := hbk.c0 2 _ rfl
    clear hown hbk
    by_cases hlt : j < l.length
    · have hcj := HC.out j hlt
      obtain ⟨rfl, c0⟩ := hcj
      have hgl := (HP.out (by rintro rfl; simp at hlt)).2
      have hltz : (j : Int) < (l.length : Int) := by omega
      have hcc := fun (wx : World) (hb : Below (w.heap.size + 1) W1 wx) => cells_in (x := l[j]) ((below_box (w := w) _).trans (hb.mono (by omega))) hgl c0
      obtain ⟨x0, x1, x2⟩ := hcc wr hbel
      have hbb := fun (wx : World) (hb : Below (w.heap.size + 1) W1 wx) => HS.out.below hb (by omega)
      have Hcc := Lib.hid hcc
      have Hbb := Lib.hid hbb
      have hxs := Lib.hid (Hls.out l[j] (List.getElem_mem hlt))
      have hgw : b < wr.heap.size := by omega
      have Hst := Lib.hid (putR_step (pk, pv, pt) d l j hlt)
      clear hbel hbw c0 hcc hbb
      generalize l[j] = x at *
      obtain ⟨xk, xv, xt⟩ := x
      simp only at x0 x1 x2 Hst
      have a0 : ∀ n, (wr.drewN n).cell? ⟨b, off + j * 3, none⟩ = some (.string (Str xk)) := fun n => x0
      have b0 : ∀ n, (wr.drewN n).cell? ⟨w.heap.size, 0, none⟩ = some (.string (Str pk)) := fun n => y0
      clear x0 x1 x2 y0 y1 y2
      cases d with
      | true =>
        by_cases he : xk = pk
        · have hq : (xk == pk) = true := by simpa using he
          have Hn : Hid ((left) ++ putR (pk, pv, pt) true (l.drop (j + 1)) = putR (pk, pv, pt) false l) := Lib.hid (by rw [← hp.out, Hst.out]; simp [he])
          clear Hst hp he
          go_wp2_with fail
          go_quiet (fail)
          go_wp2_with fail
          go_quiet (fail)
          go_wp2
          go_roundw
          case rel => exact ⟨j + 1, left, true, by omega, by go_num, rfl, (owns_below Hown.out (below_drewN _ _)), by first | omega | (simp only [List.length_append, List.length_cons, List.length_nil]; omega), (fun h => by cases h), (Hbel.out.trans (below_drewN _ _)), Hn⟩
          case measure => simp [intOf]; omega
        · have hq : (xk == pk) = false := by simpa using he
          have Hn : Hid ((left ++ [(xk, xv, xt)]) ++ putR (pk, pv, pt) true (l.drop (j + 1)) = putR (pk, pv, pt) false l) := Lib.hid (by rw [← hp.out, Hst.out]; simp [he])
          clear Hst hp he
          go_wp2_with fail
          go_quiet (fail)
          go_wp2_with fail
          go_quiet (fail)
          have e0 := (Hcc.out wr Hbel.out).1
          have e1 := (Hcc.out wr Hbel.out).2.1
          have e2 := (Hcc.out wr Hbel.out).2.2
          go_wp2_with (at_builtin; refine append_pairs rfl _ _ rfl (w.heap.size + 1) _ (left) rfl (World.ownsRow.alloc (owns_below Hown.out (below_drewN _ _)) _) _ [(xk, xv, xt)] rfl (one_pairs (xk, xv, xt) hxs.out) (by simp only [List.length_cons, List.length_nil]; omega) (by simp; omega) ?_; intro v1 w1 hown hbel)
          have Ho1 := Lib.hid hown
          have Hb1 : Hid (Below (w.heap.size + 1) W1 w1) := Lib.hid ((Below.alloc (Hbel.out.trans (below_drewN _ _)) (by first | omega | (simp; omega)) _).trans hbel)
          have hs1 := Hb1.out.size
          rw [HW1.out] at hs1
          clear hown hbel
          go_wp2
          go_roundw
          case rel => exact ⟨j + 1, left ++ [(xk, xv, xt)], true, by omega, by go_num, rfl, Ho1.out, by first | omega | (simp only [List.length_append, List.length_cons, List.length_nil]; omega), (fun h => by cases h), Hb1.out, Hn⟩
          case measure => simp [intOf]; omega
      | false =>
        cases hge : Op.bytesLess xk pk with
        | true =>
          have he : xk ≠ pk := less_ne hge
          have hq : (xk == pk) = false := by simpa using he
          have hq2 : (pk == xk) = false := by simpa using (fun e => he e.symm : ¬ pk = xk)
          have hq3 : Op.bytesLess pk xk = false := less_asymm hge
          have Hn : Hid ((left ++ [(xk, xv, xt)]) ++ putR (pk, pv, pt) false (l.drop (j + 1)) = putR (pk, pv, pt) false l) := Lib.hid (by rw [← hp.out, Hst.out]; simp [hge, he])
          clear Hst hp he
          have hl2 := hld rfl
          go_wp2_with fail
          go_quiet (fail)
          go_wp2_with fail
          go_quiet (fail)
          have e0 := (Hcc.out wr Hbel.out).1
          have e1 := (Hcc.out wr Hbel.out).2.1
          have e2 := (Hcc.out wr Hbel.out).2.2
          go_wp2_with (at_builtin; refine append_pairs rfl _ _ rfl (w.heap.size + 1) _ (left) rfl (World.ownsRow.alloc (owns_below Hown.out (below_drewN _ _)) _) _ [(xk, xv, xt)] rfl (one_pairs (xk, xv, xt) hxs.out) (by simp only [List.length_cons, List.length_nil]; omega) (by simp; omega) ?_; intro v1 w1 hown hbel)
          have Ho1 := Lib.hid hown
          have Hb1 : Hid (Below (w.heap.size + 1) W1 w1) := Lib.hid ((Below.alloc (Hbel.out.trans (below_drewN _ _)) (by first | omega | (simp; omega)) _).trans hbel)
          have hs1 := Hb1.out.size
          rw [HW1.out] at hs1
          clear hown hbel
          go_wp2
          go_roundw
          case rel => exact ⟨j + 1, left ++ [(xk, xv, xt)], false, by omega, by go_num, rfl, Ho1.out, by first | omega | (simp only [List.length_append, List.length_cons, List.length_nil]; omega), (fun _ => by simp only [List.length_append, List.length_cons, List.length_nil]; omega), Hb1.out, Hn⟩
          case measure => simp [intOf]; omega
        | false =>
          by_cases he : xk = pk
          · have hq : (xk == pk) = true := by simpa using he
            have hq2 : (pk == xk) = true := by simpa using he.symm
            have Hn : Hid ((left ++ [(pk, pv, pt)]) ++ putR (pk, pv, pt) true (l.drop (j + 1)) = putR (pk, pv, pt) false l) := Lib.hid (by rw [← hp.out, Hst.out]; simp [he, less_irrefl])
            clear Hst hp he
            have hl2 := hld rfl
            go_wp2_with fail
            go_quiet (fail)
            have y0 := (Hbb.out _ (Hbel.out.trans (below_drewN wr nq))).c0 0 _ rfl
            have y1 := (Hbb.out _ (Hbel.out.trans (below_drewN wr nq))).c0 1 _ rfl
            have y2 := (Hbb.out _ (Hbel.out.trans (below_drewN wr nq))).c0 2 _ rfl
            go_wp2_with (at_builtin; refine append_pairs rfl _ _ rfl (w.heap.size + 1) _ (left) rfl (World.ownsRow.alloc (owns_below Hown.out (below_drewN _ _)) _) _ [(pk, pv, pt)] rfl (one_pairs (pk, pv, pt) Hps.out) (by simp only [List.length_cons, List.length_nil]; omega) (by simp; omega) ?_; intro v1 w1 hown hbel)
            have Ho1 := Lib.hid hown
            have Hb1 : Hid (Below (w.heap.size + 1) W1 w1) := Lib.hid ((Below.alloc (Hbel.out.trans (below_drewN _ _)) (by first | omega | (simp; omega)) _).trans hbel)
            have hs1 := Hb1.out.size
            rw [HW1.out] at hs1
            clear hown hbel
            obtain ⟨e0, e1, e2⟩ := Hcc.out _ Hb1.out
            have f0 := (Hbb.out _ Hb1.out).c0 0 _ rfl
            have a1 : ∀ n, (w1.drewN n).cell? ⟨b, off + j * 3, none⟩ = some (.string (Str xk)) := fun n => e0
            have b1 : ∀ n, (w1.drewN n).cell? ⟨w.heap.size, 0, none⟩ = some (.string (Str pk)) := fun n => f0
            clear e0 e1 e2 f0 y0 y1 y2
            go_wp2_with fail
            go_quiet (fail)
            go_wp2
            go_roundw
            case rel => exact ⟨j + 1, left ++ [(pk, pv, pt)], true, by omega, by go_num, rfl, (owns_below Ho1.out (below_drewN _ _)), by first | omega | (simp only [List.length_append, List.length_cons, List.length_nil]; omega), (fun h => by cases h), (Hb1.out.trans (below_drewN _ _)), Hn⟩
            case measure => simp [intOf]; omega
          · have hq : (xk == pk) = false := by simpa using he
            have hq3 : Op.bytesLess pk xk = true := by
              rcases ne_less he with h | h
              · rw [hge] at h; cases h
              · exact h
            have Hn : Hid ((left ++ [(pk, pv, pt)] ++ [(xk, xv, xt)]) ++ putR (pk, pv, pt) true (l.drop (j + 1)) = putR (pk, pv, pt) false l) := Lib.hid (by rw [← hp.out, Hst.out]; simp [hge, he])
            clear Hst hp he
            have hl2 := hld rfl
            go_wp2_with fail
            go_quiet (fail)
            have y0 := (Hbb.out _ (Hbel.out.trans (below_drewN wr nq))).c0 0 _ rfl
            have y1 := (Hbb.out _ (Hbel.out.trans (below_drewN wr nq))).c0 1 _ rfl
            have y2 := (Hbb.out _ (Hbel.out.trans (below_drewN wr nq))).c0 2 _ rfl
            go_wp2_with (at_builtin; refine append_pairs rfl _ _ rfl (w.heap.size + 1) _ (left) rfl (World.ownsRow.alloc (owns_below Hown.out (below_drewN _ _)) _) _ [(pk, pv, pt)] rfl (one_pairs (pk, pv, pt) Hps.out) (by simp only [List.length_cons, List.length_nil]; omega) (by simp; omega) ?_; intro v1 w1 hown hbel)
            have Ho1 := Lib.hid hown
            have Hb1 : Hid (Below (w.heap.size + 1) W1 w1) := Lib.hid ((Below.alloc (Hbel.out.trans (below_drewN _ _)) (by first | omega | (simp; omega)) _).trans hbel)
            have hs1 := Hb1.out.size
            rw [HW1.out] at hs1
            clear hown hbel
            obtain ⟨e0, e1, e2⟩ := Hcc.out _ Hb1.out
            have f0 := (Hbb.out _ Hb1.out).c0 0 _ rfl
            have a1 : ∀ n, (w1.drewN n).cell? ⟨b, off + j * 3, none⟩ = some (.string (Str xk)) := fun n => e0
            have b1 : ∀ n, (w1.drewN n).cell? ⟨w.heap.size, 0, none⟩ = some (.string (Str pk)) := fun n => f0
            clear e0 e1 e2 f0 y0 y1 y2
            go_wp2_with fail
            go_quiet (fail)
            have e0 := (Hcc.out w1 Hb1.out).1
            have e1 := (Hcc.out w1 Hb1.out).2.1
            have e2 := (Hcc.out w1 Hb1.out).2.2
            go_wp2_with (at_builtin; refine append_pairs rfl _ _ rfl (w.heap.size + 1) _ (left ++ [(pk, pv, pt)]) rfl (World.ownsRow.alloc (owns_below Ho1.out (below_drewN _ _)) _) _ [(xk, xv, xt)] rfl (one_pairs (xk, xv, xt) hxs.out) (by simp only [List.length_append, List.length_cons, List.length_nil]; omega) (by simp; omega) ?_; intro v2 w2 hown hbel)
            have Ho2 := Lib.hid hown
            have Hb2 : Hid (Below (w.heap.size + 1) W1 w2) := Lib.hid ((Below.alloc (Hb1.out.trans (below_drewN _ _)) (by first | omega | (simp; omega)) _).trans hbel)
            have hs2 := Hb2.out.size
            rw [HW1.out] at hs2
            clear hown hbel
            go_wp2
            go_roundw
            case rel => exact ⟨j + 1, left ++ [(pk, pv, pt)] ++ [(xk, xv, xt)], true, by omega, by go_num, rfl, Ho2.out, by first | omega | (simp only [List.length_append, List.length_cons, List.length_nil]; omega), (fun h => by cases h), Hb2.out, Hn⟩
            case measure => simp [intOf]; omega
    · obtain rfl : j = l.length := by omega
      rw [List.drop_length] at hp
      cases d with
      | true =>
        have Hn : Hid (left = putR (pk, pv, pt) false l) := Lib.hid (by rw [← hp.out]; simp [putR])
        clear hp hbel hbw
        go_wp2
        go_ret
        rw [← Hn.out] at Hsm ⊢
        exact ⟨_, rfl, owns_lower Hown.out (Nat.le_succ _), IsPairs.owned Hown.out Hsm.out, Hbw.out⟩
      | false =>
        have Hn : Hid (left ++ [(pk, pv, pt)] = putR (pk, pv, pt) false l) := Lib.hid (by rw [← hp.out]; simp [putR])
        clear hp hbel hbw
        go_wp2_with (at_builtin; refine append_pairs rfl _ _ rfl (w.heap.size + 1) _ (left) rfl (World.ownsRow.alloc Hown.out _) _ [(pk, pv, pt)] rfl (one_pairs (pk, pv, pt) Hps.out) (by simp only [List.length_cons, List.length_nil]; omega) (by simp; omega) ?_; intro v1 w1 hown hbel)
        have Ho1 := Lib.hid hown
        have Hb1 : Hid (Below (w.heap.size + 1) W1 w1) := Lib.hid ((Below.alloc Hbel.out (by first | omega | (simp; omega)) _).trans hbel)
        have hs1 := Hb1.out.size
        rw [HW1.out] at hs1
        clear hown hbel
        have hbw1 := Lib.hid ((below_box (w := w) (.cells #[.string (Str pk), .string (Str pv), .int .i64 pt] 82)).trans (Hb1.out.mono (by omega)))
        go_wp2
        go_ret
        rw [← Hn.out] at Hsm ⊢
        exact ⟨_, rfl, owns_lower Ho1.out (Nat.le_succ _), IsPairs.owned Ho1.out Hsm.out, hbw1.out⟩


end Go.Proofs.YtjncehkldhkobaaGreat
namespace Go.Proofs.YtjncehkldhkobaaGreat
open Go.RowKit Go.Sort
set_option linter.unusedVariables false

theorem without_take (l : List Sp) (t : List Pr) (j : Nat) (h : j < t.length) : withoutS l (t.take (j + 1)) = withoutS l (t.take j) ++ if inB l t[j].1 then [] else [t[j]] := by
  unfold withoutS
  rw [List.take_add_one, List.getElem?_eq_getElem h, List.filter_append]
  congr 1
  simp only [Option.toList_some, List.filter_cons, List.filter_nil]
  cases inB l t[j].1 <;> rfl
theorem within_take (l : List Sp) (t : List Pr) (j : Nat) (h : j < t.length) : withinS l (t.take (j + 1)) = withinS l (t.take j) ++ if inB l t[j].1 then [t[j]] else [] := by
  unfold withinS
  rw [List.take_add_one, List.getElem?_eq_getElem h, List.filter_append]
  congr 1
  simp only [Option.toList_some, List.filter_cons, List.filter_nil]
theorem without_len (l : List Sp) (t : List Pr) : (withoutS l t).length ≤ t.length := List.length_filter_le _ _
theorem within_len (l : List Sp) (t : List Pr) : (withinS l t).length ≤ t.length := List.length_filter_le _ _

set_option maxRecDepth 100000 in
set_option maxHeartbeats 2000000 in
theorem without_w (v u : Value) (t : List Pr) (l : List Sp) (w : World) (h : IsPairs w v t) (hu : IsSpans w u l) (ht : t.length ≤ 500000000) :
    Calls Tryz.prog 39 #[v, u] w (OwnOut w.heap.size w (withoutS l t)) := by
  obtain ⟨b, off, cap, p, rfl, hlc, hcm, hpp, hcc⟩ := h.form
  unfold maxLen at hcm
  have HP := Lib.hid hpp
  have HC := Lib.hid hcc
  have Hls := Lib.hid h.small
  have Hu := Lib.hid hu
  clear h hpp hcc hu
  have Hown0 := Lib.hid (own_empty w w.heap.size (Nat.le_refl _))
  go_enter Tryz.func39, Tryz.ntmps39
  go_wp2
  go_loopw [5, 6] (fun o i wr => ∃ j : Nat, j ≤ t.length ∧ i = .int .i64 j ∧ wr.ownsRow w.heap.size 82 3 o (withoutS l (t.take j)).length ((withoutS l (t.take j)).flatMap encP) ∧ Below w.heap.size w wr) (fun _ i _ => t.length - (intOf i).toNat)
  case atStart => exact ⟨0, Nat.zero_le _, rfl, Hown0.out, below_box _⟩
  case round =>
    clear Hown0
    obtain ⟨j, hj, rfl, hown, hbel⟩ := hrel
    have hsz := hbel.size
    have Hown := Lib.hid hown
    have Hbel := Lib.hid hbel
    clear hown
    by_cases hlt : j < t.length
    · obtain ⟨rfl, hc⟩ := HC.out j hlt
      have hgl := (HP.out (by rintro rfl; simp at hlt)).2
      have hltz : (j : Int) < (t.length : Int) := by omega
      have hcc := fun (wx : World) (hb : Below w.heap.size w wx) => cells_in hb hgl hc
      obtain ⟨c0, c1, c2⟩ := hcc wr hbel
      have Hcc := Lib.hid hcc
      have hxs := Lib.hid (Hls.out t[j] (List.getElem_mem hlt))
      have hgw : b < wr.heap.size := by omega
      have Htk := Lib.hid (without_take l t j hlt)
      have hlen : (withoutS l (t.take j)).length ≤ j := Nat.le_trans (without_len _ _) (List.length_take_le _ _)
      clear hbel hc hcc
      generalize t[j] = x at *
      obtain ⟨xk, xv, xt⟩ := x
      simp only at c0 c1 c2 Htk
      generalize withoutS l (t.take j) = left at *
      cases hf : inB l xk with
      | true =>
        have Hn : Hid (withoutS l (t.take (j + 1)) = left) := Lib.hid (by rw [Htk.out, hf]; simp)
        have Hi := Lib.hid (in_w u l xk wr (Hu.out.below Hbel.out))
        rw [hf] at Hi
        clear Htk hf
        go_wp2_with fail
        refine Hi.out.mono ?_
        rintro e w17 ⟨rfl, hg17⟩
        have hb17 := hg17.below (B := wr.heap.size) (Nat.le_refl _)
        have Hown17 := Lib.hid (owns_below Hown.out hb17)
        have Hb17 : Hid (Below w.heap.size w w17) := Lib.hid (Hbel.out.trans (hb17.mono hsz))
        have hs17 := Hb17.out.size
        have hgw17 : b < w17.heap.size := Nat.lt_of_lt_of_le hgl hs17
        obtain ⟨c0, c1, c2⟩ := Hcc.out w17 Hb17.out
        clear hb17 hg17
        go_wp2
        go_roundw
        case rel => exact ⟨j + 1, by omega, by go_num, by rw [Hn.out]; exact Hown17.out, Hb17.out⟩
        case measure => simp [intOf]; omega
      | false =>
        have Hn : Hid (withoutS l (t.take (j + 1)) = left ++ [(xk, xv, xt)]) := Lib.hid (by rw [Htk.out, hf]; rfl)
        have Hi := Lib.hid (in_w u l xk wr (Hu.out.below Hbel.out))
        rw [hf] at Hi
        clear Htk hf
        go_wp2_with fail
        refine Hi.out.mono ?_
        rintro e w17 ⟨rfl, hg17⟩
        have hb17 := hg17.below (B := wr.heap.size) (Nat.le_refl _)
        have Hown17 := Lib.hid (owns_below Hown.out hb17)
        have Hb17 : Hid (Below w.heap.size w w17) := Lib.hid (Hbel.out.trans (hb17.mono hsz))
        have hs17 := Hb17.out.size
        have hgw17 : b < w17.heap.size := Nat.lt_of_lt_of_le hgl hs17
        obtain ⟨c0, c1, c2⟩ := Hcc.out w17 Hb17.out
        clear hb17 hg17
        go_wp2_with (at_builtin; refine append_pairs rfl _ _ rfl w.heap.size _ left rfl (Hown17.out.alloc _) _ [(xk, xv, xt)] rfl (one_pairs (xk, xv, xt) hxs.out) (by simp only [List.length_cons, List.length_nil]; omega) (by simp; omega) ?_; intro v2 w2 hown2 hbel2)
        have Hown2 := Lib.hid hown2
        have Hbel2 : Hid (Below w.heap.size w w2) := Lib.hid ((Hb17.out.alloc hs17 _).trans hbel2)
        clear hown2 hbel2
        go_wp2
        go_roundw
        case rel => exact ⟨j + 1, by omega, by go_num, by rw [Hn.out]; exact Hown2.out, Hbel2.out⟩
        case measure => simp [intOf]; omega
    · obtain rfl : j = t.length := by omega
      rw [List.take_length] at Hown
      have hpr := Lib.hid (IsPairs.owned Hown.out (fun x hx => Hls.out x (List.mem_filter.1 hx).1))
      clear hbel
      go_wp2
      go_ret
      exact ⟨_, rfl, Hown.out, hpr.out, Hbel.out⟩

set_option maxRecDepth 100000 in
set_option maxHeartbeats 2000000 in
theorem within_w (v u : Value) (t : List Pr) (l : List Sp) (w : World) (h : IsPairs w v t) (hu : IsSpans w u l) (ht : t.length ≤ 500000000) :
    Calls Tryz.prog 36 #[v, u] w (OwnOut w.heap.size w (withinS l t)) := by
  obtain ⟨b, off, cap, p, rfl, hlc, hcm, hpp, hcc⟩ := h.form
  unfold maxLen at hcm
  have HP := Lib.hid hpp
  have HC := Lib.hid hcc
  have Hls := Lib.hid h.small
  have Hu := Lib.hid hu
  clear h hpp hcc hu
  have Hown0 := Lib.hid (own_empty w w.heap.size (Nat.le_refl _))
  go_enter Tryz.func36, Tryz.ntmps36
  go_wp2
  go_loopw [5, 6] (fun o i wr => ∃ j : Nat, j ≤ t.length ∧ i = .int .i64 j ∧ wr.ownsRow w.heap.size 82 3 o (withinS l (t.take j)).length ((withinS l (t.take j)).flatMap encP) ∧ Below w.heap.size w wr) (fun _ i _ => t.length - (intOf i).toNat)
  case atStart => exact ⟨0, Nat.zero_le _, rfl, Hown0.out, below_box _⟩
  case round =>
    clear Hown0
    obtain ⟨j, hj, rfl, hown, hbel⟩ := hrel
    have hsz := hbel.size
    have Hown := Lib.hid hown
    have Hbel := Lib.hid hbel
    clear hown
    by_cases hlt : j < t.length
    · obtain ⟨rfl, hc⟩ := HC.out j hlt
      have hgl := (HP.out (by rintro rfl; simp at hlt)).2
      have hltz : (j : Int) < (t.length : Int) := by omega
      have hcc := fun (wx : World) (hb : Below w.heap.size w wx) => cells_in hb hgl hc
      obtain ⟨c0, c1, c2⟩ := hcc wr hbel
      have Hcc := Lib.hid hcc
      have hxs := Lib.hid (Hls.out t[j] (List.getElem_mem hlt))
      have hgw : b < wr.heap.size := by omega
      have Htk := Lib.hid (within_take l t j hlt)
      have hlen : (withinS l (t.take j)).length ≤ j := Nat.le_trans (within_len _ _) (List.length_take_le _ _)
      clear hbel hc hcc
      generalize t[j] = x at *
      obtain ⟨xk, xv, xt⟩ := x
      simp only at c0 c1 c2 Htk
      generalize withinS l (t.take j) = left at *
      cases hf : inB l xk with
      | true =>
        have Hn : Hid (withinS l (t.take (j + 1)) = left ++ [(xk, xv, xt)]) := Lib.hid (by rw [Htk.out, hf]; rfl)
        have Hi := Lib.hid (in_w u l xk wr (Hu.out.below Hbel.out))
        rw [hf] at Hi
        clear Htk hf
        go_wp2_with fail
        refine Hi.out.mono ?_
        rintro e w17 ⟨rfl, hg17⟩
        have hb17 := hg17.below (B := wr.heap.size) (Nat.le_refl _)
        have Hown17 := Lib.hid (owns_below Hown.out hb17)
        have Hb17 : Hid (Below w.heap.size w w17) := Lib.hid (Hbel.out.trans (hb17.mono hsz))
        have hs17 := Hb17.out.size
        have hgw17 : b < w17.heap.size := Nat.lt_of_lt_of_le hgl hs17
        obtain ⟨c0, c1, c2⟩ := Hcc.out w17 Hb17.out
        clear hb17 hg17
        go_wp2_with (at_builtin; refine append_pairs rfl _ _ rfl w.heap.size _ left rfl (Hown17.out.alloc _) _ [(xk, xv, xt)] rfl (one_pairs (xk, xv, xt) hxs.out) (by simp only [List.length_cons, List.length_nil]; omega) (by simp; omega) ?_; intro v2 w2 hown2 hbel2)
        have Hown2 := Lib.hid hown2
        have Hbel2 : Hid (Below w.heap.size w w2) := Lib.hid ((Hb17.out.alloc hs17 _).trans hbel2)
        clear hown2 hbel2
        go_wp2
        go_roundw
        case rel => exact ⟨j + 1, by omega, by go_num, by rw [Hn.out]; exact Hown2.out, Hbel2.out⟩
        case measure => simp [intOf]; omega
      | false =>
        have Hn : Hid (withinS l (t.take (j + 1)) = left) := Lib.hid (by rw [Htk.out, hf]; simp)
        have Hi := Lib.hid (in_w u l xk wr (Hu.out.below Hbel.out))
        rw [hf] at Hi
        clear Htk hf
        go_wp2_with fail
        refine Hi.out.mono ?_
        rintro e w17 ⟨rfl, hg17⟩
        have hb17 := hg17.below (B := wr.heap.size) (Nat.le_refl _)
        have Hown17 := Lib.hid (owns_below Hown.out hb17)
        have Hb17 : Hid (Below w.heap.size w w17) := Lib.hid (Hbel.out.trans (hb17.mono hsz))
        have hs17 := Hb17.out.size
        have hgw17 : b < w17.heap.size := Nat.lt_of_lt_of_le hgl hs17
        obtain ⟨c0, c1, c2⟩ := Hcc.out w17 Hb17.out
        clear hb17 hg17
        go_wp2
        go_roundw
        case rel => exact ⟨j + 1, by omega, by go_num, by rw [Hn.out]; exact Hown17.out, Hb17.out⟩
        case measure => simp [intOf]; omega
    · obtain rfl : j = t.length := by omega
      rw [List.take_length] at Hown
      have hpr := Lib.hid (IsPairs.owned Hown.out (fun x hx => Hls.out x (List.mem_filter.1 hx).1))
      clear hbel
      go_wp2
      go_ret
      exact ⟨_, rfl, Hown.out, hpr.out, Hbel.out⟩

end Go.Proofs.YtjncehkldhkobaaGreat
namespace Go.Proofs.YtjncehkldhkobaaGreat
open Go.RowKit Go.Sort
set_option linter.unusedVariables false

def pathL : List Bs := [[97, 47], [98, 47], [97, 47, 98, 47], [99, 47], [100, 47]]
def tailL : List Bs := [[1], [2, 0, 0], [2, 0, 1], [2, 0, 2], [3, 120]]
def valL : List Bs := [[], [120], [121, 121], [49, 50, 51, 52, 53, 54, 55, 56, 57, 48], [0, 255]]
def pathS (n : Nat) : Bs := pathL.getD (n % 5) []
def keyS (n : Nat) : Bs := pathS (n % 4) ++ tailL.getD (n / 4 % 5) []
def valS (n : Nat) : Bs := valL.getD (n % 5) []
theorem getD_len {L : List Bs} {b : Nat} (h : ∀ x ∈ L, x.length ≤ b) (i : Nat) : (L.getD i []).length ≤ b := by
  rw [List.getD_eq_getElem?_getD]
  cases e : L[i]? with
  | none => simp
  | some x => exact h x (List.mem_of_getElem? e)
theorem path_len (n : Nat) : (pathS n).length ≤ 4 := getD_len (L := pathL) (b := 4) (by decide) _
theorem tail_len (n : Nat) : (tailL.getD n []).length ≤ 3 := getD_len (L := tailL) (b := 3) (by decide) _
theorem val_len (n : Nat) : (valS n).length ≤ 10 := getD_len (L := valL) (b := 10) (by decide) _
theorem key_len (n : Nat) : (keyS n).length ≤ 7 := by
  unfold keyS
  have := path_len (n % 4)
  have := tail_len (n / 4 % 5)
  rw [List.length_append]; omega
theorem strs_cell {W : World} {n : Nat} (L : List Bs) (T : TypeId) (i : Nat) (hi : i < L.length) (hn : n = W.heap.size) : (W.alloc (.cells (L.map fun s => Value.string (Str s)).toArray T)).cell? ⟨n, i, none⟩ = some (.string (Str (L.getD i []))) := by
  subst hn
  rw [World.cell?_alloc_new]
  simp [hi, List.getD_eq_getElem?_getD]

set_option maxRecDepth 100000 in
set_option maxHeartbeats 2000000 in
theorem path_w (n : Nat) (w : World) (hn : n < 256) : Calls Tryz.prog 44 #[.int .u8 n] w fun e w' => e = .returned (.string (Str (pathS n))) ∧ Below w.heap.size w w' := by
  have Hp : Hid (pathS n = pathL.getD (n % 5) []) := Lib.hid rfl
  have hm : n % 5 < 5 := Nat.mod_lt _ (by omega)
  have hz : (n : Int) % 5 = ((n % 5 : Nat) : Int) := by omega
  have h1 : (w.alloc (.cells #[.string ⟨#[97, 47]⟩, .string ⟨#[98, 47]⟩, .string ⟨#[97, 47, 98, 47]⟩, .string ⟨#[99, 47]⟩, .string ⟨#[100, 47]⟩] 9)).cell? ⟨w.heap.size, n % 5, none⟩ = _ := strs_cell pathL 9 (n % 5) hm rfl
  generalize n % 5 = m at *
  generalize pathL.getD m [] = r at *
  have hn' : (n : Int) < 256 := by omega
  have hm' : (m : Int) < 5 := by omega
  have hm0 : (0 : Int) ≤ (m : Int) := by omega
  clear hn
  go_enter Tryz.func44, Tryz.ntmps44
  go_wp2
  go_ret
  exact ⟨by rw [Hp.out]; rfl, below_box _⟩
set_option maxRecDepth 100000 in
set_option maxHeartbeats 2000000 in
theorem value_w (n : Nat) (w : World) (hn : n < 256) : Calls Tryz.prog 62 #[.int .u8 n] w fun e w' => e = .returned (.string (Str (valS n))) ∧ Below w.heap.size w w' := by
  have Hp : Hid (valS n = valL.getD (n % 5) []) := Lib.hid rfl
  have hm : n % 5 < 5 := Nat.mod_lt _ (by omega)
  have hz : (n : Int) % 5 = ((n % 5 : Nat) : Int) := by omega
  have h1 : (w.alloc (.cells #[.string ⟨#[]⟩, .string ⟨#[120]⟩, .string ⟨#[121, 121]⟩, .string ⟨#[49, 50, 51, 52, 53, 54, 55, 56, 57, 48]⟩, .string ⟨#[0, 255]⟩] 9)).cell? ⟨w.heap.size, n % 5, none⟩ = _ := strs_cell valL 9 (n % 5) hm rfl
  generalize n % 5 = m at *
  generalize valL.getD m [] = r at *
  have hn' : (n : Int) < 256 := by omega
  have hm' : (m : Int) < 5 := by omega
  have hm0 : (0 : Int) ≤ (m : Int) := by omega
  clear hn
  go_enter Tryz.func62, Tryz.ntmps62
  go_wp2
  go_ret
  exact ⟨by rw [Hp.out]; rfl, below_box _⟩

theorem SB.alloc {w wx : World} (h : SB w wx) (o : Obj) : SB w (wx.alloc o) := h.below (below_box _)
set_option maxRecDepth 100000 in
set_option maxHeartbeats 4000000 in
set_option warningAsError false in
theorem key_w (n : Nat) (w : World) (hn : n < 256) : Calls Tryz.prog 45 #[.int .u8 n] w fun e w' => e = .returned (.string (Str (keyS n))) ∧ Below w.heap.size w w' := by
  have mixed := mixedA
  have Hp : Hid (keyS n = pathS (n % 4) ++ tailL.getD (n / 4 % 5) []) := Lib.hid rfl
  have hm4 : n % 4 < 4 := Nat.mod_lt _ (by omega)
  have hr5 : n / 4 % 5 < 5 := Nat.mod_lt _ (by omega)
  have hz4 : (n : Int) % 4 = ((n % 4 : Nat) : Int) := by omega
  have hzq : (n : Int) / 4 = ((n / 4 : Nat) : Int) := by omega
  have hzr : ((n / 4 : Nat) : Int) % 5 = ((n / 4 % 5 : Nat) : Int) := by omega
  have hq64 : n / 4 < 64 := by omega
  have hv : ∀ W : World, (W.alloc (.cells #[.string ⟨#[1]⟩, .string ⟨#[2, 0, 0]⟩, .string ⟨#[2, 0, 1]⟩, .string ⟨#[2, 0, 2]⟩, .string ⟨#[3, 120]⟩] 9)).cell? ⟨W.heap.size, n / 4 % 5, none⟩ = some (.string (Str (tailL.getD (n / 4 % 5) []))) := fun W => strs_cell tailL 9 (n / 4 % 5) hr5 rfl
  have l1 := path_len (n % 4)
  have l2 := tail_len (n / 4 % 5)
  have hk := Lib.hid (fun wx => path_w (n % 4) wx (by omega))
  generalize tailL.getD (n / 4 % 5) [] = pe at *
  generalize n / 4 % 5 = r at *
  generalize n / 4 = q at *
  generalize pathS (n % 4) = pa at *
  generalize n % 4 = m at *
  have hsum : ¬ 9223372036854775807 < pa.length + pe.length := by omega
  have hnz : (n : Int) < 256 := by omega
  have hmz : (m : Int) < 4 := by omega
  have hm0 : (0 : Int) ≤ (m : Int) := by omega
  have hqz : (q : Int) < 64 := by omega
  have hq0 : (0 : Int) ≤ (q : Int) := by omega
  have hrz : (r : Int) < 5 := by omega
  have hr0 : (0 : Int) ≤ (r : Int) := by omega
  have ht4 : (n : Int).tmod 4 = (m : Int) := by rw [Int.tmod_eq_emod_of_nonneg (by omega)]; exact hz4
  have htd : (n : Int).tdiv 4 = (q : Int) := by rw [Int.tdiv_eq_ediv_of_nonneg (by omega)]; exact hzq
  have htr : (q : Int).tmod 5 = (r : Int) := by rw [Int.tmod_eq_emod_of_nonneg (by omega)]; exact hzr
  have hwm : IntKind.u8.wrap (m : Int) = (m : Int) := by simp [IntKind.wrap, IntKind.bits, IntKind.signed]; omega
  have hwq : IntKind.u8.wrap (q : Int) = (q : Int) := by simp [IntKind.wrap, IntKind.bits, IntKind.signed]; omega
  have hwr : IntKind.u8.wrap (r : Int) = (r : Int) := by simp [IntKind.wrap, IntKind.bits, IntKind.signed]; omega
  clear hn
  go_enter Tryz.func45, Tryz.ntmps45
  go_wp2_with fail
  go_region_held3 (fun wr => SB w wr) (first | with_reducible assumption | exact SB.alloc (by with_reducible assumption) _ | exact (SB.refl w).drew)
    (first
      | (go_at_call 44; (with_reducible refine (hk.out _).mono ?_); rintro e w2 ⟨rfl, hb2⟩; have hs2 : SB w w2 := SB.below (by with_reducible assumption) hb2; first | (have k1 := (hb2.cell (p := ⟨w.heap.size, r, none⟩) (by simp)).trans (hv w)) | skip))
  all_goals
    go_wp2_with fail
    go_ret
    refine ⟨by (rw [Hp.out, ← Str_add]; rfl), ?_⟩
    exact SB.g (by with_reducible assumption)

end Go.Proofs.YtjncehkldhkobaaGreat
namespace Go.Proofs.YtjncehkldhkobaaGreat
open Go.RowKit Go.Sort
set_option linter.unusedVariables false

def minB (a b : Bs) : Bs := if Op.bytesLess b a then b else a
def maxB (a b : Bs) : Bs := if Op.bytesLess a b then b else a
theorem run_min {P : Program} (w : World) (ts : Array TypeId) (t : TypeId) (x y : Bs) : (Builtin.min_ ts t #[.string (Str x), .string (Str y)]).run P w = .ok (.string (Str (minB x y))) w := by
  cases h : Op.bytesLess y x with
  | true =>
    have h2 := less_asymm h
    have h3 : (x == y) = false := by rw [beq_eq_false_iff_ne]; exact (less_ne h).symm
    simp [Builtin.min_, Builtin.min2, Op.stringOp, asBool, minB, toList_Str, h, h2, h3]
  | false =>
    by_cases h5 : x = y
    · subst h5
      simp [Builtin.min_, Builtin.min2, Op.stringOp, asBool, minB, toList_Str, h]
    · have h2 : Op.bytesLess x y = true := by
        rcases ne_less h5 with h6 | h6
        · exact h6
        · rw [h] at h6; cases h6
      simp [Builtin.min_, Builtin.min2, Op.stringOp, asBool, minB, toList_Str, h, h2]
theorem run_max {P : Program} (w : World) (ts : Array TypeId) (t : TypeId) (x y : Bs) : (Builtin.max_ ts t #[.string (Str x), .string (Str y)]).run P w = .ok (.string (Str (maxB x y))) w := by
  cases h : Op.bytesLess x y <;> simp [Builtin.max_, Builtin.max2, Op.stringOp, asBool, maxB, toList_Str, h]
attribute [go_sem high] run_min run_max

/-- The span, the end of a move, that six bytes describe. -/
def spanR (b d e : Nat) : Sp :=
  if e % 4 = 0 then preS (pathS b) else if e % 16 = 1 then (keyS b, []) else if e % 16 = 5 then ([], []) else if keyS b = keyS d then oneS (keyS b) else (minB (keyS b) (keyS d), maxB (keyS b) (keyS d))
def otherR (f t : Bs) : Bs := if t.isPrefixOf f || f.isPrefixOf t then (if f = [100, 47] then [99, 47] else [100, 47]) else t
def toR (b d : Nat) : Bs := otherR (pathS b) (pathS d)
def madeM (a b c d e f : Nat) : Ms :=
  if a % 6 = 0 then ⟨1, keyS b, valS c, [], [], [], [], (f % 8 : Nat)⟩
  else if a % 6 = 1 then ⟨2, keyS b, [], [], [], [], [], 0⟩
  else if a % 6 = 2 then ⟨3, [], [], (spanR b d e).1, (spanR b d e).2, [], [], 0⟩
  else if a % 6 = 3 then ⟨4, [], [], [], [], pathS b, toR b d, 0⟩
  else if a % 6 = 4 then ⟨5, [], [], [], [], pathS b, toR b d, 0⟩
  else ⟨6, [], [], (spanR b d e).1, (spanR b d e).2, [], [], (f % 8 : Nat)⟩

theorem path_pos (n : Nat) : 1 ≤ (pathS n).length := by
  have h : ∀ m < 5, 1 ≤ (pathL.getD m []).length := by decide
  exact h _ (Nat.mod_lt _ (by omega))
theorem key_pos (n : Nat) : 1 ≤ (keyS n).length := by
  unfold keyS
  have := path_pos (n % 4)
  rw [List.length_append]; omega
theorem to_apart (b d : Nat) : apartB (pathS b) (toR b d) = true := by
  have h : ∀ m < 5, ∀ n < 5, apartB (pathL.getD m []) (otherR (pathL.getD m []) (pathL.getD n [])) = true := by decide +kernel
  exact h _ (Nat.mod_lt _ (by omega)) _ (Nat.mod_lt _ (by omega))
theorem to_len (b d : Nat) : (toR b d).length ≤ 4 := by
  have h : ∀ m < 5, ∀ n < 5, (otherR (pathL.getD m []) (pathL.getD n [])).length ≤ 4 := by decide +kernel
  exact h _ (Nat.mod_lt _ (by omega)) _ (Nat.mod_lt _ (by omega))
theorem preT_len (b : Nat) : (preT (pathS b)).length ≤ 4 := by
  have h : ∀ m < 5, (preT (pathL.getD m [])).length ≤ 4 := by decide +kernel
  exact h _ (Nat.mod_lt _ (by omega))
theorem span_small (b d e : Nat) : (spanR b d e).1.length ≤ 8 ∧ (spanR b d e).2.length ≤ 8 := by
  have k1 := key_len b
  have k2 := key_len d
  have p1 := path_len b
  have p2 := preT_len b
  unfold spanR
  split
  · exact ⟨by show (pathS b).length ≤ 8; omega, by show (preT (pathS b)).length ≤ 8; omega⟩
  split
  · exact ⟨by show (keyS b).length ≤ 8; omega, by simp⟩
  split
  · simp
  split
  · refine ⟨by show (keyS b).length ≤ 8; omega, ?_⟩
    show (keyS b ++ [0]).length ≤ 8
    rw [List.length_append]; simp; omega
  · constructor
    · show (minB _ _).length ≤ 8
      unfold minB; split <;> omega
    · show (maxB _ _).length ≤ 8
      unfold maxB; split <;> omega
theorem span_filled (b d e : Nat) : emptyB (spanR b d e) = false := by
  unfold spanR
  split
  · exact prefix_nonempty _
  split
  · exact (emptyB_no _).2 (keyP_top _)
  split
  · exact (emptyB_no _).2 (keyP_top _)
  split
  · exact one_nonempty _
  · rename_i h
    have hlt : Op.bytesLess (minB (keyS b) (keyS d)) (maxB (keyS b) (keyS d)) = true := by
      unfold minB maxB
      rcases ne_less h with h1 | h1
      · rw [h1, less_asymm h1]; simpa using h1
      · rw [h1, less_asymm h1]; simpa using h1
    rw [emptyB_no]
    have hne : maxB (keyS b) (keyS d) ≠ [] := by
      intro e; rw [e, less_nil] at hlt; cases hlt
    show _ < hiP (maxB (keyS b) (keyS d))
    rw [hiP_ne hne]
    exact hlt
theorem made_valid (a b c d e f : Nat) : validM (madeM a b c d e f) = true := by
  have hk : keyB (keyS b) = true := keyB_yes (key_pos b) (by have := key_len b; omega)
  have hv : decide ((valS c).length ≤ 64) = true := by have := val_len c; simp; omega
  have hn : stampB ((f % 8 : Nat) : Int) = true := by unfold stampB; simp; omega
  have hs : spanB (spanR b d e).1 (spanR b d e).2 = true := by
    unfold spanB
    have := span_small b d e
    rw [show emptyB ((spanR b d e).1, (spanR b d e).2) = false from span_filled b d e]
    simp; omega
  have ha := to_apart b d
  unfold madeM validM
  split
  · simp only [fitsB, if_true, hk, hv, hn, bareM, zeroM]; rfl
  split
  · simp only [fitsB, hk, bareM, zeroM]; rfl
  split
  · simp only [fitsB, hs, bareM, zeroM]; rfl
  split
  · simp only [fitsB, ha, bareM, zeroM]; rfl
  split
  · simp only [fitsB, ha, bareM, zeroM]; rfl
  · simp only [fitsB, hs, hn, bareM, zeroM]; rfl
theorem made_size (a b c d e f : Nat) : SizeM (madeM a b c d e f) := by
  have k1 := key_len b
  have v1 := val_len c
  have s1 := span_small b d e
  have p1 := path_len b
  have t1 := to_len b d
  unfold SizeM madeM
  split
  · simp; omega
  split
  · simp; omega
  split
  · simp; omega
  split
  · simp; omega
  split
  · simp; omega
  · simp; omega

end Go.Proofs.YtjncehkldhkobaaGreat
