/-
  Walks: the reference's insertion of a pair.
-/
import Derived.Test.YtaafckefeejjpaaGreatMR
import Derived.Test.YtaafckefeejjpaaGreatTW5
namespace Go.Proofs.YtaafckefeejjpaaGreat
open Go.RowKit Go.Sort
set_option linter.unusedVariables false

theorem cells_in {w w' : World} {B b o : Nat} {x : Pr} (hb : Below B w w') (hl : b < B) (h : w.cell? ⟨b, o, none⟩ = some (.string (Str x.1)) ∧ w.cell? ⟨b, o + 1, none⟩ = some (.string (Str x.2.1)) ∧ w.cell? ⟨b, o + 2, none⟩ = some (.int .i64 x.2.2)) :
    w'.cell? ⟨b, o, none⟩ = some (.string (Str x.1)) ∧ w'.cell? ⟨b, o + 1, none⟩ = some (.string (Str x.2.1)) ∧ w'.cell? ⟨b, o + 2, none⟩ = some (.int .i64 x.2.2) :=
  ⟨(hb.cell (p := ⟨b, o, none⟩) hl).trans h.1, (hb.cell (p := ⟨b, o + 1, none⟩) hl).trans h.2.1, (hb.cell (p := ⟨b, o + 2, none⟩) hl).trans h.2.2⟩
theorem putR_step (p : Pr) (d : Bool) (l : List Pr) (j : Nat) (h : j < l.length) : putR p d (l.drop j) = (if !d && !Op.bytesLess l[j].1 p.1 then [p] else []) ++ (if l[j].1 == p.1 then [] else [l[j]]) ++ putR p (d || !Op.bytesLess l[j].1 p.1) (l.drop (j + 1)) := by
  rw [List.drop_eq_getElem_cons h, putR]
set_option maxRecDepth 100000 in
set_option maxHeartbeats 4000000 in
theorem insert_w (v : Value) (l : List Pr) (pk pv : Bs) (pt : Int) (w : World) (h : IsPairs w v l) (hs : Srt l) (hl : l.length ≤ 50000) (hps : pk.length ≤ maxLen ∧ pv.length ≤ maxLen) :
    Calls Tryz.prog 82 #[v, .agg #[.string (Str pk), .string (Str pv), .int .i64 pt]] w (OwnOut w.heap.size w (putS (pk, pv, pt) l)) := by
  have mixed := mixedA
  have Hsm : Hid (∀ x ∈ putS (pk, pv, pt) l, x.1.length ≤ maxLen ∧ x.2.1.length ≤ maxLen) := Lib.hid (fun x hx => by
    rcases (mem_put _ _ _).1 hx with rfl | ⟨h1, -⟩
    · exact hps
    · exact h.small x h1)
  rw [← putR_eq (pk, pv, pt) hs] at Hsm ⊢
  have Hps := Lib.hid hps
  obtain ⟨b, off, cap, p, rfl, hlc, hcm, hpp, hcc⟩ := h.form
  unfold maxLen at hcm
  have HP := Lib.hid hpp
  have HC := Lib.hid hcc
  have Hls := Lib.hid h.small
  clear h hpp hcc hs hps
  let W1 := w.alloc (.cells #[.string (Str pk), .string (Str pv), .int .i64 pt] 91)
  have HS : Hid (Blk W1 w.heap.size 91 #[.string (Str pk), .string (Str pv), .int .i64 pt]) := Lib.hid (Blk.new _ _ _)
  have Hown0 := Lib.hid (own_empty W1 (w.heap.size + 1) (by simp [W1]))
  have hW1 : W1.heap.size = w.heap.size + 1 := by simp [W1]
  have HW1 := Lib.hid hW1
  clear hW1
  go_enter Tryz.func82, Tryz.ntmps82
  go_wp2
  go_loopw [5, 6, 7] (fun o sd i wr => ∃ (j : Nat) (left : List Pr) (d : Bool), j ≤ l.length ∧ i = .int .i64 j ∧ sd = .bool d ∧ wr.ownsRow (w.heap.size + 1) 91 3 o left.length (left.flatMap encP) ∧ left.length ≤ j + 1 ∧ (d = false → left.length ≤ j) ∧
      Below (w.heap.size + 1) W1 wr ∧ Hid (left ++ putR (pk, pv, pt) d (l.drop j) = putR (pk, pv, pt) false l)) (fun _ _ i _ => l.length - (intOf i).toNat)
  case atStart => exact ⟨0, [], false, Nat.zero_le _, rfl, rfl, by have h := Hown0.out; rw [HW1.out] at h; exact h, by simp, by simp, (Below.refl _ _).alloc (by rw [HW1.out]; exact Nat.le_refl _) _, Lib.hid (by simp)⟩
  case round =>
    clear Hown0
    obtain ⟨j, left, d, hj, rfl, rfl, hown, hll, hld, hbel, hp⟩ := hrel
    have hsz := hbel.size
    rw [HW1.out] at hsz
    have Hown := Lib.hid hown
    have Hbel := Lib.hid hbel
    have hbw : Below w.heap.size w wr := (below_box _).trans (hbel.mono (by omega))
    have Hbw := Lib.hid hbw
    have hbk := HS.out.below hbel (by omega)
    have Hbk := Lib.hid hbk
    have y0 := hbk.c0 0 _ rfl
    have y1 := hbk.c0 1 _ rfl
    have y2 := hbk.c0 2 _ rfl
    clear hown hbk
    by_cases hlt : j < l.length
    · have hcj := HC.out j hlt
      obtain ⟨rfl, c0⟩ := hcj
      have hgl := (HP.out (by rintro rfl; simp at hlt)).2
      have hltz : (j : Int) < (l.length : Int) := by omega
      have hcc := fun (wx : World) (hb : Below (w.heap.size + 1) W1 wx) => cells_in (x := l[j]) ((below_box (w := w) _).trans (hb.mono (by omega))) hgl c0
      obtain ⟨x0, x1, x2⟩ := hcc wr hbel
      have hbb := fun (wx : World) (hb : Below (w.heap.size + 1) W1 wx) => HS.out.below hb (by omega)
      have Hcc := Lib.hid hcc
      have Hbb := Lib.hid hbb
      have hxs := Lib.hid (Hls.out l[j] (List.getElem_mem hlt))
      have hgw : b < wr.heap.size := by omega
      have Hst := Lib.hid (putR_step (pk, pv, pt) d l j hlt)
      clear hbel hbw c0 hcc hbb
      generalize l[j] = x at *
      obtain ⟨xk, xv, xt⟩ := x
      simp only at x0 x1 x2 Hst
      have a0 : ∀ n, (wr.drewN n).cell? ⟨b, off + j * 3, none⟩ = some (.string (Str xk)) := fun n => x0
      have b0 : ∀ n, (wr.drewN n).cell? ⟨w.heap.size, 0, none⟩ = some (.string (Str pk)) := fun n => y0
      clear x0 x1 x2 y0 y1 y2
      cases d with
      | true =>
        by_cases he : xk = pk
        · have hq : (xk == pk) = true := by simpa using he
          have Hn : Hid ((left) ++ putR (pk, pv, pt) true (l.drop (j + 1)) = putR (pk, pv, pt) false l) := Lib.hid (by rw [← hp.out, Hst.out]; simp [he])
          clear Hst hp he
          go_wp2_with fail
          go_quiet (fail)
          go_wp2_with fail
          go_quiet (fail)
          go_wp2
          go_roundw
          case rel => exact ⟨j + 1, left, true, by omega, by go_num, rfl, (owns_below Hown.out (below_drewN _ _)), by first | omega | (simp only [List.length_append, List.length_cons, List.length_nil]; omega), (fun h => by cases h), (Hbel.out.trans (below_drewN _ _)), Hn⟩
          case measure => simp [intOf]; omega
        · have hq : (xk == pk) = false := by simpa using he
          have Hn : Hid ((left ++ [(xk, xv, xt)]) ++ putR (pk, pv, pt) true (l.drop (j + 1)) = putR (pk, pv, pt) false l) := Lib.hid (by rw [← hp.out, Hst.out]; simp [he])
          clear Hst hp he
          go_wp2_with fail
          go_quiet (fail)
          go_wp2_with fail
          go_quiet (fail)
          have e0 := (Hcc.out wr Hbel.out).1
          have e1 := (Hcc.out wr Hbel.out).2.1
          have e2 := (Hcc.out wr Hbel.out).2.2
          go_wp2_with (at_builtin; refine append_pairs rfl _ _ rfl (w.heap.size + 1) _ (left) rfl (World.ownsRow.alloc (owns_below Hown.out (below_drewN _ _)) _) _ [(xk, xv, xt)] rfl (one_pairs (xk, xv, xt) hxs.out) (by simp only [List.length_cons, List.length_nil]; omega) (by simp; omega) ?_; intro v1 w1 hown hbel)
          have Ho1 := Lib.hid hown
          have Hb1 : Hid (Below (w.heap.size + 1) W1 w1) := Lib.hid ((Below.alloc (Hbel.out.trans (below_drewN _ _)) (by first | omega | (simp; omega)) _).trans hbel)
          have hs1 := Hb1.out.size
          rw [HW1.out] at hs1
          clear hown hbel
          go_wp2
          go_roundw
          case rel => exact ⟨j + 1, left ++ [(xk, xv, xt)], true, by omega, by go_num, rfl, Ho1.out, by first | omega | (simp only [List.length_append, List.length_cons, List.length_nil]; omega), (fun h => by cases h), Hb1.out, Hn⟩
          case measure => simp [intOf]; omega
      | false =>
        cases hge : Op.bytesLess xk pk with
        | true =>
          have he : xk ≠ pk := less_ne hge
          have hq : (xk == pk) = false := by simpa using he
          have hq2 : (pk == xk) = false := by simpa using (fun e => he e.symm : ¬ pk = xk)
          have hq3 : Op.bytesLess pk xk = false := less_asymm hge
          have Hn : Hid ((left ++ [(xk, xv, xt)]) ++ putR (pk, pv, pt) false (l.drop (j + 1)) = putR (pk, pv, pt) false l) := Lib.hid (by rw [← hp.out, Hst.out]; simp [hge, he])
          clear Hst hp he
          have hl2 := hld rfl
          go_wp2_with fail
          go_quiet (fail)
          go_wp2_with fail
          go_quiet (fail)
          have e0 := (Hcc.out wr Hbel.out).1
          have e1 := (Hcc.out wr Hbel.out).2.1
          have e2 := (Hcc.out wr Hbel.out).2.2
          go_wp2_with (at_builtin; refine append_pairs rfl _ _ rfl (w.heap.size + 1) _ (left) rfl (World.ownsRow.alloc (owns_below Hown.out (below_drewN _ _)) _) _ [(xk, xv, xt)] rfl (one_pairs (xk, xv, xt) hxs.out) (by simp only [List.length_cons, List.length_nil]; omega) (by simp; omega) ?_; intro v1 w1 hown hbel)
          have Ho1 := Lib.hid hown
          have Hb1 : Hid (Below (w.heap.size + 1) W1 w1) := Lib.hid ((Below.alloc (Hbel.out.trans (below_drewN _ _)) (by first | omega | (simp; omega)) _).trans hbel)
          have hs1 := Hb1.out.size
          rw [HW1.out] at hs1
          clear hown hbel
          go_wp2
          go_roundw
          case rel => exact ⟨j + 1, left ++ [(xk, xv, xt)], false, by omega, by go_num, rfl, Ho1.out, by first | omega | (simp only [List.length_append, List.length_cons, List.length_nil]; omega), (fun _ => by simp only [List.length_append, List.length_cons, List.length_nil]; omega), Hb1.out, Hn⟩
          case measure => simp [intOf]; omega
        | false =>
          by_cases he : xk = pk
          · have hq : (xk == pk) = true := by simpa using he
            have hq2 : (pk == xk) = true := by simpa using he.symm
            have Hn : Hid ((left ++ [(pk, pv, pt)]) ++ putR (pk, pv, pt) true (l.drop (j + 1)) = putR (pk, pv, pt) false l) := Lib.hid (by rw [← hp.out, Hst.out]; simp [he, less_irrefl])
            clear Hst hp he
            have hl2 := hld rfl
            go_wp2_with fail
            go_quiet (fail)
            have y0 := (Hbb.out _ (Hbel.out.trans (below_drewN wr nq))).c0 0 _ rfl
            have y1 := (Hbb.out _ (Hbel.out.trans (below_drewN wr nq))).c0 1 _ rfl
            have y2 := (Hbb.out _ (Hbel.out.trans (below_drewN wr nq))).c0 2 _ rfl
            go_wp2_with (at_builtin; refine append_pairs rfl _ _ rfl (w.heap.size + 1) _ (left) rfl (World.ownsRow.alloc (owns_below Hown.out (below_drewN _ _)) _) _ [(pk, pv, pt)] rfl (one_pairs (pk, pv, pt) Hps.out) (by simp only [List.length_cons, List.length_nil]; omega) (by simp; omega) ?_; intro v1 w1 hown hbel)
            have Ho1 := Lib.hid hown
            have Hb1 : Hid (Below (w.heap.size + 1) W1 w1) := Lib.hid ((Below.alloc (Hbel.out.trans (below_drewN _ _)) (by first | omega | (simp; omega)) _).trans hbel)
            have hs1 := Hb1.out.size
            rw [HW1.out] at hs1
            clear hown hbel
            obtain ⟨e0, e1, e2⟩ := Hcc.out _ Hb1.out
            have f0 := (Hbb.out _ Hb1.out).c0 0 _ rfl
            have a1 : ∀ n, (w1.drewN n).cell? ⟨b, off + j * 3, none⟩ = some (.string (Str xk)) := fun n => e0
            have b1 : ∀ n, (w1.drewN n).cell? ⟨w.heap.size, 0, none⟩ = some (.string (Str pk)) := fun n => f0
            clear e0 e1 e2 f0 y0 y1 y2
            go_wp2_with fail
            go_quiet (fail)
            go_wp2
            go_roundw
            case rel => exact ⟨j + 1, left ++ [(pk, pv, pt)], true, by omega, by go_num, rfl, (owns_below Ho1.out (below_drewN _ _)), by first | omega | (simp only [List.length_append, List.length_cons, List.length_nil]; omega), (fun h => by cases h), (Hb1.out.trans (below_drewN _ _)), Hn⟩
            case measure => simp [intOf]; omega
          · have hq : (xk == pk) = false := by simpa using he
            have hq3 : Op.bytesLess pk xk = true := by
              rcases ne_less he with h | h
              · rw [hge] at h; cases h
              · exact h
            have Hn : Hid ((left ++ [(pk, pv, pt)] ++ [(xk, xv, xt)]) ++ putR (pk, pv, pt) true (l.drop (j + 1)) = putR (pk, pv, pt) false l) := Lib.hid (by rw [← hp.out, Hst.out]; simp [hge, he])
            clear Hst hp he
            have hl2 := hld rfl
            go_wp2_with fail
            go_quiet (fail)
            have y0 := (Hbb.out _ (Hbel.out.trans (below_drewN wr nq))).c0 0 _ rfl
            have y1 := (Hbb.out _ (Hbel.out.trans (below_drewN wr nq))).c0 1 _ rfl
            have y2 := (Hbb.out _ (Hbel.out.trans (below_drewN wr nq))).c0 2 _ rfl
            go_wp2_with (at_builtin; refine append_pairs rfl _ _ rfl (w.heap.size + 1) _ (left) rfl (World.ownsRow.alloc (owns_below Hown.out (below_drewN _ _)) _) _ [(pk, pv, pt)] rfl (one_pairs (pk, pv, pt) Hps.out) (by simp only [List.length_cons, List.length_nil]; omega) (by simp; omega) ?_; intro v1 w1 hown hbel)
            have Ho1 := Lib.hid hown
            have Hb1 : Hid (Below (w.heap.size + 1) W1 w1) := Lib.hid ((Below.alloc (Hbel.out.trans (below_drewN _ _)) (by first | omega | (simp; omega)) _).trans hbel)
            have hs1 := Hb1.out.size
            rw [HW1.out] at hs1
            clear hown hbel
            obtain ⟨e0, e1, e2⟩ := Hcc.out _ Hb1.out
            have f0 := (Hbb.out _ Hb1.out).c0 0 _ rfl
            have a1 : ∀ n, (w1.drewN n).cell? ⟨b, off + j * 3, none⟩ = some (.string (Str xk)) := fun n => e0
            have b1 : ∀ n, (w1.drewN n).cell? ⟨w.heap.size, 0, none⟩ = some (.string (Str pk)) := fun n => f0
            clear e0 e1 e2 f0 y0 y1 y2
            go_wp2_with fail
            go_quiet (fail)
            have e0 := (Hcc.out w1 Hb1.out).1
            have e1 := (Hcc.out w1 Hb1.out).2.1
            have e2 := (Hcc.out w1 Hb1.out).2.2
            go_wp2_with (at_builtin; refine append_pairs rfl _ _ rfl (w.heap.size + 1) _ (left ++ [(pk, pv, pt)]) rfl (World.ownsRow.alloc (owns_below Ho1.out (below_drewN _ _)) _) _ [(xk, xv, xt)] rfl (one_pairs (xk, xv, xt) hxs.out) (by simp only [List.length_append, List.length_cons, List.length_nil]; omega) (by simp; omega) ?_; intro v2 w2 hown hbel)
            have Ho2 := Lib.hid hown
            have Hb2 : Hid (Below (w.heap.size + 1) W1 w2) := Lib.hid ((Below.alloc (Hb1.out.trans (below_drewN _ _)) (by first | omega | (simp; omega)) _).trans hbel)
            have hs2 := Hb2.out.size
            rw [HW1.out] at hs2
            clear hown hbel
            go_wp2
            go_roundw
            case rel => exact ⟨j + 1, left ++ [(pk, pv, pt)] ++ [(xk, xv, xt)], true, by omega, by go_num, rfl, Ho2.out, by first | omega | (simp only [List.length_append, List.length_cons, List.length_nil]; omega), (fun h => by cases h), Hb2.out, Hn⟩
            case measure => simp [intOf]; omega
    · obtain rfl : j = l.length := by omega
      rw [List.drop_length] at hp
      cases d with
      | true =>
        have Hn : Hid (left = putR (pk, pv, pt) false l) := Lib.hid (by rw [← hp.out]; simp [putR])
        clear hp hbel hbw
        go_wp2
        go_ret
        rw [← Hn.out] at Hsm ⊢
        exact ⟨_, rfl, owns_lower Hown.out (Nat.le_succ _), IsPairs.owned Hown.out Hsm.out, Hbw.out⟩
      | false =>
        have Hn : Hid (left ++ [(pk, pv, pt)] = putR (pk, pv, pt) false l) := Lib.hid (by rw [← hp.out]; simp [putR])
        clear hp hbel hbw
        go_wp2_with (at_builtin; refine append_pairs rfl _ _ rfl (w.heap.size + 1) _ (left) rfl (World.ownsRow.alloc Hown.out _) _ [(pk, pv, pt)] rfl (one_pairs (pk, pv, pt) Hps.out) (by simp only [List.length_cons, List.length_nil]; omega) (by simp; omega) ?_; intro v1 w1 hown hbel)
        have Ho1 := Lib.hid hown
        have Hb1 : Hid (Below (w.heap.size + 1) W1 w1) := Lib.hid ((Below.alloc Hbel.out (by first | omega | (simp; omega)) _).trans hbel)
        have hs1 := Hb1.out.size
        rw [HW1.out] at hs1
        clear hown hbel
        have hbw1 := Lib.hid ((below_box (w := w) (.cells #[.string (Str pk), .string (Str pv), .int .i64 pt] 91)).trans (Hb1.out.mono (by omega)))
        go_wp2
        go_ret
        rw [← Hn.out] at Hsm ⊢
        exact ⟨_, rfl, owns_lower Ho1.out (Nat.le_succ _), IsPairs.owned Ho1.out Hsm.out, hbw1.out⟩


end Go.Proofs.YtaafckefeejjpaaGreat
