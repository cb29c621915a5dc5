/-
  Walks: reference 04's Range, and the law's sources.
-/
import Derived.Test.YtfpcaoacbjhkgaaGreatUI
import Derived.Test.YtfpcaoacbjhkgaaGreatGAB
namespace Go.Proofs.YtfpcaoacbjhkgaaGreat
namespace T4
open Go.RowKit Go.Sort
set_option linter.unusedVariables false
set_option maxHeartbeats 1000000 in
theorem rhas_w (lo hi k : Bs) (w : World) : Calls Tryz.prog 106 #[.agg #[.string (Str lo), .string (Str hi)], .string (Str k)] w fun e w' => e = .returned (.bool (hasB (lo, hi) k)) ∧ Grown w w' := by
  have H : Hid (hasB (lo, hi) k = (!Op.bytesLess k lo && (hi.isEmpty || Op.bytesLess k hi))) := rfl
  cases h1 : Op.bytesLess k lo <;> cases h2 : hi.isEmpty <;> cases h3 : Op.bytesLess k hi
  all_goals
    rw [h1, h2, h3] at H
    go_enter Tryz.func106, Tryz.ntmps106
    go_wp2
    go_ret
    exact ⟨ret_bool (by rw [H.out]; rfl), (Grown.refl w).alloc _⟩

theorem filter_take (f : Pr → Bool) (l : List Pr) (k : Nat) (h : k < l.length) : (l.take (k + 1)).filter f = (l.take k).filter f ++ if f l[k] then [l[k]] else [] := by
  rw [List.take_add_one, List.getElem?_eq_getElem h, List.filter_append]
  simp only [Option.toList, List.filter_cons, List.filter_nil]
set_option maxRecDepth 100000 in
set_option maxHeartbeats 4000000 in
theorem rrange_w (v : Value) (l : List Pr) (lo hi : Bs) (w : World) (h : IsPairs w v l) (hl : l.length ≤ 500000000) :
    Calls Tryz.prog 71 #[v, .agg #[.string (Str lo), .string (Str hi)]] w (OwnOut w.heap.size w (rangeS (lo, hi) l)) := by
  have mixed := mixedA
  obtain ⟨b, off, cap, p, rfl, hlc, hcm, hpp, hcc⟩ := h.form
  unfold maxLen at hcm
  have HP := Lib.hid hpp
  have HC := Lib.hid hcc
  have Hsm := Lib.hid h.small
  clear h hpp hcc
  have HS : Hid (Blk (w.alloc (.cells #[.string (Str lo), .string (Str hi)] 38)) w.heap.size 38 #[.string (Str lo), .string (Str hi)]) := Lib.hid (Blk.new _ _ _)
  have Hown0 := Lib.hid (own_empty (w.alloc (.cells #[.string (Str lo), .string (Str hi)] 38)) (w.heap.size + 1) (by simp))
  go_enter Tryz.func71, Tryz.ntmps71
  go_wp2
  go_loopw [5, 6] (fun o i wr => ∃ j : Nat, j ≤ l.length ∧ i = .int .i64 j ∧ wr.ownsRow (w.heap.size + 1) 71 3 o (rangeS (lo, hi) (l.take j)).length ((rangeS (lo, hi) (l.take j)).flatMap encP) ∧ Below (w.heap.size + 1) (w.alloc (.cells #[.string (Str lo), .string (Str hi)] 38)) wr) (fun _ i _ => l.length - (intOf i).toNat)
  case atStart => exact ⟨0, Nat.zero_le _, rfl, by have h := Hown0.out; simp only [World.size_alloc] at h; exact h, (Below.refl _ _).alloc (by simp) _⟩
  case round =>
    clear Hown0
    obtain ⟨j, hj, rfl, hown, hbel⟩ := hrel
    have hsz := hbel.size
    simp only [World.size_alloc] at hsz
    have Hown := Lib.hid hown
    have Hbel := Lib.hid hbel
    have hbw : Below w.heap.size w wr := (below_box _).trans (hbel.mono (by omega))
    have Hbw := Lib.hid hbw
    clear hown
    by_cases hlt : j < l.length
    · obtain ⟨rfl, c0, c1, c2⟩ := HC.out j hlt
      have hgl := (HP.out (by rintro rfl; simp at hlt)).2
      have H1 := Lib.hid (filter_take (fun x => hasB (lo, hi) x.1) l j hlt)
      have hlen : (rangeS (lo, hi) (l.take j)).length ≤ 500000000 := Nat.le_trans (List.length_filter_le _ _) (by rw [List.length_take]; omega)
      have hltz : (j : Int) < (l.length : Int) := by omega
      have c0 := (hbw.cell (p := ⟨b, off + j * 3, none⟩) hgl).trans c0
      have c1 := (hbw.cell (p := ⟨b, off + j * 3 + 1, none⟩) hgl).trans c1
      have c2 := (hbw.cell (p := ⟨b, off + j * 3 + 2, none⟩) hgl).trans c2
      have hxs := Lib.hid (Hsm.out l[j] (List.getElem_mem hlt))
      have hgw : b < wr.heap.size := by omega
      have hbk := HS.out.below hbel (by omega)
      have y0 := hbk.c 0 _ rfl
      have y1 := hbk.c 1 _ rfl
      clear hbel hbw hbk
      generalize l[j] = x at *
      obtain ⟨xk, xv, xt⟩ := x
      simp only at c0 c1 c2 H1
      have z0 := fun n os => cell_grown (n := n) (os := os) (by exact hgw) c0
      have z1 := fun n os => cell_grown (n := n) (os := os) (by exact hgw) c1
      have z2 := fun n os => cell_grown (n := n) (os := os) (by exact hgw) c2
      have Hh := Lib.hid (fun wx => rhas_w lo hi xk wx)
      change Hid (rangeS (lo, hi) (l.take (j + 1)) = rangeS (lo, hi) (l.take j) ++ _) at H1
      clear c0 c1 c2
      generalize hB : hasB (lo, hi) xk = hb at *
      cases hb with
      | false =>
        have Hn2 : Hid (rangeS (lo, hi) (l.take (j + 1)) = rangeS (lo, hi) (l.take j)) := Lib.hid (by rw [H1.out]; simp)
        clear H1 hB
        go_wp2_with fail
        go_quiet_grown ((go_at_call 106; refine calls_grown (Hh.out _)))
        go_wp2
        go_roundw
        case rel => exact ⟨j + 1, by omega, by go_num, by rw [Hn2.out]; exact owns_below Hown.out (below_grown _ _ _ (Nat.le_refl _)), Hbel.out.trans (below_grown _ _ _ hsz)⟩
        case measure => simp [intOf]; omega
      | true =>
        have Hn2 : Hid (rangeS (lo, hi) (l.take (j + 1)) = rangeS (lo, hi) (l.take j) ++ [(xk, xv, xt)]) := Lib.hid (by rw [H1.out]; simp)
        clear H1 hB
        generalize rangeS (lo, hi) (l.take j) = left at *
        go_wp2_with fail
        go_quiet_grown ((go_at_call 106; refine calls_grown (Hh.out _)))
        have hg1 := below_grown wr nq osq (Nat.le_refl _)
        have Ho1 := Lib.hid (owns_below Hown.out hg1)
        have Hb1 := Lib.hid (Hbel.out.trans (below_grown wr nq osq hsz))
        have c0 := z0 nq osq
        have c1 := z1 nq osq
        have c2 := z2 nq osq
        have hs1 := hg1.size
        clear z0 z1 z2 y0 y1 hg1
        generalize grow (wr.drewN nq) osq = wg at *
        go_wp2_with (at_builtin; refine append_pairs rfl _ _ rfl (w.heap.size + 1) _ left rfl (Ho1.out.alloc _) _ [(xk, xv, xt)] rfl (one_pairs (xk, xv, xt) hxs.out) (by simp only [List.length_cons, List.length_nil]; omega) (by simp; omega) ?_; intro v2 w2 hown2 hbel2)
        have Hown2 := Lib.hid hown2
        have Hbel2 : Hid (Below (w.heap.size + 1) (w.alloc (.cells #[.string (Str lo), .string (Str hi)] 38)) w2) := Lib.hid ((Hb1.out.alloc (by omega) _).trans hbel2)
        clear hown2 hbel2
        go_wp2
        go_roundw
        case rel => exact ⟨j + 1, by omega, by go_num, by rw [Hn2.out]; exact Hown2.out, Hbel2.out⟩
        case measure => simp [intOf]; omega
    · obtain rfl : j = l.length := by omega
      rw [List.take_length] at Hown
      clear hbel hbw
      go_wp2
      go_ret
      exact ⟨_, rfl, owns_lower Hown.out (Nat.le_succ _), IsPairs.owned Hown.out (fun x hx => Hsm.out x (List.mem_filter.1 hx).1), Hbw.out⟩
end T4

open Go.RowKit Go.Sort
set_option maxRecDepth 100000 in
set_option maxHeartbeats 2000000 in
theorem source_w (v : Value) (t : List Pr) (m : Ms) (w : World) (h : IsPairs w v t) (hl : t.length ≤ 100000000) (hz : m.src.length ≤ 140737488355328) :
    Calls Tryz.prog 30 #[v, msgV m] w fun e w' => ∃ v', e = .returned v' ∧ IsPairs w' v' (sourceS m t) ∧ Below w.heap.size w w' := by
  have mixed := mixedA
  have hb1 : Below w.heap.size w (w.alloc (.cells (encM m) 40)) := below_box _
  have hn : IsPairs (w.alloc (.cells (encM m) 40)) (.slice none 0 0) [] := ⟨none, 0, rfl, Nat.le_refl _, Nat.zero_le _, fun x hx => (by cases hx), fun h => absurd rfl h⟩
  obtain ⟨a, c, rfl, -⟩ := id h
  cases hm : movesB m with
  | false =>
    rw [source_other hm]
    have h4 : ¬ m.kind = 4 := fun e => by rw [(moves_iff m).2 (.inl e)] at hm; cases hm
    have h5 : ¬ m.kind = 5 := fun e => by rw [(moves_iff m).2 (.inr e)] at hm; cases hm
    have e4 : (m.kind != 4) = true := by simpa using h4
    have e5 : (m.kind != 5) = true := by simpa using h5
    have e4' : (m.kind == 4) = false := by simpa using h4
    have e5' : (m.kind == 5) = false := by simpa using h5
    clear h4 h5 hm hl hz h
    go_enter Tryz.func30, Tryz.ntmps30
    go_wp2
    go_ret
    exact ⟨_, rfl, hn, hb1⟩
  | true =>
    rw [source_moves hm]
    have HP := Lib.hid (fun wx => rprefix_w m.src wx hz)
    have HR := Lib.hid (fun wx (hx : Below w.heap.size w wx) => T4.rrange_w (.slice a t.length c) t m.src (preT m.src) wx (h.below hx) (by omega))
    have HB := Lib.hid hb1
    have hk := (moves_iff m).1 hm
    unfold preS
    clear h hm hb1 hn hl hz
    generalize preT m.src = q at *
    rcases hk with hk | hk
    all_goals
      obtain ⟨kd, ky, va, lo, hi, sr, ds, nn⟩ := m
      dsimp only at hk HP HR HB
      subst hk
      go_enter Tryz.func30, Tryz.ntmps30
      go_wp2_with (first
        | (go_at_call 37; refine (HP.out _).mono ?_; rintro e w2 ⟨rfl, hg2⟩; have HB2 := Lib.hid (HB.out.trans (hg2.below HB.out.size)); clear hg2)
        | (go_at_call 71; refine (HR.out _ HB2.out).mono ?_; rintro e w3 ⟨v3, rfl, -, hp3, hb3⟩; have HB3 := Lib.hid (HB2.out.trans (hb3.mono HB2.out.size)); clear hb3))
      go_ret
      exact ⟨_, rfl, hp3, HB3.out⟩

end Go.Proofs.YtfpcaoacbjhkgaaGreat
