/-
  Walks of reference 04, for the laws of package trace: Has, Range, Drop, Union.
-/
import Derived.Test.YthncnijkgkeohaaGreatII
namespace Go.Proofs.YthncnijkgkeohaaGreat
namespace T4
open Go.RowKit Go.Sort
set_option linter.unusedVariables false

set_option maxHeartbeats 1000000 in
theorem rhas_w (lo hi k : Bs) (w : World) : Calls Tryz.prog 56 #[.agg #[.string (Str lo), .string (Str hi)], .string (Str k)] w fun e w' => e = .returned (.bool (hasB (lo, hi) k)) ∧ Grown w w' := by
  have H : Hid (hasB (lo, hi) k = (!Op.bytesLess k lo && (hi.isEmpty || Op.bytesLess k hi))) := rfl
  cases h1 : Op.bytesLess k lo <;> cases h2 : hi.isEmpty <;> cases h3 : Op.bytesLess k hi
  all_goals
    rw [h1, h2, h3] at H
    go_enter Tryz.func56, Tryz.ntmps56
    go_wp2
    go_ret
    exact ⟨ret_bool (by rw [H.out]; rfl), (Grown.refl w).alloc _⟩

set_option linter.unusedVariables false
theorem filter_take (f : Pr → Bool) (l : List Pr) (k : Nat) (h : k < l.length) : (l.take (k + 1)).filter f = (l.take k).filter f ++ if f l[k] then [l[k]] else [] := by
  rw [List.take_add_one, List.getElem?_eq_getElem h, List.filter_append]
  simp only [Option.toList, List.filter_cons, List.filter_nil]

set_option maxRecDepth 100000 in
set_option maxHeartbeats 4000000 in
theorem rrange_w (v : Value) (l : List Pr) (lo hi : Bs) (w : World) (h : IsPairs w v l) (hl : l.length ≤ 500000000) :
    Calls Tryz.prog 27 #[v, .agg #[.string (Str lo), .string (Str hi)]] w (OwnOut w.heap.size w (rangeS (lo, hi) l)) := by
  have mixed := mixedA
  obtain ⟨b, off, cap, p, rfl, hlc, hcm, hpp, hcc⟩ := h.form
  unfold maxLen at hcm
  have HP := Lib.hid hpp
  have HC := Lib.hid hcc
  have Hsm := Lib.hid h.small
  clear h hpp hcc
  have HS : Hid (Blk (w.alloc (.cells #[.string (Str lo), .string (Str hi)] 29)) w.heap.size 29 #[.string (Str lo), .string (Str hi)]) := Lib.hid (Blk.new _ _ _)
  have Hown0 := Lib.hid (own_empty (w.alloc (.cells #[.string (Str lo), .string (Str hi)] 29)) (w.heap.size + 1) (by simp))
  go_enter Tryz.func27, Tryz.ntmps27
  go_wp2
  go_loopw [5, 6] (fun o i wr => ∃ j : Nat, j ≤ l.length ∧ i = .int .i64 j ∧ wr.ownsRow (w.heap.size + 1) 33 3 o (rangeS (lo, hi) (l.take j)).length ((rangeS (lo, hi) (l.take j)).flatMap encP) ∧ Below (w.heap.size + 1) (w.alloc (.cells #[.string (Str lo), .string (Str hi)] 29)) wr) (fun _ i _ => l.length - (intOf i).toNat)
  case atStart => exact ⟨0, Nat.zero_le _, rfl, by have h := Hown0.out; simp only [World.size_alloc] at h; exact h, (Below.refl _ _).alloc (by simp) _⟩
  case round =>
    clear Hown0
    obtain ⟨j, hj, rfl, hown, hbel⟩ := hrel
    have hsz := hbel.size
    simp only [World.size_alloc] at hsz
    have Hown := Lib.hid hown
    have Hbel := Lib.hid hbel
    have hbw : Below w.heap.size w wr := (below_box _).trans (hbel.mono (by omega))
    have Hbw := Lib.hid hbw
    clear hown
    by_cases hlt : j < l.length
    · obtain ⟨rfl, c0, c1, c2⟩ := HC.out j hlt
      have hgl := (HP.out (by rintro rfl; simp at hlt)).2
      have H1 := Lib.hid (filter_take (fun x => hasB (lo, hi) x.1) l j hlt)
      have hlen : (rangeS (lo, hi) (l.take j)).length ≤ 500000000 := Nat.le_trans (List.length_filter_le _ _) (by rw [List.length_take]; omega)
      have hltz : (j : Int) < (l.length : Int) := by omega
      have c0 := (hbw.cell (p := ⟨b, off + j * 3, none⟩) hgl).trans c0
      have c1 := (hbw.cell (p := ⟨b, off + j * 3 + 1, none⟩) hgl).trans c1
      have c2 := (hbw.cell (p := ⟨b, off + j * 3 + 2, none⟩) hgl).trans c2
      have hxs := Lib.hid (Hsm.out l[j] (List.getElem_mem hlt))
      have hgw : b < wr.heap.size := by omega
      have hbk := HS.out.below hbel (by omega)
      have y0 := hbk.c 0 _ rfl
      have y1 := hbk.c 1 _ rfl
      clear hbel hbw hbk
      generalize l[j] = x at *
      obtain ⟨xk, xv, xt⟩ := x
      simp only at c0 c1 c2 H1
      have z0 := fun n os => cell_grown (n := n) (os := os) (by exact hgw) c0
      have z1 := fun n os => cell_grown (n := n) (os := os) (by exact hgw) c1
      have z2 := fun n os => cell_grown (n := n) (os := os) (by exact hgw) c2
      have Hh := Lib.hid (fun wx => rhas_w lo hi xk wx)
      change Hid (rangeS (lo, hi) (l.take (j + 1)) = rangeS (lo, hi) (l.take j) ++ _) at H1
      clear c0 c1 c2
      generalize hB : hasB (lo, hi) xk = hb at *
      cases hb with
      | false =>
        have Hn2 : Hid (rangeS (lo, hi) (l.take (j + 1)) = rangeS (lo, hi) (l.take j)) := Lib.hid (by rw [H1.out]; simp)
        clear H1 hB
        go_wp2_with fail
        go_quiet_grown ((go_at_call 56; refine calls_grown (Hh.out _)))
        go_wp2
        go_roundw
        case rel => exact ⟨j + 1, by omega, by go_num, by rw [Hn2.out]; exact owns_below Hown.out (below_grown _ _ _ (Nat.le_refl _)), Hbel.out.trans (below_grown _ _ _ hsz)⟩
        case measure => simp [intOf]; omega
      | true =>
        have Hn2 : Hid (rangeS (lo, hi) (l.take (j + 1)) = rangeS (lo, hi) (l.take j) ++ [(xk, xv, xt)]) := Lib.hid (by rw [H1.out]; simp)
        clear H1 hB
        generalize rangeS (lo, hi) (l.take j) = left at *
        go_wp2_with fail
        go_quiet_grown ((go_at_call 56; refine calls_grown (Hh.out _)))
        have hg1 := below_grown wr nq osq (Nat.le_refl _)
        have Ho1 := Lib.hid (owns_below Hown.out hg1)
        have Hb1 := Lib.hid (Hbel.out.trans (below_grown wr nq osq hsz))
        have c0 := z0 nq osq
        have c1 := z1 nq osq
        have c2 := z2 nq osq
        have hs1 := hg1.size
        clear z0 z1 z2 y0 y1 hg1
        generalize grow (wr.drewN nq) osq = wg at *
        go_wp2_with (at_builtin; refine append_pairs rfl _ _ rfl (w.heap.size + 1) _ left rfl (Ho1.out.alloc _) _ [(xk, xv, xt)] rfl (one_pairs (xk, xv, xt) hxs.out) (by simp only [List.length_cons, List.length_nil]; omega) (by simp; omega) ?_; intro v2 w2 hown2 hbel2)
        have Hown2 := Lib.hid hown2
        have Hbel2 : Hid (Below (w.heap.size + 1) (w.alloc (.cells #[.string (Str lo), .string (Str hi)] 29)) w2) := Lib.hid ((Hb1.out.alloc (by omega) _).trans hbel2)
        clear hown2 hbel2
        go_wp2
        go_roundw
        case rel => exact ⟨j + 1, by omega, by go_num, by rw [Hn2.out]; exact Hown2.out, Hbel2.out⟩
        case measure => simp [intOf]; omega
    · obtain rfl : j = l.length := by omega
      rw [List.take_length] at Hown
      clear hbel hbw
      go_wp2
      go_ret
      exact ⟨_, rfl, owns_lower Hown.out (Nat.le_succ _), IsPairs.owned Hown.out (fun x hx => Hsm.out x (List.mem_filter.1 hx).1), Hbw.out⟩


set_option maxRecDepth 100000 in
set_option maxHeartbeats 4000000 in
theorem rdrop_w (v : Value) (l : List Pr) (lo hi : Bs) (w : World) (h : IsPairs w v l) (hl : l.length ≤ 500000000) :
    Calls Tryz.prog 26 #[v, .agg #[.string (Str lo), .string (Str hi)]] w (OwnOut w.heap.size w (dropS (lo, hi) l)) := by
  have mixed := mixedA
  obtain ⟨b, off, cap, p, rfl, hlc, hcm, hpp, hcc⟩ := h.form
  unfold maxLen at hcm
  have HP := Lib.hid hpp
  have HC := Lib.hid hcc
  have Hsm := Lib.hid h.small
  clear h hpp hcc
  have HS : Hid (Blk (w.alloc (.cells #[.string (Str lo), .string (Str hi)] 29)) w.heap.size 29 #[.string (Str lo), .string (Str hi)]) := Lib.hid (Blk.new _ _ _)
  have Hown0 := Lib.hid (own_empty (w.alloc (.cells #[.string (Str lo), .string (Str hi)] 29)) (w.heap.size + 1) (by simp))
  go_enter Tryz.func26, Tryz.ntmps26
  go_wp2
  go_loopw [5, 6] (fun o i wr => ∃ j : Nat, j ≤ l.length ∧ i = .int .i64 j ∧ wr.ownsRow (w.heap.size + 1) 33 3 o (dropS (lo, hi) (l.take j)).length ((dropS (lo, hi) (l.take j)).flatMap encP) ∧ Below (w.heap.size + 1) (w.alloc (.cells #[.string (Str lo), .string (Str hi)] 29)) wr) (fun _ i _ => l.length - (intOf i).toNat)
  case atStart => exact ⟨0, Nat.zero_le _, rfl, by have h := Hown0.out; simp only [World.size_alloc] at h; exact h, (Below.refl _ _).alloc (by simp) _⟩
  case round =>
    clear Hown0
    obtain ⟨j, hj, rfl, hown, hbel⟩ := hrel
    have hsz := hbel.size
    simp only [World.size_alloc] at hsz
    have Hown := Lib.hid hown
    have Hbel := Lib.hid hbel
    have hbw : Below w.heap.size w wr := (below_box _).trans (hbel.mono (by omega))
    have Hbw := Lib.hid hbw
    clear hown
    by_cases hlt : j < l.length
    · obtain ⟨rfl, c0, c1, c2⟩ := HC.out j hlt
      have hgl := (HP.out (by rintro rfl; simp at hlt)).2
      have H1 := Lib.hid (filter_take (fun x => !hasB (lo, hi) x.1) l j hlt)
      have hlen : (dropS (lo, hi) (l.take j)).length ≤ 500000000 := Nat.le_trans (List.length_filter_le _ _) (by rw [List.length_take]; omega)
      have hltz : (j : Int) < (l.length : Int) := by omega
      have c0 := (hbw.cell (p := ⟨b, off + j * 3, none⟩) hgl).trans c0
      have c1 := (hbw.cell (p := ⟨b, off + j * 3 + 1, none⟩) hgl).trans c1
      have c2 := (hbw.cell (p := ⟨b, off + j * 3 + 2, none⟩) hgl).trans c2
      have hxs := Lib.hid (Hsm.out l[j] (List.getElem_mem hlt))
      have hgw : b < wr.heap.size := by omega
      have hbk := HS.out.below hbel (by omega)
      have y0 := hbk.c 0 _ rfl
      have y1 := hbk.c 1 _ rfl
      clear hbel hbw hbk
      generalize l[j] = x at *
      obtain ⟨xk, xv, xt⟩ := x
      simp only at c0 c1 c2 H1
      have z0 := fun n os => cell_grown (n := n) (os := os) (by exact hgw) c0
      have z1 := fun n os => cell_grown (n := n) (os := os) (by exact hgw) c1
      have z2 := fun n os => cell_grown (n := n) (os := os) (by exact hgw) c2
      have Hh := Lib.hid (fun wx => rhas_w lo hi xk wx)
      change Hid (dropS (lo, hi) (l.take (j + 1)) = dropS (lo, hi) (l.take j) ++ _) at H1
      clear c0 c1 c2
      generalize hB : hasB (lo, hi) xk = hb at *
      cases hb with
      | true =>
        have Hn2 : Hid (dropS (lo, hi) (l.take (j + 1)) = dropS (lo, hi) (l.take j)) := Lib.hid (by rw [H1.out]; simp)
        clear H1 hB
        go_wp2_with fail
        go_quiet_grown ((go_at_call 56; refine calls_grown (Hh.out _)))
        go_wp2
        go_roundw
        case rel => exact ⟨j + 1, by omega, by go_num, by rw [Hn2.out]; exact owns_below Hown.out (below_grown _ _ _ (Nat.le_refl _)), Hbel.out.trans (below_grown _ _ _ hsz)⟩
        case measure => simp [intOf]; omega
      | false =>
        have Hn2 : Hid (dropS (lo, hi) (l.take (j + 1)) = dropS (lo, hi) (l.take j) ++ [(xk, xv, xt)]) := Lib.hid (by rw [H1.out]; simp)
        clear H1 hB
        generalize dropS (lo, hi) (l.take j) = left at *
        go_wp2_with fail
        go_quiet_grown ((go_at_call 56; refine calls_grown (Hh.out _)))
        have hg1 := below_grown wr nq osq (Nat.le_refl _)
        have Ho1 := Lib.hid (owns_below Hown.out hg1)
        have Hb1 := Lib.hid (Hbel.out.trans (below_grown wr nq osq hsz))
        have c0 := z0 nq osq
        have c1 := z1 nq osq
        have c2 := z2 nq osq
        have hs1 := hg1.size
        clear z0 z1 z2 y0 y1 hg1
        generalize grow (wr.drewN nq) osq = wg at *
        go_wp2_with (at_builtin; refine append_pairs rfl _ _ rfl (w.heap.size + 1) _ left rfl (Ho1.out.alloc _) _ [(xk, xv, xt)] rfl (one_pairs (xk, xv, xt) hxs.out) (by simp only [List.length_cons, List.length_nil]; omega) (by simp; omega) ?_; intro v2 w2 hown2 hbel2)
        have Hown2 := Lib.hid hown2
        have Hbel2 : Hid (Below (w.heap.size + 1) (w.alloc (.cells #[.string (Str lo), .string (Str hi)] 29)) w2) := Lib.hid ((Hb1.out.alloc (by omega) _).trans hbel2)
        clear hown2 hbel2
        go_wp2
        go_roundw
        case rel => exact ⟨j + 1, by omega, by go_num, by rw [Hn2.out]; exact Hown2.out, Hbel2.out⟩
        case measure => simp [intOf]; omega
    · obtain rfl : j = l.length := by omega
      rw [List.take_length] at Hown
      clear hbel hbw
      go_wp2
      go_ret
      exact ⟨_, rfl, owns_lower Hown.out (Nat.le_succ _), IsPairs.owned Hown.out (fun x hx => Hsm.out x (List.mem_filter.1 hx).1), Hbw.out⟩

set_option linter.unusedVariables false
theorem union_take (a b : List Pr) (j : Nat) (h : j < b.length) : unionS a (b.take (j + 1)) = putS b[j] (unionS a (b.take j)) := by
  rw [List.take_add_one, List.getElem?_eq_getElem h]; exact union_snoc _ _ _

set_option maxRecDepth 100000 in
set_option maxHeartbeats 4000000 in
theorem runion_w (va vb : Value) (a b : List Pr) (w : World) (ha : IsPairs w va a) (hb : IsPairs w vb b) (sa : Srt a) (la : a.length ≤ 200000000) (lb : b.length ≤ 200000000) :
    Calls Tryz.prog 25 #[va, vb] w (OwnOut w.heap.size w (unionS a b)) := by
  obtain ⟨-, -, capa, pa, hva, hlca, hcma, -⟩ := ha.form
  obtain ⟨bb, off, cap, p, rfl, hlc, hcm, hpp, hcc⟩ := hb.form
  unfold maxLen at hcma hcm
  have HP := Lib.hid hpp
  have HC := Lib.hid hcc
  have HA := Lib.hid ha
  have Hbs := Lib.hid hb.small
  have Has := Lib.hid ha.small
  have Hsrt := Lib.hid sa
  clear ha hb hpp hcc sa
  subst hva
  go_enter Tryz.func25, Tryz.ntmps25
  go_wp2_with (at_builtin; refine append_pairs rfl _ _ rfl w.heap.size _ [] rfl (own_empty w w.heap.size (Nat.le_refl _)) _ a rfl (HA.out.below (below_box _)) (by simp; omega) (by simp) ?_; intro v1 w1 hown hbel)
  have Hown := Lib.hid hown
  have Hbel : Hid (Below w.heap.size w w1) := Lib.hid ((below_box _).trans hbel)
  clear hown hbel
  go_wp2
  go_loopw [5, 6] (fun o i wr => ∃ j : Nat, j ≤ b.length ∧ i = .int .i64 j ∧ wr.ownsRow w.heap.size 33 3 o (unionS a (b.take j)).length ((unionS a (b.take j)).flatMap encP) ∧ IsPairs wr o (unionS a (b.take j)) ∧ Below w.heap.size w wr) (fun _ i _ => b.length - (intOf i).toNat)
  case atStart => exact ⟨0, Nat.zero_le _, rfl, Hown.out, IsPairs.owned Hown.out Has.out, Hbel.out⟩
  case round =>
    clear Hown Hbel
    obtain ⟨j, hj, rfl, hown, hpr, hbel⟩ := hrel
    have hsz := hbel.size
    have Hown := Lib.hid hown
    have Hbel := Lib.hid hbel
    have Hpr := Lib.hid hpr
    clear hown hpr
    by_cases hlt : j < b.length
    · obtain ⟨rfl, hc⟩ := HC.out j hlt
      have hgl := (HP.out (by rintro rfl; simp at hlt)).2
      have hltz : (j : Int) < (b.length : Int) := by omega
      obtain ⟨c0, c1, c2⟩ := cells_in hbel hgl hc
      have hxs := Lib.hid (Hbs.out b[j] (List.getElem_mem hlt))
      have Htk := Lib.hid (union_take a b j hlt)
      have hul := union_length a (b.take j)
      have htl : (b.take j).length = j := by rw [List.length_take]; omega
      have hul2 : (unionS a (b.take j)).length ≤ 500000000 := by omega
      have Hs2 := Lib.hid (srt_union Hsrt.out (b.take j))
      clear hul htl hbel hc
      generalize b[j] = x at *
      obtain ⟨xk, xv, xt⟩ := x
      simp only at c0 c1 c2 Htk
      generalize unionS a (b.take j) = u at *
      go_wp2_with fail
      refine (rput_w _ u xk xv xt _ Hpr.out Hs2.out hul2 hxs.out).mono ?_
      intro e w2 h2
      have H2 := Lib.hid (h2.lower Hbel.out hsz)
      obtain ⟨v', rfl, -⟩ := h2
      go_wp2
      go_roundw
      case rel =>
        obtain ⟨v2, e2, h3, h4, h5⟩ := H2.out
        injection e2 with e2
        subst e2
        exact ⟨j + 1, by omega, by go_num, by rw [Htk.out]; exact h3, by rw [Htk.out]; exact h4, h5⟩
      case measure => simp [intOf]; omega
    · obtain rfl : j = b.length := by omega
      rw [List.take_length] at Hown Hpr
      clear hbel
      go_wp2
      go_ret
      exact ⟨_, rfl, Hown.out, Hpr.out, Hbel.out⟩

end T4
end Go.Proofs.YthncnijkgkeohaaGreat
