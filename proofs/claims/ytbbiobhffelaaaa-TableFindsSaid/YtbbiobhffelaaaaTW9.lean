/-
  Walks: the reference's Find, Del, Range and Drop.
-/
import Derived.Test.YtbbiobhffelaaaaTW8
namespace Go.Proofs.Ytbbiobhffelaaaa
open Go.RowKit Go.Sort
set_option linter.unusedVariables false

theorem filter_take (f : Pr → Bool) (l : List Pr) (k : Nat) (h : k < l.length) : (l.take (k + 1)).filter f = (l.take k).filter f ++ if f l[k] then [l[k]] else [] := by
  rw [List.take_add_one, List.getElem?_eq_getElem h, List.filter_append]
  simp only [Option.toList, List.filter_cons, List.filter_nil]
theorem findS_take (k : Bs) (l : List Pr) (j : Nat) (h : j < l.length) (hn : findS k (l.take j) = none) : (l[j].1 = k → findS k l = some l[j]) ∧ (l[j].1 ≠ k → findS k (l.take (j + 1)) = none) := by
  unfold findS at *
  have e : l = l.take j ++ l.drop j := (List.take_append_drop j l).symm
  constructor
  · intro hk
    rw [show List.find? (fun x => x.1 == k) l = List.find? (fun x => x.1 == k) (l.take j ++ l.drop j) from by rw [← e], List.find?_append, hn, List.drop_eq_getElem_cons h, List.find?_cons]
    simp [hk]
  · intro hk
    rw [List.take_add_one, List.getElem?_eq_getElem h, List.find?_append, hn]
    simp [hk]

set_option maxRecDepth 100000 in
set_option maxHeartbeats 2000000 in
theorem rfind_w (v : Value) (l : List Pr) (k : Bs) (w : World) (h : IsPairs w v l) (hl : l.length ≤ 100000) :
    Calls Try.prog 16 #[v, .string (Str k)] w fun e w' => e = .returned (findV l k) ∧ Below w.heap.size w w' := by
  obtain ⟨b, off, cap, p, rfl, hlc, hcm, hpp, hcc⟩ := h.form
  unfold maxLen at hcm
  have HP := Lib.hid hpp
  have HC := Lib.hid hcc
  clear h hpp hcc
  have hB : Blk (w.alloc (.cells #[.string (Str []), .string (Str []), .int .i64 0] 30)) w.heap.size 30 #[.string (Str []), .string (Str []), .int .i64 0] := Blk.new _ _ _
  have f0 := hB.free 0
  have f1 := hB.free 1
  have f2 := hB.free 2
  have d0 := hB.c0 0 _ rfl
  have d1 := hB.c0 1 _ rfl
  have d2 := hB.c0 2 _ rfl
  have HBel := Lib.hid (below_box (w := w) (.cells #[.string (Str []), .string (Str []), .int .i64 0] 30))
  clear hB
  go_enter Try.func16, Try.ntmps16
  go_wp2
  go_loop [6] (fun i => ∃ j : Nat, j ≤ l.length ∧ i = .int .i64 j ∧ Hid (findS k (l.take j) = none)) (fun i => l.length - (intOf i).toNat)
  case atStart => exact ⟨0, Nat.zero_le _, rfl, Lib.hid rfl⟩
  case round =>
    obtain ⟨j, hj, rfl, hn⟩ := hrel
    by_cases hlt : j < l.length
    · obtain ⟨rfl, c0, c1, c2⟩ := HC.out j hlt
      have hgl := (HP.out (by rintro rfl; simp at hlt)).2
      have H1 := Lib.hid (findS_take k l j hlt hn.out)
      clear hn
      have hltz : (j : Int) < (l.length : Int) := by omega
      have hne : b ≠ w.heap.size := Nat.ne_of_lt hgl
      have c0 := (HBel.out.cell (p := ⟨b, off + j * 3, none⟩) hgl).trans c0
      have c1 := (HBel.out.cell (p := ⟨b, off + j * 3 + 1, none⟩) hgl).trans c1
      have c2 := (HBel.out.cell (p := ⟨b, off + j * 3 + 2, none⟩) hgl).trans c2
      generalize l[j] = x at *
      obtain ⟨xk, xv, xt⟩ := x
      simp only at c0 c1 c2 H1
      by_cases hk : xk = k
      · have Hf := Lib.hid (findV_some (H1.out.1 hk))
        clear H1
        subst hk
        go_wp2
        refine bodyPost_ret (v := .tuple #[.agg #[.string (Str xk), .string (Str xv), .int .i64 xt], .bool true]) (by simp [results, Try.results16, go_sem]) rfl ⟨by rw [Hf.out], ?_⟩
        exact below_box _
      · have Hn2 := Lib.hid (H1.out.2 hk)
        have hkb : (xk == k) = false := by simpa using hk
        clear H1 hk
        go_wp2
        go_round
        case rel => exact ⟨j + 1, by omega, by go_num, Hn2⟩
        case measure => simp [intOf]; omega
    · obtain rfl : j = l.length := by omega
      have Hf : Hid (findV l k = _) := Lib.hid (findV_none (by have := hn.out; rwa [List.take_length] at this))
      go_wp2
      refine bodyPost_ret (v := .tuple #[.agg #[.string (Str []), .string (Str []), .int .i64 0], .bool false]) (by simp [results, Try.results16, go_sem]; try rfl) rfl ⟨by rw [Hf.out], ?_⟩
      exact below_box _

set_option maxRecDepth 100000 in
set_option maxHeartbeats 2000000 in
theorem rdel_w (v : Value) (l : List Pr) (k : Bs) (w : World) (h : IsPairs w v l) (hl : l.length ≤ 50000) :
    Calls Try.prog 24 #[v, .string (Str k)] w (OwnOut w.heap.size w (delS k l)) := by
  obtain ⟨b, off, cap, p, rfl, hlc, hcm, hpp, hcc⟩ := h.form
  unfold maxLen at hcm
  have HP := Lib.hid hpp
  have HC := Lib.hid hcc
  have Hsm := Lib.hid h.small
  clear h hpp hcc
  go_enter Try.func24, Try.ntmps24
  go_wp2
  go_loopw [5, 6] (fun o i wr => ∃ j : Nat, j ≤ l.length ∧ i = .int .i64 j ∧ wr.ownsRow w.heap.size 30 3 o (delS k (l.take j)).length ((delS k (l.take j)).flatMap encP) ∧ Below w.heap.size w wr) (fun _ i _ => l.length - (intOf i).toNat)
  case atStart => exact ⟨0, Nat.zero_le _, rfl, own_empty w w.heap.size (Nat.le_refl _), below_box _⟩
  case round =>
    obtain ⟨j, hj, rfl, hown, hbel⟩ := hrel
    have hsz := hbel.size
    have Hown := Lib.hid hown
    have Hbel := Lib.hid hbel
    clear hown
    by_cases hlt : j < l.length
    · obtain ⟨rfl, c0, c1, c2⟩ := HC.out j hlt
      have hgl := (HP.out (by rintro rfl; simp at hlt)).2
      have H1 := Lib.hid (filter_take (fun x => !(x.1 == k)) l j hlt)
      have hlen : (delS k (l.take j)).length ≤ 50000 := Nat.le_trans (List.length_filter_le _ _) (by rw [List.length_take]; omega)
      have hltz : (j : Int) < (l.length : Int) := by omega
      have c0 := (hbel.cell (p := ⟨b, off + j * 3, none⟩) hgl).trans c0
      have c1 := (hbel.cell (p := ⟨b, off + j * 3 + 1, none⟩) hgl).trans c1
      have c2 := (hbel.cell (p := ⟨b, off + j * 3 + 2, none⟩) hgl).trans c2
      have hxs := Lib.hid (Hsm.out l[j] (List.getElem_mem hlt))
      have hgw : b < wr.heap.size := by omega
      clear hbel
      generalize l[j] = x at *
      obtain ⟨xk, xv, xt⟩ := x
      simp only at c0 c1 c2 H1
      change Hid (delS k (l.take (j + 1)) = delS k (l.take j) ++ _) at H1
      by_cases hk : xk = k
      · have Hn2 : Hid (delS k (l.take (j + 1)) = delS k (l.take j)) := Lib.hid (by rw [H1.out]; simp [hk])
        clear H1
        subst hk
        go_wp2
        go_roundw
        case rel => exact ⟨j + 1, by omega, by go_num, by rw [Hn2.out]; exact Hown.out, Hbel.out⟩
        case measure => simp [intOf]; omega
      · have hkb : (xk == k) = false := by simpa using hk
        have Hn2 : Hid (delS k (l.take (j + 1)) = delS k (l.take j) ++ [(xk, xv, xt)]) := Lib.hid (by rw [H1.out]; simp [hk])
        clear H1 hk
        generalize delS k (l.take j) = left at *
        go_wp2_with (at_builtin; refine append_pairs rfl _ _ rfl w.heap.size _ left rfl (Hown.out.alloc _) _ [(xk, xv, xt)] rfl (one_pairs (xk, xv, xt) hxs.out) (by simp only [List.length_cons, List.length_nil]; omega) (by simp; omega) ?_; intro v2 w2 hown2 hbel2)
        have Hown2 := Lib.hid hown2
        have Hbel2 : Hid (Below w.heap.size w w2) := Lib.hid ((Hbel.out.alloc hsz _).trans hbel2)
        clear hown2 hbel2
        go_wp2
        go_roundw
        case rel => exact ⟨j + 1, by omega, by go_num, by rw [Hn2.out]; exact Hown2.out, Hbel2.out⟩
        case measure => simp [intOf]; omega
    · obtain rfl : j = l.length := by omega
      rw [List.take_length] at Hown
      clear hbel
      go_wp2
      go_ret
      exact ⟨_, rfl, Hown.out, IsPairs.owned Hown.out (fun x hx => Hsm.out x (List.mem_filter.1 hx).1), Hbel.out⟩


set_option maxRecDepth 100000 in
set_option maxHeartbeats 4000000 in
theorem rrange_w (v : Value) (l : List Pr) (lo hi : Bs) (w : World) (h : IsPairs w v l) (hl : l.length ≤ 50000) :
    Calls Try.prog 19 #[v, .agg #[.string (Str lo), .string (Str hi)]] w (OwnOut w.heap.size w (rangeS (lo, hi) l)) := by
  have mixed := mixedA
  obtain ⟨b, off, cap, p, rfl, hlc, hcm, hpp, hcc⟩ := h.form
  unfold maxLen at hcm
  have HP := Lib.hid hpp
  have HC := Lib.hid hcc
  have Hsm := Lib.hid h.small
  clear h hpp hcc
  have HS : Hid (Blk (w.alloc (.cells #[.string (Str lo), .string (Str hi)] 32)) w.heap.size 32 #[.string (Str lo), .string (Str hi)]) := Lib.hid (Blk.new _ _ _)
  have Hown0 := Lib.hid (own_empty (w.alloc (.cells #[.string (Str lo), .string (Str hi)] 32)) (w.heap.size + 1) (by simp))
  go_enter Try.func19, Try.ntmps19
  go_wp2
  go_loopw [5, 6] (fun o i wr => ∃ j : Nat, j ≤ l.length ∧ i = .int .i64 j ∧ wr.ownsRow (w.heap.size + 1) 30 3 o (rangeS (lo, hi) (l.take j)).length ((rangeS (lo, hi) (l.take j)).flatMap encP) ∧ Below (w.heap.size + 1) (w.alloc (.cells #[.string (Str lo), .string (Str hi)] 32)) wr) (fun _ i _ => l.length - (intOf i).toNat)
  case atStart => exact ⟨0, Nat.zero_le _, rfl, by have h := Hown0.out; simp only [World.size_alloc] at h; exact h, (Below.refl _ _).alloc (by simp) _⟩
  case round =>
    clear Hown0
    obtain ⟨j, hj, rfl, hown, hbel⟩ := hrel
    have hsz := hbel.size
    simp only [World.size_alloc] at hsz
    have Hown := Lib.hid hown
    have Hbel := Lib.hid hbel
    have hbw : Below w.heap.size w wr := (below_box _).trans (hbel.mono (by omega))
    have Hbw := Lib.hid hbw
    clear hown
    by_cases hlt : j < l.length
    · obtain ⟨rfl, c0, c1, c2⟩ := HC.out j hlt
      have hgl := (HP.out (by rintro rfl; simp at hlt)).2
      have H1 := Lib.hid (filter_take (fun x => hasB (lo, hi) x.1) l j hlt)
      have hlen : (rangeS (lo, hi) (l.take j)).length ≤ 50000 := Nat.le_trans (List.length_filter_le _ _) (by rw [List.length_take]; omega)
      have hltz : (j : Int) < (l.length : Int) := by omega
      have c0 := (hbw.cell (p := ⟨b, off + j * 3, none⟩) hgl).trans c0
      have c1 := (hbw.cell (p := ⟨b, off + j * 3 + 1, none⟩) hgl).trans c1
      have c2 := (hbw.cell (p := ⟨b, off + j * 3 + 2, none⟩) hgl).trans c2
      have hxs := Lib.hid (Hsm.out l[j] (List.getElem_mem hlt))
      have hgw : b < wr.heap.size := by omega
      have hbk := HS.out.below hbel (by omega)
      have y0 := hbk.c 0 _ rfl
      have y1 := hbk.c 1 _ rfl
      clear hbel hbw hbk
      generalize l[j] = x at *
      obtain ⟨xk, xv, xt⟩ := x
      simp only at c0 c1 c2 H1
      have z0 := fun n os => cell_grown (n := n) (os := os) (by exact hgw) c0
      have z1 := fun n os => cell_grown (n := n) (os := os) (by exact hgw) c1
      have z2 := fun n os => cell_grown (n := n) (os := os) (by exact hgw) c2
      have Hh := Lib.hid (fun wx => rhas_w lo hi xk wx)
      change Hid (rangeS (lo, hi) (l.take (j + 1)) = rangeS (lo, hi) (l.take j) ++ _) at H1
      clear c0 c1 c2
      generalize hB : hasB (lo, hi) xk = hb at *
      cases hb with
      | false =>
        have Hn2 : Hid (rangeS (lo, hi) (l.take (j + 1)) = rangeS (lo, hi) (l.take j)) := Lib.hid (by rw [H1.out]; simp)
        clear H1 hB
        go_wp2_with fail
        go_quiet_grown ((go_at_call 33; refine calls_grown (Hh.out _)))
        go_wp2
        go_roundw
        case rel => exact ⟨j + 1, by omega, by go_num, by rw [Hn2.out]; exact owns_below Hown.out (below_grown _ _ _ (Nat.le_refl _)), Hbel.out.trans (below_grown _ _ _ hsz)⟩
        case measure => simp [intOf]; omega
      | true =>
        have Hn2 : Hid (rangeS (lo, hi) (l.take (j + 1)) = rangeS (lo, hi) (l.take j) ++ [(xk, xv, xt)]) := Lib.hid (by rw [H1.out]; simp)
        clear H1 hB
        generalize rangeS (lo, hi) (l.take j) = left at *
        go_wp2_with fail
        go_quiet_grown ((go_at_call 33; refine calls_grown (Hh.out _)))
        have hg1 := below_grown wr nq osq (Nat.le_refl _)
        have Ho1 := Lib.hid (owns_below Hown.out hg1)
        have Hb1 := Lib.hid (Hbel.out.trans (below_grown wr nq osq hsz))
        have c0 := z0 nq osq
        have c1 := z1 nq osq
        have c2 := z2 nq osq
        have hs1 := hg1.size
        clear z0 z1 z2 y0 y1 hg1
        generalize grow (wr.drewN nq) osq = wg at *
        go_wp2_with (at_builtin; refine append_pairs rfl _ _ rfl (w.heap.size + 1) _ left rfl (Ho1.out.alloc _) _ [(xk, xv, xt)] rfl (one_pairs (xk, xv, xt) hxs.out) (by simp only [List.length_cons, List.length_nil]; omega) (by simp; omega) ?_; intro v2 w2 hown2 hbel2)
        have Hown2 := Lib.hid hown2
        have Hbel2 : Hid (Below (w.heap.size + 1) (w.alloc (.cells #[.string (Str lo), .string (Str hi)] 32)) w2) := Lib.hid ((Hb1.out.alloc (by omega) _).trans hbel2)
        clear hown2 hbel2
        go_wp2
        go_roundw
        case rel => exact ⟨j + 1, by omega, by go_num, by rw [Hn2.out]; exact Hown2.out, Hbel2.out⟩
        case measure => simp [intOf]; omega
    · obtain rfl : j = l.length := by omega
      rw [List.take_length] at Hown
      clear hbel hbw
      go_wp2
      go_ret
      exact ⟨_, rfl, owns_lower Hown.out (Nat.le_succ _), IsPairs.owned Hown.out (fun x hx => Hsm.out x (List.mem_filter.1 hx).1), Hbw.out⟩


set_option maxRecDepth 100000 in
set_option maxHeartbeats 4000000 in
theorem rdrop_w (v : Value) (l : List Pr) (lo hi : Bs) (w : World) (h : IsPairs w v l) (hl : l.length ≤ 50000) :
    Calls Try.prog 21 #[v, .agg #[.string (Str lo), .string (Str hi)]] w (OwnOut w.heap.size w (dropS (lo, hi) l)) := by
  have mixed := mixedA
  obtain ⟨b, off, cap, p, rfl, hlc, hcm, hpp, hcc⟩ := h.form
  unfold maxLen at hcm
  have HP := Lib.hid hpp
  have HC := Lib.hid hcc
  have Hsm := Lib.hid h.small
  clear h hpp hcc
  have HS : Hid (Blk (w.alloc (.cells #[.string (Str lo), .string (Str hi)] 32)) w.heap.size 32 #[.string (Str lo), .string (Str hi)]) := Lib.hid (Blk.new _ _ _)
  have Hown0 := Lib.hid (own_empty (w.alloc (.cells #[.string (Str lo), .string (Str hi)] 32)) (w.heap.size + 1) (by simp))
  go_enter Try.func21, Try.ntmps21
  go_wp2
  go_loopw [5, 6] (fun o i wr => ∃ j : Nat, j ≤ l.length ∧ i = .int .i64 j ∧ wr.ownsRow (w.heap.size + 1) 30 3 o (dropS (lo, hi) (l.take j)).length ((dropS (lo, hi) (l.take j)).flatMap encP) ∧ Below (w.heap.size + 1) (w.alloc (.cells #[.string (Str lo), .string (Str hi)] 32)) wr) (fun _ i _ => l.length - (intOf i).toNat)
  case atStart => exact ⟨0, Nat.zero_le _, rfl, by have h := Hown0.out; simp only [World.size_alloc] at h; exact h, (Below.refl _ _).alloc (by simp) _⟩
  case round =>
    clear Hown0
    obtain ⟨j, hj, rfl, hown, hbel⟩ := hrel
    have hsz := hbel.size
    simp only [World.size_alloc] at hsz
    have Hown := Lib.hid hown
    have Hbel := Lib.hid hbel
    have hbw : Below w.heap.size w wr := (below_box _).trans (hbel.mono (by omega))
    have Hbw := Lib.hid hbw
    clear hown
    by_cases hlt : j < l.length
    · obtain ⟨rfl, c0, c1, c2⟩ := HC.out j hlt
      have hgl := (HP.out (by rintro rfl; simp at hlt)).2
      have H1 := Lib.hid (filter_take (fun x => !hasB (lo, hi) x.1) l j hlt)
      have hlen : (dropS (lo, hi) (l.take j)).length ≤ 50000 := Nat.le_trans (List.length_filter_le _ _) (by rw [List.length_take]; omega)
      have hltz : (j : Int) < (l.length : Int) := by omega
      have c0 := (hbw.cell (p := ⟨b, off + j * 3, none⟩) hgl).trans c0
      have c1 := (hbw.cell (p := ⟨b, off + j * 3 + 1, none⟩) hgl).trans c1
      have c2 := (hbw.cell (p := ⟨b, off + j * 3 + 2, none⟩) hgl).trans c2
      have hxs := Lib.hid (Hsm.out l[j] (List.getElem_mem hlt))
      have hgw : b < wr.heap.size := by omega
      have hbk := HS.out.below hbel (by omega)
      have y0 := hbk.c 0 _ rfl
      have y1 := hbk.c 1 _ rfl
      clear hbel hbw hbk
      generalize l[j] = x at *
      obtain ⟨xk, xv, xt⟩ := x
      simp only at c0 c1 c2 H1
      have z0 := fun n os => cell_grown (n := n) (os := os) (by exact hgw) c0
      have z1 := fun n os => cell_grown (n := n) (os := os) (by exact hgw) c1
      have z2 := fun n os => cell_grown (n := n) (os := os) (by exact hgw) c2
      have Hh := Lib.hid (fun wx => rhas_w lo hi xk wx)
      change Hid (dropS (lo, hi) (l.take (j + 1)) = dropS (lo, hi) (l.take j) ++ _) at H1
      clear c0 c1 c2
      generalize hB : hasB (lo, hi) xk = hb at *
      cases hb with
      | true =>
        have Hn2 : Hid (dropS (lo, hi) (l.take (j + 1)) = dropS (lo, hi) (l.take j)) := Lib.hid (by rw [H1.out]; simp)
        clear H1 hB
        go_wp2_with fail
        go_quiet_grown ((go_at_call 33; refine calls_grown (Hh.out _)))
        go_wp2
        go_roundw
        case rel => exact ⟨j + 1, by omega, by go_num, by rw [Hn2.out]; exact owns_below Hown.out (below_grown _ _ _ (Nat.le_refl _)), Hbel.out.trans (below_grown _ _ _ hsz)⟩
        case measure => simp [intOf]; omega
      | false =>
        have Hn2 : Hid (dropS (lo, hi) (l.take (j + 1)) = dropS (lo, hi) (l.take j) ++ [(xk, xv, xt)]) := Lib.hid (by rw [H1.out]; simp)
        clear H1 hB
        generalize dropS (lo, hi) (l.take j) = left at *
        go_wp2_with fail
        go_quiet_grown ((go_at_call 33; refine calls_grown (Hh.out _)))
        have hg1 := below_grown wr nq osq (Nat.le_refl _)
        have Ho1 := Lib.hid (owns_below Hown.out hg1)
        have Hb1 := Lib.hid (Hbel.out.trans (below_grown wr nq osq hsz))
        have c0 := z0 nq osq
        have c1 := z1 nq osq
        have c2 := z2 nq osq
        have hs1 := hg1.size
        clear z0 z1 z2 y0 y1 hg1
        generalize grow (wr.drewN nq) osq = wg at *
        go_wp2_with (at_builtin; refine append_pairs rfl _ _ rfl (w.heap.size + 1) _ left rfl (Ho1.out.alloc _) _ [(xk, xv, xt)] rfl (one_pairs (xk, xv, xt) hxs.out) (by simp only [List.length_cons, List.length_nil]; omega) (by simp; omega) ?_; intro v2 w2 hown2 hbel2)
        have Hown2 := Lib.hid hown2
        have Hbel2 : Hid (Below (w.heap.size + 1) (w.alloc (.cells #[.string (Str lo), .string (Str hi)] 32)) w2) := Lib.hid ((Hb1.out.alloc (by omega) _).trans hbel2)
        clear hown2 hbel2
        go_wp2
        go_roundw
        case rel => exact ⟨j + 1, by omega, by go_num, by rw [Hn2.out]; exact Hown2.out, Hbel2.out⟩
        case measure => simp [intOf]; omega
    · obtain rfl : j = l.length := by omega
      rw [List.take_length] at Hown
      clear hbel hbw
      go_wp2
      go_ret
      exact ⟨_, rfl, owns_lower Hown.out (Nat.le_succ _), IsPairs.owned Hown.out (fun x hx => Hsm.out x (List.mem_filter.1 hx).1), Hbw.out⟩


end Go.Proofs.Ytbbiobhffelaaaa
