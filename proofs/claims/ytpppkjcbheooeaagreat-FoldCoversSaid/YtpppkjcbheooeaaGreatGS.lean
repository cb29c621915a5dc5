/-
  Plain facts of the law FoldCovers, and its function covered.
-/
import Derived.Test.YtpppkjcbheooeaaGreatGJ
import Derived.Test.YtpppkjcbheooeaaGreatGH
namespace Go.Proofs.YtpppkjcbheooeaaGreat
open Go.RowKit Go.Sort
set_option linter.unusedVariables false

def covS (o : Ms) (s : Sp) : Bool := !Op.bytesLess s.1 o.lo && (o.hi.isEmpty || (!s.2.isEmpty && !Op.bytesLess o.hi s.2))
def covB (m o : Ms) : Bool := (writesS m).all (covS o)
theorem covS_eq (o : Ms) {s : Sp} (h : emptyB s = false) : covS o s = coversB (o.lo, o.hi) s := by
  unfold covS coversB
  rw [h, Bool.false_or]
  have h1 : ltP (keyP s.1) (keyP o.lo) = Op.bytesLess s.1 o.lo := rfl
  have h2 : (o.hi.isEmpty || (!s.2.isEmpty && !Op.bytesLess o.hi s.2)) = !ltP (hiP o.hi) (hiP s.2) := by
    by_cases e1 : o.hi = []
    · by_cases e2 : s.2 = [] <;> simp [hiP, e1, e2, ltP, topP, keyP]
    · have i1 : o.hi.isEmpty = false := by simpa using e1
      by_cases e2 : s.2 = []
      · simp [hiP, e1, e2, ltP, topP, keyP, i1]
      · have i2 : s.2.isEmpty = false := by simpa using e2
        simp [hiP, e1, e2, ltP, topP, keyP, i1, i2]
  show (!Op.bytesLess s.1 o.lo && _) = _
  rw [h2]
  rfl
theorem next_drop (o : Ms) (hk : o.kind = 3) (k : Bs) : InL (nextD [] o) k ↔ HasS (o.lo, o.hi) k := by
  unfold nextD
  have h1 : killsS o = [(o.lo, o.hi)] := by simp [killsS, writesS, hk]
  have h2 : readsS o = [] := by simp [readsS, hk]
  rw [h1, h2, List.nil_append, minus_in, InL_cons]
  exact ⟨fun ⟨h, _⟩ => h.elim id (fun h => absurd h (InL_nil k)), fun h => ⟨.inl h, InL_nil k⟩⟩
theorem wr_drop {o : Ms} (hk : o.kind = 3) (he : emptyB (o.lo, o.hi) = false) : WrM o := ⟨(o.lo, o.hi), by simp [writesS, hk], he⟩
theorem reduce_two (m o : Ms) (hk : o.kind = 3) (he : emptyB (o.lo, o.hi) = false) (hw : ∀ s ∈ writesS m, emptyB s = false) : (decide ((reduceS [m, o]).length = 1)) = covB m o := by
  have h1 : reduceS [m, o] = (foldB [m] (nextD [] o)).1 ++ [o] := reduce_snoc [m] o (wr_drop hk he)
  have h2 : covB m o = !liveB (nextD [] o) (writesS m) := by
    rw [Bool.eq_iff_iff, Bool.not_eq_true', liveB_iff]
    unfold covB
    rw [List.all_eq_true]
    constructor
    · rintro h k ⟨s, hs, hk2⟩
      rw [next_drop o hk]
      have h3 := h s hs
      rw [covS_eq o (hw s hs)] at h3
      rw [← hasB_iff] at *
      exact covers_has h3 hk2
    · intro h s hs
      rw [covS_eq o (hw s hs)]
      cases hc : coversB (o.lo, o.hi) s with
      | true => rfl
      | false =>
        obtain ⟨h3, h4⟩ := covers_not hc
        exfalso
        rcases h4 with h4 | ⟨h4, h5⟩
        · have h6 := (next_drop o hk _).1 (h s.1 ⟨s, hs, has_lo h3⟩)
          rw [← hasB_iff, h4] at h6; cases h6
        · have h6 := (next_drop o hk _).1 (h o.hi ⟨s, hs, (hasB_iff _ _).1 h5⟩)
          rw [← hasB_iff] at h6
          unfold hasB at h6
          have h7 : Op.bytesLess o.hi o.hi = false := ltP_irrefl (keyP o.hi)
          simp [h7] at h6
          exact h4 h6.2
  rw [h1, h2, foldB]
  cases liveB (nextD [] o) (writesS m) <;> simp [foldB]
theorem reduce_drop_all (l : List Ms) : reduceS (l ++ [(⟨3, [], [], [], [], [], [], 0⟩ : Ms)]) = [⟨3, [], [], [], [], [], [], 0⟩] := by
  rw [reduce_snoc _ _ (wr_drop rfl (by decide)), foldB_all _ _ (fun k => (next_drop _ rfl k).2 ((hasB_iff _ _).1 (by unfold hasB; cases k <;> simp [Op.bytesLess])))]
  rfl
theorem reduce_twice (l : List Ms) (o : Ms) (hk : o.kind = 1 ∨ o.kind = 2 ∨ o.kind = 3) (hw : WrM o) : reduceS (l ++ [o, o]) = reduceS (l ++ [o]) := by
  have h1 : l ++ [o, o] = (l ++ [o]) ++ [o] := by simp
  rw [h1, reduce_snoc _ _ hw, reduce_snoc _ _ hw, List.reverse_append]
  simp only [List.reverse_cons, List.reverse_nil, List.nil_append, List.singleton_append]
  have h2 : liveB (nextD [] o) (writesS o) = false := by
    rw [liveB_iff]
    intro k h
    unfold nextD
    have h3 : killsS o = writesS o := by rcases hk with h | h | h <;> simp [killsS, h]
    have h4 : readsS o = [] := by rcases hk with h | h | h <;> simp [readsS, h]
    rw [h3, h4, List.nil_append, minus_in]
    exact ⟨h, InL_nil k⟩
  rw [foldB, h2]
  rfl

theorem all_take' (f : Sp → Bool) (l : List Sp) (j : Nat) (h : j < l.length) : (l.take (j + 1)).all f = ((l.take j).all f && f l[j]) := by
  rw [List.take_add_one, List.getElem?_eq_getElem h, List.all_append]; simp
theorem all_no (f : Sp → Bool) (l : List Sp) (j : Nat) (h : j < l.length) (hf : f l[j] = false) : l.all f = false := by
  rw [List.all_eq_false]
  exact ⟨l[j], List.getElem_mem h, by rw [hf]; simp⟩

set_option maxRecDepth 100000 in
set_option maxHeartbeats 4000000 in
theorem covered_w (m o : Ms) (w : World) (hz : SizeM m) (hk : OneToSix m) : Calls Tryz.prog 36 #[msgV m, msgV o] w fun e w' => e = .returned (.bool (covB m o)) ∧ Below w.heap.size w w' := by
  have mixed := mixedA
  have HW := Lib.hid (fun wx => rwrites_w m wx hz hk)
  have hwl : (writesS m).length ≤ 2 := by
    unfold writesS; repeat' split
    all_goals simp
  clear hz hk
  unfold covB
  obtain ⟨wl, hwl0⟩ : ∃ r, r = writesS m := ⟨_, rfl⟩
  rw [← hwl0] at hwl HW ⊢
  clear hwl0
  have hB1 : Blk ((w.alloc (.cells (encM m) 25)).alloc (.cells (encM o) 25)) (w.heap.size + 1) 25 (encM o) := Blk.new' _ _ _ (by simp)
  have HB1 := Lib.hid hB1
  clear hB1
  go_enter Tryz.func36, Tryz.ntmps36
  go_wp2_with fail
  refine (HW.out _).mono ?_
  rintro e2 w2 ⟨vw, rfl, hsp, hg⟩
  have hb2 : Below w.heap.size w w2 := ((below_box _).alloc (by simp) _).trans ((hg.below (Nat.le_refl _)).mono (by simp; omega))
  have HX := Lib.hid (HB1.out.below (hg.below (Nat.le_refl _)) HB1.out.lt)
  have HB2 := Lib.hid hb2
  obtain ⟨g0, o0, cap0, q0, rfl, hlc, hm0, -, hc0⟩ := hsp.form
  unfold maxLen at hm0
  have HC0 := Lib.hid hc0
  clear hg hb2 hc0 hsp HB1 HW
  go_wp2
  go_loopw [6] (fun i wr => ∃ j n : Nat, j ≤ wl.length ∧ i = .int .i64 j ∧ Hid ((wl.take j).all (covS o) = true) ∧ wr = w2.drewN n) (fun i _ => wl.length - (intOf i).toNat)
  case atStart => exact ⟨0, 0, Nat.zero_le _, rfl, Lib.hid rfl, rfl⟩
  case round =>
    obtain ⟨j, n, hj, rfl, hall, rfl⟩ := hrel
    by_cases hlt : j < wl.length
    · obtain ⟨rfl, c0, c1⟩ := HC0.out j hlt
      have hltz : (j : Int) < (wl.length : Int) := by omega
      have HT := Lib.hid (all_take' (covS o) wl j hlt)
      have HN := Lib.hid (all_no (covS o) wl j hlt)
      generalize wl[j] = s at *
      obtain ⟨sl, sh⟩ := s
      simp only at c0 c1
      have d3 : w2.cell? ⟨w.heap.size + 1, 3, none⟩ = some (.string (Str o.lo)) := HX.out.c0 3 _ rfl
      have d4 : w2.cell? ⟨w.heap.size + 1, 4, none⟩ = some (.string (Str o.hi)) := HX.out.c0 4 _ rfl
      have c0 := fun n => (show (w2.drewN n).cell? ⟨g0, o0 + j * 2, none⟩ = some (.string (Str sl)) from c0)
      have c1 := fun n => (show (w2.drewN n).cell? ⟨g0, o0 + j * 2 + 1, none⟩ = some (.string (Str sh)) from c1)
      have d3 := fun n => (show (w2.drewN n).cell? ⟨w.heap.size + 1, 3, none⟩ = some (.string (Str o.lo)) from d3)
      have d4 := fun n => (show (w2.drewN n).cell? ⟨w.heap.size + 1, 4, none⟩ = some (.string (Str o.hi)) from d4)
      have hcov : covS o (sl, sh) = (!Op.bytesLess sl o.lo && (o.hi.isEmpty || (!sh.isEmpty && (Op.bytesLess sh o.hi || (sh == o.hi))))) := by
        have e : (!Op.bytesLess o.hi sh) = (Op.bytesLess sh o.hi || (sh == o.hi)) := by
          by_cases e1 : sh = o.hi
          · rw [e1, less_irrefl]; simp
          · rcases ne_less e1 with h | h
            · rw [h, less_asymm h]; simp
            · rw [h, less_asymm h]; simp [e1]
        unfold covS
        dsimp only
        rw [e]
      rw [hcov] at HT HN
      clear hcov
      generalize o.lo = ol at *
      generalize o.hi = oh at *
      cases h1 : Op.bytesLess sl ol <;> cases h2 : oh.isEmpty <;> cases h3 : sh.isEmpty <;> cases h4 : Op.bytesLess sh oh <;> cases h5 : (sh == oh)
      all_goals
        rw [h1, h2, h3, h4, h5] at HT HN
        go_wp2_with fail
        go_quiet (fail)
        have hd2 : (w2.drewN n).drewN nq = w2.drewN (n + nq) := World.drewN_drewN _ _ _
        try rw [hd2]
        clear hd2
        generalize n + nq = n1 at *
        go_wp2_with fail
        go_quiet (fail)
        have hd3 : (w2.drewN n1).drewN nq = w2.drewN (n1 + nq) := World.drewN_drewN _ _ _
        try rw [hd3]
        clear hd3
        go_wp2
      any_goals (go_ret; exact ⟨ret_bool (HN.out rfl).symm, HB2.out.trans ((below_drewN w2 _).mono HB2.out.size)⟩)
      all_goals
        go_roundw
        case rel => exact ⟨j + 1, n1 + nq, by omega, by go_num, Lib.hid (by rw [HT.out, hall.out]; rfl), rfl⟩
        case measure => simp [intOf]; omega
    · obtain rfl : j = wl.length := by omega
      rw [List.take_length] at hall
      go_wp2
      go_ret
      exact ⟨ret_bool (by rw [hall.out]), HB2.out.trans ((below_drewN w2 n).mono HB2.out.size)⟩

end Go.Proofs.YtpppkjcbheooeaaGreat
