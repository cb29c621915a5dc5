/-
  Walks: the least free index, spoiled slots (gen_pf.py).
-/
import Derived.Test.YtlgangcldlphnaaPE
namespace Go.Proofs.Ytlgangcldlphnaa
open Go.RowKit Go.Sort
set_option linter.unusedVariables false
set_option maxRecDepth 100000

/-- A slot whose lists are not too long. -/
structure SmallSl (s : Sl) : Prop where
  l0 : s.node.pairs.length ≤ 1000000
  l1 : s.node.pivots.length ≤ 1000000
  l2 : s.node.kids.length ≤ 1000000
  l3 : s.node.sums.length ≤ 1000000
  l4 : s.node.buf.length ≤ 1000000
theorem IsSl.lens {w : World} {v : Sv} {s : Sl} (h : IsSl w v s) : v.a.2.1 = s.node.pairs.length ∧ v.b.2.1 = s.node.pivots.length ∧ v.c.2.1 = s.node.kids.length ∧ v.d.2.1 = s.node.sums.length ∧ v.e.2.1 = s.node.buf.length := by
  obtain ⟨a0, a1, ha, -⟩ := h.pairs
  obtain ⟨b0, b1, hb, -⟩ := h.pivots
  obtain ⟨c0, c1, hc, -⟩ := h.kids
  obtain ⟨d0, d1, hd, -⟩ := h.sums
  obtain ⟨e0, e1, he, -⟩ := h.buf
  injection ha with _ x0
  injection hb with _ x1
  injection hc with _ x2
  injection hd with _ x3
  injection he with _ x4
  exact ⟨x0, x1, x2, x3, x4⟩
set_option maxHeartbeats 2000000 in
theorem spoiled_w (v : Sv) (s : Sl) (w : World) (h : IsSl w v s) (hz : SmallSl s) :
    Calls Try.prog 47 #[slotV v] w fun e w' => e = .returned (.bool (spoilB s)) ∧ Below w.heap.size w w' := by
  have mixed := mixedA
  obtain ⟨n0, n1, n2, n3, n4⟩ := h.lens
  obtain ⟨z0, z1, z2, z3, z4⟩ := hz
  have hu := h.used
  have hlo := h.lost
  have hr := h.refs
  clear h
  obtain ⟨vu, vl, vr, ⟨a0, a1, a2⟩, ⟨b0, b1, b2⟩, ⟨c0, c1, c2⟩, ⟨d0, d1, d2⟩, ⟨f0, f1, f2⟩⟩ := v
  simp only at n0 n1 n2 n3 n4 hu hlo hr
  have HQ : Hid (spoilB s = (!vu && (vl || !(vr == 0) || decide (0 < a1 + b1 + c1 + d1 + f1)))) := Lib.hid (by unfold spoilB; rw [hu, hlo, hr, n0, n1, n2, n3, n4])
  rw [← n0] at z0
  rw [← n1] at z1
  rw [← n2] at z2
  rw [← n3] at z3
  rw [← n4] at z4
  clear n0 n1 n2 n3 n4 hu hlo hr
  generalize spoilB s = q at *
  have HE : Hid ((0 : Int) < (a1 : Int) + (b1 : Int) + (c1 : Int) + (d1 : Int) + (f1 : Int) ↔ 0 < a1 + b1 + c1 + d1 + f1) := Lib.hid (by omega)
  cases vu
  · cases vl
    · by_cases e0 : vr = 0
      · have hr0 : (vr != 0) = false := by simp [e0]
        have HE0 := Lib.hid e0
        clear e0
        by_cases he : (0 : Int) < (a1 : Int) + (b1 : Int) + (c1 : Int) + (d1 : Int) + (f1 : Int)
        all_goals have HE1 := Lib.hid he
        · go_enter Try.func47, Try.ntmps47
          go_wp2
          go_ret
          exact ⟨ret_bool (by rw [HQ.out, HE0.out, decide_eq_true (HE.out.1 HE1.out)]; rfl), (below_box _).trans ((below_box _).mono (by simp))⟩
        · go_enter Try.func47, Try.ntmps47
          go_wp2
          go_ret
          exact ⟨ret_bool (by rw [HQ.out, HE0.out, decide_eq_false (fun h => absurd (HE.out.2 h) (Int.not_lt.2 HE1.out))]; rfl), (below_box _).trans ((below_box _).mono (by simp))⟩
      · have hr0 : (vr != 0) = true := by simp [e0]
        have HE0 : Hid ((vr == 0) = false) := Lib.hid (by simpa using e0)
        clear e0
        go_enter Try.func47, Try.ntmps47
        go_wp2
        go_ret
        exact ⟨ret_bool (by rw [HQ.out, HE0.out]; rfl), (below_box _).trans ((below_box _).mono (by simp))⟩
    · go_enter Try.func47, Try.ntmps47
      go_wp2
      go_ret
      exact ⟨ret_bool (by rw [HQ.out]; rfl), (below_box _).trans ((below_box _).mono (by simp))⟩
  · go_enter Try.func47, Try.ntmps47
    go_wp2
    go_ret
    exact ⟨ret_bool (by rw [HQ.out]; rfl), (below_box _).trans ((below_box _).mono (by simp))⟩

set_option maxHeartbeats 2000000 in
theorem indexFree_w (v : Value) (P : List Sl) (w : World) (h : IsSlots w v P) :
    Calls Try.prog 55 #[v, .func (.func 60) #[] #[]] w fun e w' => ∃ r : Int, e = .returned (.int .i64 r) ∧ (r = -1 ∧ (∀ i, i < P.length → (!(atP P i).used) = false) ∨ ∃ k : Nat, r = k ∧ k < P.length ∧ (!(atP P k).used) = true ∧ ∀ i, i < k → (!(atP P i).used) = false) ∧ Below w.heap.size w w' := by
  have mixed := mixedA
  have H := Lib.hid h
  skip
  obtain ⟨a, cap, rfl, hlc, hcm, hpm⟩ := h.slice
  skip
  go_enter Try.func55, Try.ntmps55
  go_wp2
  go_loopw [8] (fun i wr => ∃ k : Nat, k ≤ P.length ∧ i = .int .i64 k ∧ Below w.heap.size w wr ∧ Hid (∀ i, i < k → (!(atP P i).used) = false)) (fun i _ => P.length - (intOf i).toNat)
  case atStart => exact ⟨0, Nat.zero_le _, rfl, Below.refl _ _, Lib.hid (fun i hi => by omega)⟩
  case round =>
    obtain ⟨k, hk, rfl, hg, Hno⟩ := hrel
    have Hg := Lib.hid hg
    clear hg
    by_cases hlt : k < P.length
    · obtain ⟨bb, off, cap', s, he, hbl, hlz, hs, x0, x1, x2, x3, x4, x5, x6, x7⟩ := slot_at (H.out.below Hg.out) k hlt
      injection he with he1 he2 he3
      subst he1 he3
      clear he2
      have hltz : (k : Int) < (P.length : Int) := by omega
      have HS := Lib.hid hs
      clear hs
      have HC : Hid (Calls Try.prog 60 #[slotV s] wr fun e w' => e = .returned (.bool ((!(atP P k).used))) ∧ Below wr.heap.size wr w') := Lib.hid (by have := firstFree1_w s wr; rwa [HS.out.used] at this)
      have HN : Hid (∀ q : Bool, (!(atP P k).used) = q → q = false → ∀ i, i < k + 1 → (!(atP P i).used) = false) := Lib.hid (fun q h1 h2 i hi => by
        by_cases e : i = k
        · subst e; rw [h1, h2]
        · exact Hno.out i (by omega))
      have HR : Hid (∃ q : Bool, (!(atP P k).used) = q) := Lib.hid ⟨_, rfl⟩
      obtain ⟨q, hq⟩ := HR.out
      rw [hq] at HC
      have Hq := Lib.hid hq
      clear hq
      cases q
      all_goals
        go_wp2_with (go_at_call 60; refine HC.out.mono ?_; rintro e w2 ⟨rfl, hg2⟩; have Hg2 := Lib.hid (Below.next Hg.out (Nat.le_refl _) hg2); clear hg2)
      · go_roundw
        case rel => exact ⟨k + 1, by omega, by go_num, Hg2.out, Lib.hid (HN.out _ Hq.out rfl)⟩
        case measure => simp [intOf]; omega
      · go_ret
        exact ⟨_, rfl, .inr ⟨k, rfl, hlt, Hq.out, Hno.out⟩, Hg2.out⟩
    · obtain rfl : k = P.length := by omega
      go_wp2
      go_ret
      exact ⟨_, rfl, .inl ⟨rfl, Hno.out⟩, Hg.out⟩

set_option maxHeartbeats 2000000 in
theorem indexSpoil_w (v : Value) (P : List Sl) (w : World) (h : IsSlots w v P) (hz : ∀ i, SmallSl (atP P i)) :
    Calls Try.prog 55 #[v, .func (.func 47) #[] #[]] w fun e w' => ∃ r : Int, e = .returned (.int .i64 r) ∧ (r = -1 ∧ (∀ i, i < P.length → spoilB (atP P i) = false) ∨ ∃ k : Nat, r = k ∧ k < P.length ∧ spoilB (atP P k) = true ∧ ∀ i, i < k → spoilB (atP P i) = false) ∧ Below w.heap.size w w' := by
  have mixed := mixedA
  have H := Lib.hid h
  have HZ := Lib.hid hz
  obtain ⟨a, cap, rfl, hlc, hcm, hpm⟩ := h.slice
  clear hz
  go_enter Try.func55, Try.ntmps55
  go_wp2
  go_loopw [8] (fun i wr => ∃ k : Nat, k ≤ P.length ∧ i = .int .i64 k ∧ Below w.heap.size w wr ∧ Hid (∀ i, i < k → spoilB (atP P i) = false)) (fun i _ => P.length - (intOf i).toNat)
  case atStart => exact ⟨0, Nat.zero_le _, rfl, Below.refl _ _, Lib.hid (fun i hi => by omega)⟩
  case round =>
    obtain ⟨k, hk, rfl, hg, Hno⟩ := hrel
    have Hg := Lib.hid hg
    clear hg
    by_cases hlt : k < P.length
    · obtain ⟨bb, off, cap', s, he, hbl, hlz, hs, x0, x1, x2, x3, x4, x5, x6, x7⟩ := slot_at (H.out.below Hg.out) k hlt
      injection he with he1 he2 he3
      subst he1 he3
      clear he2
      have hltz : (k : Int) < (P.length : Int) := by omega
      have HS := Lib.hid hs
      clear hs
      have HC : Hid (Calls Try.prog 47 #[slotV s] wr fun e w' => e = .returned (.bool (spoilB (atP P k))) ∧ Below wr.heap.size wr w') := Lib.hid (spoiled_w s _ wr HS.out (HZ.out k))
      have HN : Hid (∀ q : Bool, spoilB (atP P k) = q → q = false → ∀ i, i < k + 1 → spoilB (atP P i) = false) := Lib.hid (fun q h1 h2 i hi => by
        by_cases e : i = k
        · subst e; rw [h1, h2]
        · exact Hno.out i (by omega))
      have HR : Hid (∃ q : Bool, spoilB (atP P k) = q) := Lib.hid ⟨_, rfl⟩
      obtain ⟨q, hq⟩ := HR.out
      rw [hq] at HC
      have Hq := Lib.hid hq
      clear hq
      cases q
      all_goals
        go_wp2_with (go_at_call 47; refine HC.out.mono ?_; rintro e w2 ⟨rfl, hg2⟩; have Hg2 := Lib.hid (Below.next Hg.out (Nat.le_refl _) hg2); clear hg2)
      · go_roundw
        case rel => exact ⟨k + 1, by omega, by go_num, Hg2.out, Lib.hid (HN.out _ Hq.out rfl)⟩
        case measure => simp [intOf]; omega
      · go_ret
        exact ⟨_, rfl, .inr ⟨k, rfl, hlt, Hq.out, Hno.out⟩, Hg2.out⟩
    · obtain rfl : k = P.length := by omega
      go_wp2
      go_ret
      exact ⟨_, rfl, .inl ⟨rfl, Hno.out⟩, Hg.out⟩

theorem small_zero : SmallSl zSl := ⟨by decide, by decide, by decide, by decide, by decide⟩
set_option maxHeartbeats 1000000 in
theorem containsSpoil_w (v : Value) (P : List Sl) (w : World) (h : IsSlots w v P) (hz : ∀ i, SmallSl (atP P i)) :
    Calls Try.prog 46 #[v, .func (.func 47) #[] #[]] w fun e w' => e = .returned (.bool (P.any spoilB)) ∧ Below w.heap.size w w' := by
  have HI := Lib.hid (indexSpoil_w v P w h hz)
  have HQ : Hid (∀ r : Int, (r = -1 ∧ (∀ i, i < P.length → spoilB (atP P i) = false) ∨ ∃ k : Nat, r = k ∧ k < P.length ∧ spoilB (atP P k) = true ∧ ∀ i, i < k → spoilB (atP P i) = false) → decide (0 ≤ r) = P.any spoilB) := Lib.hid (by
    rintro r (⟨rfl, h⟩ | ⟨k, rfl, hk, h, -⟩)
    · have : P.any spoilB = false := by
        rw [List.any_eq_false]
        intro x hx
        obtain ⟨i, hi, rfl⟩ := List.mem_iff_getElem.1 hx
        have := h i hi
        rw [atP_lt hi] at this
        rw [this]; simp
      rw [this]; rfl
    · have : P.any spoilB = true := List.any_eq_true.2 ⟨P[k], List.getElem_mem hk, by rw [← atP_lt hk]; exact h⟩
      rw [this]; simp)
  clear h hz
  go_enter Try.func46, Try.ntmps46
  go_wp2_with (go_at_call 55; refine HI.out.mono ?_; rintro e w2 ⟨r, rfl, hr, hg2⟩; have Hg2 := Lib.hid hg2; have Hr := Lib.hid hr; clear hg2 hr)
  go_ret
  exact ⟨ret_bool (HQ.out _ Hr.out), Hg2.out⟩
set_option maxHeartbeats 1000000 in
theorem firstFree_w (v : Value) (P : List Sl) (w : World) (h : IsSlots w v P) :
    Calls Try.prog 53 #[poolV v] w fun e w' => e = .returned (.int .i64 (freeI P : Nat)) ∧ Below w.heap.size w w' := by
  have HB := Lib.hid (below_box (w := w) (.cells #[v] 29))
  have HI := Lib.hid (indexFree_w v P _ (h.below HB.out))
  have HQ : Hid (∀ r : Int, (r = -1 ∧ (∀ i, i < P.length → (!(atP P i).used) = false) ∨ ∃ k : Nat, r = k ∧ k < P.length ∧ (!(atP P k).used) = true ∧ ∀ i, i < k → (!(atP P i).used) = false) → (r < 0 ∧ freeI P = P.length) ∨ (0 ≤ r ∧ r = (freeI P : Nat))) := Lib.hid (by
    rintro r (⟨rfl, h⟩ | ⟨k, rfl, hk, h, h2⟩)
    · exact .inl ⟨by omega, freeI_eq (by rw [atP_ge (Nat.le_refl _)]; rfl) (fun j hj => by simpa using h j hj) (Nat.le_refl _)⟩
    · exact .inr ⟨by omega, by rw [freeI_eq (by simpa using h) (fun j hj => by simpa using h2 j hj) (by omega)]⟩)
  obtain ⟨a, cap, rfl, hlc, hcm, hpm⟩ := h.slice
  clear h
  go_enter Try.func53, Try.ntmps53
  go_wp2_with fail
  refine HI.out.mono ?_
  rintro e w2 ⟨r, rfl, hr, hg2⟩
  have Hg2 := Lib.hid (Below.next HB.out (Nat.le_refl _) hg2)
  have c0 : w2.cell? ⟨w.heap.size, 0, none⟩ = some (.slice a P.length cap) := ((Blk.new w 29 #[.slice a P.length cap]).below hg2 (by simp)).c0 0 _ rfl
  clear hg2
  rcases HQ.out _ hr with ⟨h1, h2⟩ | ⟨h1, h2⟩
  · have H2 := Lib.hid h2
    clear h2 hr
    go_wp2
    go_ret
    exact ⟨ret_int (by rw [H2.out]), Hg2.out⟩
  · have H2 := Lib.hid h2
    clear h2 hr
    go_wp2
    go_ret
    exact ⟨ret_int H2.out, Hg2.out⟩

end Go.Proofs.Ytlgangcldlphnaa
