/-
  The walk of the law SettleFirst.
-/
import Derived.Test.YtfpcaoacbjhkgaaUH
namespace Go.Proofs.Ytfpcaoacbjhkgaa
open Go.RowKit Go.Sort
set_option linter.unusedVariables false
set_option linter.unusedSimpArgs false

theorem msgs_formF {w : World} {v : Value} {l : List Ms} (h : IsMsgs w v l) : ∃ a c, v = .slice a l.length c := by
  obtain ⟨a, c, h1, -⟩ := h
  exact ⟨a, c, h1⟩
theorem firstF_spec (ps : List Bs) : ∀ (l : List Ms) (i0 : Nat), (∃ k, ∃ h : k < l.length, firstF ps l i0 = (i0 + k, true) ∧ crossB l[k] ps = true ∧ ∀ j (hj : j < k), crossB (l[j]'(by omega)) ps = false) ∨ (firstF ps l i0 = (0, false) ∧ ∀ j (hj : j < l.length), crossB l[j] ps = false)
  | [], i0 => .inr ⟨rfl, fun j hj => by simp at hj⟩
  | m :: r, i0 => by
    cases hc : crossB m ps with
    | true => exact .inl ⟨0, by simp, by rw [firstF, if_pos hc]; rfl, hc, fun j hj => by omega⟩
    | false =>
      rcases firstF_spec ps r (i0 + 1) with ⟨k, h, h1, h2, h3⟩ | ⟨h1, h2⟩
      · refine .inl ⟨k + 1, by simp; omega, ?_, h2, fun j hj => ?_⟩
        · rw [firstF, if_neg (by rw [hc]; simp), h1, Nat.add_assoc, Nat.add_comm 1 k]
        · cases j with
          | zero => exact hc
          | succ j => exact h3 j (by omega)
      · refine .inr ⟨by rw [firstF, if_neg (by rw [hc]; simp), h1], fun j hj => ?_⟩
        cases j with
        | zero => exact hc
        | succ j => exact h2 j (by simpa using hj)

set_option maxRecDepth 100000 in
set_option maxHeartbeats 60000000 in
theorem settleFirst_walk (w : World) (v0 : Value) (x0 : List R6) (h0 : IsR6s w v0 x0) (v1 : Value) (x1 : Nat) (h1 : v1 = .int .u8 x1 ∧ x1 < 256) :
    Calls Try.prog 3 #[v0, v1] w fun e w' => e = .returned (.bool true) ∧ Below w.heap.size w w' := by
  have mixed := mixedA
  obtain ⟨rfl, hx1⟩ := h1
  have H0 := Lib.hid h0
  clear h0
  have HL0 := Lib.hid (fun wx (h : IsR6s wx v0 x0) => list_w v0 x0 10 wx h (by decide))
  have hall : ∀ m ∈ listS x0 10, SizeM m := fun m hm => by
    unfold listS at hm
    obtain ⟨y, _, rfl⟩ := List.mem_map.1 hm
    exact made_size _ _ _ _ _ _
  have hml : (listS x0 10).length ≤ 10 := by unfold listS; rw [List.length_map]; exact List.length_take_le _ _
  generalize listS x0 10 = Bf at *
  have hps := pivU_srt x1
  have hpl := pivU_len x1 8
  have HPV := Lib.hid (fun wx => pivots9_w x1 wx hx1)
  generalize pivU x1 8 = ps at *
  have HCR := Lib.hid (fun o (h : o ∈ Bf) vp wx (hp : IsStrs wx vp ps) => crosses_w o vp ps wx (hall o h) hp hps (by omega))
  have HFI := Lib.hid (fun v vp wx (h : IsMsgs wx v Bf) (hp : IsStrs wx vp ps) => sfirst_w v vp _ _ wx h hp hps hall (by omega))
  have HSP := Lib.hid (firstF_spec ps Bf 0)
  clear hall hps hx1
  go_enter Try.func3, Try.ntmps3
  go_wp2_with fail
  refine (usan_w w).mono ?_
  rintro e w1 ⟨rfl, hb1⟩
  have HB1 := Lib.hid hb1
  clear hb1
  go_wp2_with fail
  refine (HL0.out w1 (H0.out.below HB1.out)).mono ?_
  rintro e w2 ⟨v2, rfl, ho2, hb2⟩
  have hm2 := ho2.msgs
  have HM2 := Lib.hid hm2
  have HB2 := Lib.hid (HB1.out.trans (hb2.mono HB1.out.size))
  clear ho2 hb2 HB1 H0 HL0
  obtain ⟨gl, ol, capl, al, rfl, hl1, hl2, hl3, hl4⟩ := hm2.form
  unfold maxLen at hl2
  have HCL : Hid (∀ i (h : i < Bf.length), al = some ⟨gl, ol, none⟩ ∧ gl < w2.heap.size ∧ Bf[i] ∈ Bf ∧ MAt w2 gl (ol + i * 8) Bf[i]) := Lib.hid (fun i h => ⟨(hl4 i h).1, (hl3 (by rintro rfl; simp at h)).2, List.getElem_mem h, (hl4 i h).2⟩)
  clear hm2 hl3 hl4
  go_wp2_with fail
  refine (HPV.out w2).mono ?_
  rintro e w3 ⟨v3, rfl, hp3, hb3⟩
  have HP3 := Lib.hid hp3
  have HM3 := Lib.hid (HM2.out.below hb3)
  have HB3 := Lib.hid hb3
  obtain ⟨a3, c3, rfl, -⟩ := hp3
  clear hb3
  go_wp2_with fail
  refine (HFI.out _ _ w3 HM3.out HP3.out).mono ?_
  rintro e w4 ⟨rfl, hb4⟩
  have HB4 := Lib.hid (HB3.out.trans (hb4.mono HB3.out.size))
  have hs4 := HB4.out.size
  clear hb4 HB3 HM2 HM3 HP3 HFI
  obtain ⟨n, hn⟩ : ∃ n, n = Bf.length := ⟨_, rfl⟩
  have HN := Lib.hid hn
  rw [← hn] at hl1 hml ⊢
  clear hn
  rcases HSP.out with ⟨i, hi, h1, h2, h3⟩ | ⟨h1, h2⟩
  · obtain ⟨rfl, hgl, hmem, hma⟩ := HCL.out i hi
    have HCM : Hid (∀ k (h : k < n), Bf[k]'(by rw [← HN.out]; exact h) ∈ Bf ∧ MAt w2 gl (ol + k * 8) (Bf[k]'(by rw [← HN.out]; exact h))) := Lib.hid (fun k h => (HCL.out k (by rw [← HN.out]; exact h)).2.2)
    clear HCL
    have hin : i < n := by rw [HN.out]; exact hi
    have HNC : Hid (∀ k (h : k < i), crossB (Bf[k]'(by rw [← HN.out]; exact Nat.lt_trans h hin)) ps = false) := Lib.hid h3
    rw [h1, Nat.zero_add]
    dsimp only
    have hinz : (i : Int) < (n : Int) := by omega
    have hge : ¬ ((n : Int) ≤ (i : Int)) := by omega
    have hneg : ¬ ((i : Int) < 0) := by omega
    have hkd : Bf[i].kind = 4 ∨ Bf[i].kind = 5 := by
      unfold crossB at h2
      rw [Bool.and_eq_true] at h2
      exact (moves_iff _).1 h2.1
    have hcr := fun vp wx hp => HCR.out Bf[i] hmem vp wx hp
    rw [h2] at hcr
    have hma4 := hma.below HB4.out hgl
    have hgl4 : gl < w4.heap.size := Nat.lt_of_lt_of_le hgl hs4
    have HCX : Hid (∀ vp wx, Below w4.heap.size w4 wx → IsStrs wx vp ps → Calls Try.prog 8 #[msgV Bf[i], vp] wx fun e w' => e = .returned (.bool true) ∧ Below w4.heap.size w4 w') := Lib.hid (fun vp wx hx hp => (hcr vp wx hp).mono fun e w' ⟨h1, h2⟩ => ⟨h1, hx.trans (h2.mono hx.size)⟩)
    clear h1 h2 h3 hmem hma hcr HSP
    generalize Bf[i] = o at *
    have hM : ∀ wx, Below w4.heap.size w4 wx → MAt wx gl (ol + i * 8) o := fun wx hx => hma4.below hx hgl4
    have HPX : Hid (∀ wx, Below w4.heap.size w4 wx → Calls Try.prog 7 #[.int .u8 x1] wx fun e w' => ∃ a c, e = .returned (.slice a ps.length c) ∧ IsStrs w' (.slice a ps.length c) ps ∧ Below w4.heap.size w4 w') := Lib.hid (fun wx hx => (HPV.out wx).mono fun e w' ⟨v', h1, h2, h3⟩ => by
      have h4 := h2
      obtain ⟨a, c, rfl, -⟩ := h4
      exact ⟨a, c, h1, h2, hx.trans (h3.mono hx.size)⟩)
    have HL0 : Hid (Below w4.heap.size w4 w4) := Lib.hid (Below.refl _ _)
    clear hi
    go_upto_region 9 with fail
    have y0 : ∀ wx, Below w4.heap.size w4 wx → wx.cell? ⟨gl, ol + i * 8, none⟩ = some (.int .i64 o.kind) := fun wx hx => (hM wx hx).1
    have y1 : ∀ wx, Below w4.heap.size w4 wx → wx.cell? ⟨gl, ol + i * 8 + 1, none⟩ = some (.string (Str o.key)) := fun wx hx => (hM wx hx).2.1
    have y2 : ∀ wx, Below w4.heap.size w4 wx → wx.cell? ⟨gl, ol + i * 8 + 2, none⟩ = some (.string (Str o.val)) := fun wx hx => (hM wx hx).2.2.1
    have y3 : ∀ wx, Below w4.heap.size w4 wx → wx.cell? ⟨gl, ol + i * 8 + 3, none⟩ = some (.string (Str o.lo)) := fun wx hx => (hM wx hx).2.2.2.1
    have y4 : ∀ wx, Below w4.heap.size w4 wx → wx.cell? ⟨gl, ol + i * 8 + 4, none⟩ = some (.string (Str o.hi)) := fun wx hx => (hM wx hx).2.2.2.2.1
    have y5 : ∀ wx, Below w4.heap.size w4 wx → wx.cell? ⟨gl, ol + i * 8 + 5, none⟩ = some (.string (Str o.src)) := fun wx hx => (hM wx hx).2.2.2.2.2.1
    have y6 : ∀ wx, Below w4.heap.size w4 wx → wx.cell? ⟨gl, ol + i * 8 + 6, none⟩ = some (.string (Str o.dst)) := fun wx hx => (hM wx hx).2.2.2.2.2.2.1
    have y7 : ∀ wx, Below w4.heap.size w4 wx → wx.cell? ⟨gl, ol + i * 8 + 7, none⟩ = some (.int .i64 o.n) := fun wx hx => (hM wx hx).2.2.2.2.2.2.2
    clear hM hma4
    go_cut [67] (fun s67 wx => s67 = .bool false ∧ Hid (Below w4.heap.size w4 wx))
    case first =>
      obtain ⟨o0, o1, o2, o3, o4, o5, o6, o7⟩ := o
      dsimp only at hkd y0 y1 y2 y3 y4 y5 y6 y7 HCX
      rcases hkd with rfl | rfl
      · refine wp_region_noPanic ?_
        refine wp_region_held_drew (S := fun wx => Below w4.heap.size w4 wx) (by kernel_rfl) (Below.drew HL0.out) (fun hHeld => ?_)
        refine wpAnyH_take (i := 0) (oi := _) (v := ?_) rfl (by kernel_rfl) (by kernel_rfl) (by kernel_rfl) (fun _ _ _ h => h) (Or.inl ⟨by kernel_rfl, ?_⟩) (by with_reducible assumption) ?_
        rotate_left
        · intro wt hSw
          go_simp
          all_goals with_reducible rfl
        try simp only [Act.put, List.setIfInBounds_toArray, List.set_cons_zero, List.set_cons_succ]
        refine wpAnyH_take (i := 1) (oi := _) (v := ?_) rfl (by kernel_rfl) (by kernel_rfl) (by kernel_rfl) (fun _ _ _ h => h) (Or.inl ⟨by kernel_rfl, ?_⟩) (by with_reducible assumption) ?_
        rotate_left
        · intro wt hSw
          go_simp
          all_goals with_reducible rfl
        try simp only [Act.put, List.setIfInBounds_toArray, List.set_cons_zero, List.set_cons_succ]
        refine wpAnyH_take (i := 2) (oi := _) (v := ?_) rfl (by kernel_rfl) (by kernel_rfl) (by kernel_rfl) (fun _ _ _ h => h) (Or.inl ⟨by kernel_rfl, ?_⟩) (by with_reducible assumption) ?_
        rotate_left
        · intro wt hSw
          go_simp
          all_goals with_reducible rfl
        try simp only [Act.put, List.setIfInBounds_toArray, List.set_cons_zero, List.set_cons_succ]
        refine wpAnyH_take (i := 3) (oi := _) (v := ?_) rfl (by kernel_rfl) (by kernel_rfl) (by kernel_rfl) (fun _ _ _ h => h) (Or.inl ⟨by kernel_rfl, ?_⟩) (by with_reducible assumption) ?_
        rotate_left
        · intro wt hSw
          go_simp
          all_goals with_reducible rfl
        try simp only [Act.put, List.setIfInBounds_toArray, List.set_cons_zero, List.set_cons_succ]
        refine wpAnyH_take (i := 4) (oi := _) (v := ?_) rfl (by kernel_rfl) (by kernel_rfl) (by kernel_rfl) (fun _ _ _ h => h) (Or.inl ⟨by kernel_rfl, ?_⟩) (by with_reducible assumption) ?_
        rotate_left
        · intro wt hSw
          go_simp
          all_goals with_reducible rfl
        try simp only [Act.put, List.setIfInBounds_toArray, List.set_cons_zero, List.set_cons_succ]
        refine wpAnyH_ready (rs := [5]) (by kernel_rfl) (by simp) ?_
        refine AllReadyH.cons (o := _) rfl (fun K hK => ?_) AllReadyH.nil
        go_simp
        (go_at_call 7; (refine (HPX.out _ (by with_reducible assumption)).mono ?_); rintro e2 y2' ⟨p2, c2, rfl, g2, hS2⟩)
        refine hK.out _ _ (by (first | with_reducible assumption | with_reducible refine Below.drew ?_)) (fun hHeld => ?_)
        clear hK K
        try simp only [List.setIfInBounds_toArray, List.set_cons_zero, List.set_cons_succ]
        refine wpAnyH_ready (rs := [6]) (by kernel_rfl) (by simp) ?_
        refine AllReadyH.cons (o := _) rfl (fun K hK => ?_) AllReadyH.nil
        go_simp
        (go_at_call 8; (refine (HCX.out _ _ (by with_reducible assumption) g2).mono ?_); rintro e3 y3' ⟨rfl, hS3⟩)
        refine hK.out _ _ (by (first | with_reducible assumption | with_reducible refine Below.drew ?_)) (fun hHeld => ?_)
        clear hK K
        try simp only [List.setIfInBounds_toArray, List.set_cons_zero, List.set_cons_succ]
        refine wpAnyH_take (i := 7) (oi := _) (v := ?_) rfl (by kernel_rfl) (by kernel_rfl) (by kernel_rfl) (fun _ _ _ h => h) (Or.inl ⟨by kernel_rfl, ?_⟩) (by with_reducible assumption) ?_
        rotate_left
        · intro wt hSw
          go_simp
          all_goals with_reducible rfl
        try simp only [Act.put, List.setIfInBounds_toArray, List.set_cons_zero, List.set_cons_succ]
        refine wpAnyH_take (i := 8) (oi := _) (v := ?_) rfl (by kernel_rfl) (by kernel_rfl) (by kernel_rfl) (fun _ _ _ h => h) (Or.inl ⟨by kernel_rfl, ?_⟩) (by with_reducible assumption) ?_
        rotate_left
        · intro wt hSw
          go_simp
          all_goals with_reducible rfl
        try simp only [Act.put, List.setIfInBounds_toArray, List.set_cons_zero, List.set_cons_succ]
        refine wpAnyH_take (i := 9) (oi := _) (v := ?_) rfl (by kernel_rfl) (by kernel_rfl) (by kernel_rfl) (fun _ _ _ h => h) (Or.inl ⟨by kernel_rfl, ?_⟩) (by with_reducible assumption) ?_
        rotate_left
        · intro wt hSw
          go_simp
          all_goals with_reducible rfl
        try simp only [Act.put, List.setIfInBounds_toArray, List.set_cons_zero, List.set_cons_succ]
        refine wpAnyH_take (i := 10) (oi := _) (v := ?_) rfl (by kernel_rfl) (by kernel_rfl) (by kernel_rfl) (fun _ _ _ h => h) (Or.inl ⟨by kernel_rfl, ?_⟩) (by with_reducible assumption) ?_
        rotate_left
        · intro wt hSw
          go_simp
          all_goals with_reducible rfl
        try simp only [Act.put, List.setIfInBounds_toArray, List.set_cons_zero, List.set_cons_succ]
        refine wpAnyH_take (i := 11) (oi := _) (v := ?_) rfl (by kernel_rfl) (by kernel_rfl) (by kernel_rfl) (fun _ _ _ h => h) (Or.inl ⟨by kernel_rfl, ?_⟩) (by with_reducible assumption) ?_
        rotate_left
        · intro wt hSw
          go_simp
          all_goals with_reducible rfl
        try simp only [Act.put, List.setIfInBounds_toArray, List.set_cons_zero, List.set_cons_succ]
        refine wpAnyH_take (i := 12) (oi := _) (v := ?_) rfl (by kernel_rfl) (by kernel_rfl) (by kernel_rfl) (fun _ _ _ h => h) (Or.inl ⟨by kernel_rfl, ?_⟩) (by with_reducible assumption) ?_
        rotate_left
        · intro wt hSw
          go_simp
          all_goals with_reducible rfl
        try simp only [Act.put, List.setIfInBounds_toArray, List.set_cons_zero, List.set_cons_succ]
        refine wpAnyH_take (i := 13) (oi := _) (v := ?_) rfl (by kernel_rfl) (by kernel_rfl) (by kernel_rfl) (fun _ _ _ h => h) (Or.inl ⟨by kernel_rfl, ?_⟩) (by with_reducible assumption) ?_
        rotate_left
        · intro wt hSw
          go_simp
          all_goals with_reducible rfl
        try simp only [Act.put, List.setIfInBounds_toArray, List.set_cons_zero, List.set_cons_succ]
        refine wpAnyH_take (i := 14) (oi := _) (v := ?_) rfl (by kernel_rfl) (by kernel_rfl) (by kernel_rfl) (fun _ _ _ h => h) (Or.inl ⟨by kernel_rfl, ?_⟩) (by with_reducible assumption) ?_
        rotate_left
        · intro wt hSw
          go_simp
          all_goals with_reducible rfl
        try simp only [Act.put, List.setIfInBounds_toArray, List.set_cons_zero, List.set_cons_succ]
        refine wpAnyH_take (i := 15) (oi := _) (v := ?_) rfl (by kernel_rfl) (by kernel_rfl) (by kernel_rfl) (fun _ _ _ h => h) (Or.inl ⟨by kernel_rfl, ?_⟩) (by with_reducible assumption) ?_
        rotate_left
        · intro wt hSw
          go_simp
          all_goals with_reducible rfl
        try simp only [Act.put, List.setIfInBounds_toArray, List.set_cons_zero, List.set_cons_succ]
        refine wpAnyH_take (i := 16) (oi := _) (v := undef) rfl (by kernel_rfl) (by kernel_rfl) (by kernel_rfl) (fun _ _ _ h => h) (Or.inr ⟨by kernel_rfl, rfl⟩) (by with_reducible assumption) ?_
        simp only [Act.put, List.getElem_toArray, List.getElem_cons_zero, List.getElem_cons_succ, List.setIfInBounds_toArray, List.set_cons_zero, List.set_cons_succ]
        refine wpAnyH_take (i := 17) (oi := _) (v := undef) rfl (by kernel_rfl) (by kernel_rfl) (by kernel_rfl) (fun _ _ _ h => h) (Or.inr ⟨by kernel_rfl, rfl⟩) (by with_reducible assumption) ?_
        simp only [Act.put, List.getElem_toArray, List.getElem_cons_zero, List.getElem_cons_succ, List.setIfInBounds_toArray, List.set_cons_zero, List.set_cons_succ]
        refine wpAnyH_take (i := 18) (oi := _) (v := undef) rfl (by kernel_rfl) (by kernel_rfl) (by kernel_rfl) (fun _ _ _ h => h) (Or.inr ⟨by kernel_rfl, rfl⟩) (by with_reducible assumption) ?_
        simp only [Act.put, List.getElem_toArray, List.getElem_cons_zero, List.getElem_cons_succ, List.setIfInBounds_toArray, List.set_cons_zero, List.set_cons_succ]
        refine wpAnyH_take (i := 19) (oi := _) (v := undef) rfl (by kernel_rfl) (by kernel_rfl) (by kernel_rfl) (fun _ _ _ h => h) (Or.inr ⟨by kernel_rfl, rfl⟩) (by with_reducible assumption) ?_
        simp only [Act.put, List.getElem_toArray, List.getElem_cons_zero, List.getElem_cons_succ, List.setIfInBounds_toArray, List.set_cons_zero, List.set_cons_succ]
        refine wpAnyH_take (i := 20) (oi := _) (v := undef) rfl (by kernel_rfl) (by kernel_rfl) (by kernel_rfl) (fun _ _ _ h => h) (Or.inr ⟨by kernel_rfl, rfl⟩) (by with_reducible assumption) ?_
        simp only [Act.put, List.getElem_toArray, List.getElem_cons_zero, List.getElem_cons_succ, List.setIfInBounds_toArray, List.set_cons_zero, List.set_cons_succ]
        refine wpAnyH_take (i := 21) (oi := _) (v := undef) rfl (by kernel_rfl) (by kernel_rfl) (by kernel_rfl) (fun _ _ _ h => h) (Or.inr ⟨by kernel_rfl, rfl⟩) (by with_reducible assumption) ?_
        simp only [Act.put, List.getElem_toArray, List.getElem_cons_zero, List.getElem_cons_succ, List.setIfInBounds_toArray, List.set_cons_zero, List.set_cons_succ]
        refine wpAnyH_take (i := 22) (oi := _) (v := ?_) rfl (by kernel_rfl) (by kernel_rfl) (by kernel_rfl) (fun _ _ _ h => h) (Or.inl ⟨by kernel_rfl, ?_⟩) (by with_reducible assumption) ?_
        rotate_left
        · intro wt hSw
          go_simp
          all_goals with_reducible rfl
        try simp only [Act.put, List.setIfInBounds_toArray, List.set_cons_zero, List.set_cons_succ]
        refine wpAnyH_take (i := 23) (oi := _) (v := ?_) rfl (by kernel_rfl) (by kernel_rfl) (by kernel_rfl) (fun _ _ _ h => h) (Or.inl ⟨by kernel_rfl, ?_⟩) (by with_reducible assumption) ?_
        rotate_left
        · intro wt hSw
          go_simp
          all_goals with_reducible rfl
        try simp only [Act.put, List.setIfInBounds_toArray, List.set_cons_zero, List.set_cons_succ]
        refine wpAnyH_done (by kernel_rfl) ?_ _
        refine NoPanic.normal ?_
        have HF := Lib.hid hHeld
        clear y0 y1 y2 y3 y4 y5 y6 y7
        go_wp2_with fail
        go_meet
        exact ⟨rfl, HF⟩
      · refine wp_region_noPanic ?_
        refine wp_region_held_drew (S := fun wx => Below w4.heap.size w4 wx) (by kernel_rfl) (Below.drew HL0.out) (fun hHeld => ?_)
        refine wpAnyH_take (i := 0) (oi := _) (v := ?_) rfl (by kernel_rfl) (by kernel_rfl) (by kernel_rfl) (fun _ _ _ h => h) (Or.inl ⟨by kernel_rfl, ?_⟩) (by with_reducible assumption) ?_
        rotate_left
        · intro wt hSw
          go_simp
          all_goals with_reducible rfl
        try simp only [Act.put, List.setIfInBounds_toArray, List.set_cons_zero, List.set_cons_succ]
        refine wpAnyH_take (i := 1) (oi := _) (v := ?_) rfl (by kernel_rfl) (by kernel_rfl) (by kernel_rfl) (fun _ _ _ h => h) (Or.inl ⟨by kernel_rfl, ?_⟩) (by with_reducible assumption) ?_
        rotate_left
        · intro wt hSw
          go_simp
          all_goals with_reducible rfl
        try simp only [Act.put, List.setIfInBounds_toArray, List.set_cons_zero, List.set_cons_succ]
        refine wpAnyH_take (i := 2) (oi := _) (v := ?_) rfl (by kernel_rfl) (by kernel_rfl) (by kernel_rfl) (fun _ _ _ h => h) (Or.inl ⟨by kernel_rfl, ?_⟩) (by with_reducible assumption) ?_
        rotate_left
        · intro wt hSw
          go_simp
          all_goals with_reducible rfl
        try simp only [Act.put, List.setIfInBounds_toArray, List.set_cons_zero, List.set_cons_succ]
        refine wpAnyH_take (i := 3) (oi := _) (v := ?_) rfl (by kernel_rfl) (by kernel_rfl) (by kernel_rfl) (fun _ _ _ h => h) (Or.inl ⟨by kernel_rfl, ?_⟩) (by with_reducible assumption) ?_
        rotate_left
        · intro wt hSw
          go_simp
          all_goals with_reducible rfl
        try simp only [Act.put, List.setIfInBounds_toArray, List.set_cons_zero, List.set_cons_succ]
        refine wpAnyH_take (i := 4) (oi := _) (v := ?_) rfl (by kernel_rfl) (by kernel_rfl) (by kernel_rfl) (fun _ _ _ h => h) (Or.inl ⟨by kernel_rfl, ?_⟩) (by with_reducible assumption) ?_
        rotate_left
        · intro wt hSw
          go_simp
          all_goals with_reducible rfl
        try simp only [Act.put, List.setIfInBounds_toArray, List.set_cons_zero, List.set_cons_succ]
        refine wpAnyH_ready (rs := [5]) (by kernel_rfl) (by simp) ?_
        refine AllReadyH.cons (o := _) rfl (fun K hK => ?_) AllReadyH.nil
        go_simp
        (go_at_call 7; (refine (HPX.out _ (by with_reducible assumption)).mono ?_); rintro e2 y2' ⟨p2, c2, rfl, g2, hS2⟩)
        refine hK.out _ _ (by (first | with_reducible assumption | with_reducible refine Below.drew ?_)) (fun hHeld => ?_)
        clear hK K
        try simp only [List.setIfInBounds_toArray, List.set_cons_zero, List.set_cons_succ]
        refine wpAnyH_ready (rs := [6]) (by kernel_rfl) (by simp) ?_
        refine AllReadyH.cons (o := _) rfl (fun K hK => ?_) AllReadyH.nil
        go_simp
        (go_at_call 8; (refine (HCX.out _ _ (by with_reducible assumption) g2).mono ?_); rintro e3 y3' ⟨rfl, hS3⟩)
        refine hK.out _ _ (by (first | with_reducible assumption | with_reducible refine Below.drew ?_)) (fun hHeld => ?_)
        clear hK K
        try simp only [List.setIfInBounds_toArray, List.set_cons_zero, List.set_cons_succ]
        refine wpAnyH_take (i := 7) (oi := _) (v := ?_) rfl (by kernel_rfl) (by kernel_rfl) (by kernel_rfl) (fun _ _ _ h => h) (Or.inl ⟨by kernel_rfl, ?_⟩) (by with_reducible assumption) ?_
        rotate_left
        · intro wt hSw
          go_simp
          all_goals with_reducible rfl
        try simp only [Act.put, List.setIfInBounds_toArray, List.set_cons_zero, List.set_cons_succ]
        refine wpAnyH_take (i := 8) (oi := _) (v := ?_) rfl (by kernel_rfl) (by kernel_rfl) (by kernel_rfl) (fun _ _ _ h => h) (Or.inl ⟨by kernel_rfl, ?_⟩) (by with_reducible assumption) ?_
        rotate_left
        · intro wt hSw
          go_simp
          all_goals with_reducible rfl
        try simp only [Act.put, List.setIfInBounds_toArray, List.set_cons_zero, List.set_cons_succ]
        refine wpAnyH_take (i := 9) (oi := _) (v := ?_) rfl (by kernel_rfl) (by kernel_rfl) (by kernel_rfl) (fun _ _ _ h => h) (Or.inl ⟨by kernel_rfl, ?_⟩) (by with_reducible assumption) ?_
        rotate_left
        · intro wt hSw
          go_simp
          all_goals with_reducible rfl
        try simp only [Act.put, List.setIfInBounds_toArray, List.set_cons_zero, List.set_cons_succ]
        refine wpAnyH_take (i := 10) (oi := _) (v := ?_) rfl (by kernel_rfl) (by kernel_rfl) (by kernel_rfl) (fun _ _ _ h => h) (Or.inl ⟨by kernel_rfl, ?_⟩) (by with_reducible assumption) ?_
        rotate_left
        · intro wt hSw
          go_simp
          all_goals with_reducible rfl
        try simp only [Act.put, List.setIfInBounds_toArray, List.set_cons_zero, List.set_cons_succ]
        refine wpAnyH_take (i := 11) (oi := _) (v := ?_) rfl (by kernel_rfl) (by kernel_rfl) (by kernel_rfl) (fun _ _ _ h => h) (Or.inl ⟨by kernel_rfl, ?_⟩) (by with_reducible assumption) ?_
        rotate_left
        · intro wt hSw
          go_simp
          all_goals with_reducible rfl
        try simp only [Act.put, List.setIfInBounds_toArray, List.set_cons_zero, List.set_cons_succ]
        refine wpAnyH_take (i := 12) (oi := _) (v := ?_) rfl (by kernel_rfl) (by kernel_rfl) (by kernel_rfl) (fun _ _ _ h => h) (Or.inl ⟨by kernel_rfl, ?_⟩) (by with_reducible assumption) ?_
        rotate_left
        · intro wt hSw
          go_simp
          all_goals with_reducible rfl
        try simp only [Act.put, List.setIfInBounds_toArray, List.set_cons_zero, List.set_cons_succ]
        refine wpAnyH_take (i := 13) (oi := _) (v := ?_) rfl (by kernel_rfl) (by kernel_rfl) (by kernel_rfl) (fun _ _ _ h => h) (Or.inl ⟨by kernel_rfl, ?_⟩) (by with_reducible assumption) ?_
        rotate_left
        · intro wt hSw
          go_simp
          all_goals with_reducible rfl
        try simp only [Act.put, List.setIfInBounds_toArray, List.set_cons_zero, List.set_cons_succ]
        refine wpAnyH_take (i := 14) (oi := _) (v := ?_) rfl (by kernel_rfl) (by kernel_rfl) (by kernel_rfl) (fun _ _ _ h => h) (Or.inl ⟨by kernel_rfl, ?_⟩) (by with_reducible assumption) ?_
        rotate_left
        · intro wt hSw
          go_simp
          all_goals with_reducible rfl
        try simp only [Act.put, List.setIfInBounds_toArray, List.set_cons_zero, List.set_cons_succ]
        refine wpAnyH_take (i := 15) (oi := _) (v := ?_) rfl (by kernel_rfl) (by kernel_rfl) (by kernel_rfl) (fun _ _ _ h => h) (Or.inl ⟨by kernel_rfl, ?_⟩) (by with_reducible assumption) ?_
        rotate_left
        · intro wt hSw
          go_simp
          all_goals with_reducible rfl
        try simp only [Act.put, List.setIfInBounds_toArray, List.set_cons_zero, List.set_cons_succ]
        refine wpAnyH_take (i := 16) (oi := _) (v := ?_) rfl (by kernel_rfl) (by kernel_rfl) (by kernel_rfl) (fun _ _ _ h => h) (Or.inl ⟨by kernel_rfl, ?_⟩) (by with_reducible assumption) ?_
        rotate_left
        · intro wt hSw
          go_simp
          all_goals with_reducible rfl
        try simp only [Act.put, List.setIfInBounds_toArray, List.set_cons_zero, List.set_cons_succ]
        refine wpAnyH_take (i := 17) (oi := _) (v := ?_) rfl (by kernel_rfl) (by kernel_rfl) (by kernel_rfl) (fun _ _ _ h => h) (Or.inl ⟨by kernel_rfl, ?_⟩) (by with_reducible assumption) ?_
        rotate_left
        · intro wt hSw
          go_simp
          all_goals with_reducible rfl
        try simp only [Act.put, List.setIfInBounds_toArray, List.set_cons_zero, List.set_cons_succ]
        refine wpAnyH_take (i := 18) (oi := _) (v := ?_) rfl (by kernel_rfl) (by kernel_rfl) (by kernel_rfl) (fun _ _ _ h => h) (Or.inl ⟨by kernel_rfl, ?_⟩) (by with_reducible assumption) ?_
        rotate_left
        · intro wt hSw
          go_simp
          all_goals with_reducible rfl
        try simp only [Act.put, List.setIfInBounds_toArray, List.set_cons_zero, List.set_cons_succ]
        refine wpAnyH_take (i := 19) (oi := _) (v := ?_) rfl (by kernel_rfl) (by kernel_rfl) (by kernel_rfl) (fun _ _ _ h => h) (Or.inl ⟨by kernel_rfl, ?_⟩) (by with_reducible assumption) ?_
        rotate_left
        · intro wt hSw
          go_simp
          all_goals with_reducible rfl
        try simp only [Act.put, List.setIfInBounds_toArray, List.set_cons_zero, List.set_cons_succ]
        refine wpAnyH_take (i := 20) (oi := _) (v := ?_) rfl (by kernel_rfl) (by kernel_rfl) (by kernel_rfl) (fun _ _ _ h => h) (Or.inl ⟨by kernel_rfl, ?_⟩) (by with_reducible assumption) ?_
        rotate_left
        · intro wt hSw
          go_simp
          all_goals with_reducible rfl
        try simp only [Act.put, List.setIfInBounds_toArray, List.set_cons_zero, List.set_cons_succ]
        refine wpAnyH_take (i := 21) (oi := _) (v := ?_) rfl (by kernel_rfl) (by kernel_rfl) (by kernel_rfl) (fun _ _ _ h => h) (Or.inl ⟨by kernel_rfl, ?_⟩) (by with_reducible assumption) ?_
        rotate_left
        · intro wt hSw
          go_simp
          all_goals with_reducible rfl
        try simp only [Act.put, List.setIfInBounds_toArray, List.set_cons_zero, List.set_cons_succ]
        refine wpAnyH_take (i := 22) (oi := _) (v := ?_) rfl (by kernel_rfl) (by kernel_rfl) (by kernel_rfl) (fun _ _ _ h => h) (Or.inl ⟨by kernel_rfl, ?_⟩) (by with_reducible assumption) ?_
        rotate_left
        · intro wt hSw
          go_simp
          all_goals with_reducible rfl
        try simp only [Act.put, List.setIfInBounds_toArray, List.set_cons_zero, List.set_cons_succ]
        refine wpAnyH_take (i := 23) (oi := _) (v := ?_) rfl (by kernel_rfl) (by kernel_rfl) (by kernel_rfl) (fun _ _ _ h => h) (Or.inl ⟨by kernel_rfl, ?_⟩) (by with_reducible assumption) ?_
        rotate_left
        · intro wt hSw
          go_simp
          all_goals with_reducible rfl
        try simp only [Act.put, List.setIfInBounds_toArray, List.set_cons_zero, List.set_cons_succ]
        refine wpAnyH_done (by kernel_rfl) ?_ _
        refine NoPanic.normal ?_
        have HF := Lib.hid hHeld
        clear y0 y1 y2 y3 y4 y5 y6 y7
        go_wp2_with fail
        go_meet
        exact ⟨rfl, HF⟩
    case rest =>
      obtain ⟨rfl, hcw⟩ := hcut
      clear y0 y1 y2 y3 y4 y5 y6 y7 HCX HPX HL0 hkd
      have HBC := Lib.hid (HB4.out.trans (hcw.out.mono HB4.out.size))
      have HBE := Lib.hid (HB2.out.trans (HBC.out.mono HB2.out.size))
      have hsc := HBC.out.size
      go_wp2
      go_loopw [10] (fun iv wr => ∃ k : Nat, k ≤ i ∧ iv = .int .i64 k ∧ Below wc.heap.size wc wr) (fun iv _ => i - (intOf iv).toNat)
      case atStart => exact ⟨0, Nat.zero_le _, rfl, Below.refl _ _⟩
      case round =>
        obtain ⟨k, hk, rfl, hbel⟩ := hrel
        have Hbel := Lib.hid hbel
        by_cases hlt : k < i
        · have hltz : (k : Int) < (i : Int) := by omega
          have hkn : k < n := by omega
          have hknz : (k : Int) < (n : Int) := by omega
          obtain ⟨hmem, hma⟩ := HCM.out k hkn
          have hcr := fun vp wx hp => HCR.out (Bf[k]'(by rw [← HN.out]; exact hkn)) hmem vp wx hp
          rw [HNC.out k hlt] at hcr
          have hma' := (hma.below HBC.out hgl).below hbel (Nat.lt_of_lt_of_le hgl hsc)
          have hgl' : gl < wr.heap.size := Nat.lt_of_lt_of_le (Nat.lt_of_lt_of_le hgl hsc) hbel.size
          generalize Bf[k]'(by rw [← HN.out]; exact hkn) = o at *
          have hM : ∀ wx, Below wr.heap.size wr wx → MAt wx gl (ol + k * 8) o := fun wx hx => hma'.below hx hgl'
          have HCX : Hid (∀ vp wx, Below wr.heap.size wr wx → IsStrs wx vp ps → Calls Try.prog 8 #[msgV o, vp] wx fun e w' => e = .returned (.bool false) ∧ Below wr.heap.size wr w') := Lib.hid (fun vp wx hx hp => (hcr vp wx hp).mono fun e w' ⟨h1, h2⟩ => ⟨h1, hx.trans (h2.mono hx.size)⟩)
          have HPX : Hid (∀ wx, Below wr.heap.size wr wx → Calls Try.prog 7 #[.int .u8 x1] wx fun e w' => ∃ a c, e = .returned (.slice a ps.length c) ∧ IsStrs w' (.slice a ps.length c) ps ∧ Below wr.heap.size wr w') := Lib.hid (fun wx hx => (HPV.out wx).mono fun e w' ⟨v', h1, h2, h3⟩ => by
            have h4 := h2
            obtain ⟨a, c, rfl, -⟩ := h4
            exact ⟨a, c, h1, h2, hx.trans (h3.mono hx.size)⟩)
          clear hmem hcr hma hma' hbel
          have HL0 : Hid (Below wr.heap.size wr wr) := Lib.hid (Below.refl _ _)
          have y0 : ∀ wx, Below wr.heap.size wr wx → wx.cell? ⟨gl, ol + k * 8, none⟩ = some (.int .i64 o.kind) := fun wx hx => (hM wx hx).1
          have y1 : ∀ wx, Below wr.heap.size wr wx → wx.cell? ⟨gl, ol + k * 8 + 1, none⟩ = some (.string (Str o.key)) := fun wx hx => (hM wx hx).2.1
          have y2 : ∀ wx, Below wr.heap.size wr wx → wx.cell? ⟨gl, ol + k * 8 + 2, none⟩ = some (.string (Str o.val)) := fun wx hx => (hM wx hx).2.2.1
          have y3 : ∀ wx, Below wr.heap.size wr wx → wx.cell? ⟨gl, ol + k * 8 + 3, none⟩ = some (.string (Str o.lo)) := fun wx hx => (hM wx hx).2.2.2.1
          have y4 : ∀ wx, Below wr.heap.size wr wx → wx.cell? ⟨gl, ol + k * 8 + 4, none⟩ = some (.string (Str o.hi)) := fun wx hx => (hM wx hx).2.2.2.2.1
          have y5 : ∀ wx, Below wr.heap.size wr wx → wx.cell? ⟨gl, ol + k * 8 + 5, none⟩ = some (.string (Str o.src)) := fun wx hx => (hM wx hx).2.2.2.2.2.1
          have y6 : ∀ wx, Below wr.heap.size wr wx → wx.cell? ⟨gl, ol + k * 8 + 6, none⟩ = some (.string (Str o.dst)) := fun wx hx => (hM wx hx).2.2.2.2.2.2.1
          have y7 : ∀ wx, Below wr.heap.size wr wx → wx.cell? ⟨gl, ol + k * 8 + 7, none⟩ = some (.int .i64 o.n) := fun wx hx => (hM wx hx).2.2.2.2.2.2.2
          clear hM
          go_upto_region 14 with fail
          go_cut [79] (fun s79 wx => s79 = .bool false ∧ Hid (Below wr.heap.size wr wx))
          case first =>
            go_region_held3 (fun wx => Below wr.heap.size wr wx)
              (repeat (first | with_reducible assumption | with_reducible exact HL0.out | with_reducible refine Below.drew ?_ | with_reducible refine keepAU ?_ _))
              (first
                | (go_at_call 7; (refine (HPX.out _ (by repeat (first | with_reducible assumption | with_reducible exact HL0.out | with_reducible refine Below.drew ?_))).mono ?_); rintro e2 y2' ⟨p2, c2, rfl, g2, hS2⟩)
                | (go_at_call 8; (refine (HCX.out _ _ (by repeat (first | with_reducible assumption | with_reducible exact HL0.out | with_reducible refine Below.drew ?_)) (by first | with_reducible exact g2 | exact g2.below (below_drewN _ 1))).mono ?_); rintro e3 y3' ⟨rfl, hS3⟩)
                | fail "no arm")
            all_goals (go_wp2_with fail; go_meet)
            all_goals exact ⟨rfl, Lib.hid hS3⟩
          case rest =>
            obtain ⟨rfl, hS⟩ := hcut
            clear y0 y1 y2 y3 y4 y5 y6 y7 HCX HPX
            have HF := Lib.hid (Hbel.out.trans (hS.out.mono Hbel.out.size))
            go_wp2
            go_roundw
            case rel => exact ⟨k + 1, by omega, by go_num, HF.out⟩
            case measure => simp [intOf]; omega
        · obtain rfl : k = i := by omega
          have HF := Lib.hid (HBE.out.trans (hbel.mono HBE.out.size))
          clear hbel hlt
          go_wp2
          go_ret
          exact ⟨by first | rfl | simp, HF.out⟩
  · have HNC : Hid (∀ k (h : k < n), crossB (Bf[k]'(by rw [← HN.out]; exact h)) ps = false) := Lib.hid (fun k h => h2 k (by rw [← HN.out]; exact h))
    rw [h1]
    dsimp only
    have HBE := Lib.hid (HB2.out.trans (HB4.out.mono HB2.out.size))
    clear h1 h2 HSP
    by_cases h0 : n = 0
    · subst h0
      go_wp2
      go_loopw [10] (fun i wr => i = .int .i64 0 ∧ Below w4.heap.size w4 wr) (fun i _ => 0)
      case atStart => exact ⟨rfl, Below.refl _ _⟩
      case round =>
        obtain ⟨rfl, hbel⟩ := hrel
        have HF := Lib.hid (HBE.out.trans (hbel.mono HBE.out.size))
        clear hbel
        go_wp2
        go_ret
        exact ⟨by first | rfl | simp, HF.out⟩
    · obtain ⟨rfl, hgl, -⟩ := HCL.out 0 (by rw [← HN.out]; omega)
      have HCM : Hid (∀ k (h : k < n), Bf[k]'(by rw [← HN.out]; exact h) ∈ Bf ∧ MAt w2 gl (ol + k * 8) (Bf[k]'(by rw [← HN.out]; exact h))) := Lib.hid (fun k h => (HCL.out k (by rw [← HN.out]; exact h)).2.2)
      clear HCL
      go_wp2
      go_loopw [10] (fun iv wr => ∃ k : Nat, k ≤ n ∧ iv = .int .i64 k ∧ Below w4.heap.size w4 wr) (fun iv _ => n - (intOf iv).toNat)
      case atStart => exact ⟨0, Nat.zero_le _, rfl, Below.refl _ _⟩
      case round =>
        obtain ⟨k, hk, rfl, hbel⟩ := hrel
        have Hbel := Lib.hid hbel
        by_cases hlt : k < n
        · have hltz : (k : Int) < (n : Int) := by omega
          have hkn : k < n := by omega
          have hknz : (k : Int) < (n : Int) := by omega
          obtain ⟨hmem, hma⟩ := HCM.out k hkn
          have hcr := fun vp wx hp => HCR.out (Bf[k]'(by rw [← HN.out]; exact hkn)) hmem vp wx hp
          rw [HNC.out k hlt] at hcr
          have hma' := (hma.below HB4.out hgl).below hbel (Nat.lt_of_lt_of_le hgl hs4)
          have hgl' : gl < wr.heap.size := Nat.lt_of_lt_of_le (Nat.lt_of_lt_of_le hgl hs4) hbel.size
          generalize Bf[k]'(by rw [← HN.out]; exact hkn) = o at *
          have hM : ∀ wx, Below wr.heap.size wr wx → MAt wx gl (ol + k * 8) o := fun wx hx => hma'.below hx hgl'
          have HCX : Hid (∀ vp wx, Below wr.heap.size wr wx → IsStrs wx vp ps → Calls Try.prog 8 #[msgV o, vp] wx fun e w' => e = .returned (.bool false) ∧ Below wr.heap.size wr w') := Lib.hid (fun vp wx hx hp => (hcr vp wx hp).mono fun e w' ⟨h1, h2⟩ => ⟨h1, hx.trans (h2.mono hx.size)⟩)
          have HPX : Hid (∀ wx, Below wr.heap.size wr wx → Calls Try.prog 7 #[.int .u8 x1] wx fun e w' => ∃ a c, e = .returned (.slice a ps.length c) ∧ IsStrs w' (.slice a ps.length c) ps ∧ Below wr.heap.size wr w') := Lib.hid (fun wx hx => (HPV.out wx).mono fun e w' ⟨v', h1, h2, h3⟩ => by
            have h4 := h2
            obtain ⟨a, c, rfl, -⟩ := h4
            exact ⟨a, c, h1, h2, hx.trans (h3.mono hx.size)⟩)
          clear hmem hcr hma hma' hbel
          have HL0 : Hid (Below wr.heap.size wr wr) := Lib.hid (Below.refl _ _)
          have y0 : ∀ wx, Below wr.heap.size wr wx → wx.cell? ⟨gl, ol + k * 8, none⟩ = some (.int .i64 o.kind) := fun wx hx => (hM wx hx).1
          have y1 : ∀ wx, Below wr.heap.size wr wx → wx.cell? ⟨gl, ol + k * 8 + 1, none⟩ = some (.string (Str o.key)) := fun wx hx => (hM wx hx).2.1
          have y2 : ∀ wx, Below wr.heap.size wr wx → wx.cell? ⟨gl, ol + k * 8 + 2, none⟩ = some (.string (Str o.val)) := fun wx hx => (hM wx hx).2.2.1
          have y3 : ∀ wx, Below wr.heap.size wr wx → wx.cell? ⟨gl, ol + k * 8 + 3, none⟩ = some (.string (Str o.lo)) := fun wx hx => (hM wx hx).2.2.2.1
          have y4 : ∀ wx, Below wr.heap.size wr wx → wx.cell? ⟨gl, ol + k * 8 + 4, none⟩ = some (.string (Str o.hi)) := fun wx hx => (hM wx hx).2.2.2.2.1
          have y5 : ∀ wx, Below wr.heap.size wr wx → wx.cell? ⟨gl, ol + k * 8 + 5, none⟩ = some (.string (Str o.src)) := fun wx hx => (hM wx hx).2.2.2.2.2.1
          have y6 : ∀ wx, Below wr.heap.size wr wx → wx.cell? ⟨gl, ol + k * 8 + 6, none⟩ = some (.string (Str o.dst)) := fun wx hx => (hM wx hx).2.2.2.2.2.2.1
          have y7 : ∀ wx, Below wr.heap.size wr wx → wx.cell? ⟨gl, ol + k * 8 + 7, none⟩ = some (.int .i64 o.n) := fun wx hx => (hM wx hx).2.2.2.2.2.2.2
          clear hM
          go_upto_region 14 with fail
          go_cut [79] (fun s79 wx => s79 = .bool false ∧ Hid (Below wr.heap.size wr wx))
          case first =>
            go_region_held3 (fun wx => Below wr.heap.size wr wx)
              (repeat (first | with_reducible assumption | with_reducible exact HL0.out | with_reducible refine Below.drew ?_ | with_reducible refine keepAU ?_ _))
              (first
                | (go_at_call 7; (refine (HPX.out _ (by repeat (first | with_reducible assumption | with_reducible exact HL0.out | with_reducible refine Below.drew ?_))).mono ?_); rintro e2 y2' ⟨p2, c2, rfl, g2, hS2⟩)
                | (go_at_call 8; (refine (HCX.out _ _ (by repeat (first | with_reducible assumption | with_reducible exact HL0.out | with_reducible refine Below.drew ?_)) (by first | with_reducible exact g2 | exact g2.below (below_drewN _ 1))).mono ?_); rintro e3 y3' ⟨rfl, hS3⟩)
                | fail "no arm")
            all_goals (go_wp2_with fail; go_meet)
            all_goals exact ⟨rfl, Lib.hid hS3⟩
          case rest =>
            obtain ⟨rfl, hS⟩ := hcut
            clear y0 y1 y2 y3 y4 y5 y6 y7 HCX HPX
            have HF := Lib.hid (Hbel.out.trans (hS.out.mono Hbel.out.size))
            go_wp2
            go_roundw
            case rel => exact ⟨k + 1, by omega, by go_num, HF.out⟩
            case measure => simp [intOf]; omega
        · obtain rfl : k = n := by omega
          have HF := Lib.hid (HBE.out.trans (hbel.mono HBE.out.size))
          clear hbel hlt
          go_wp2
          go_ret
          exact ⟨by first | rfl | simp, HF.out⟩

end Go.Proofs.Ytfpcaoacbjhkgaa
