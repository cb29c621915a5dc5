/-
  Walks of reference 09: Turn and First.
-/
import Derived.Laws.Rows
import Derived.Test.YtfpcaoacbjhkgaaGreatUM
import Derived.Test.YtfpcaoacbjhkgaaGreatUZ2
namespace Go.Proofs.YtfpcaoacbjhkgaaGreat
open Go.RowKit Go.Sort
set_option linter.unusedVariables false
set_option linter.unusedSimpArgs false

set_option maxRecDepth 100000 in
set_option maxHeartbeats 4000000 in
theorem rturn9_w (v sv : Value) (l : List Ms) (src : List Pr) (w : World) (hm : IsMsgs w v l) (hz : ∀ m ∈ l, SizeM m) (hI : IsPairs w sv src) (hl : src.length ≤ 100000000) (hll : l.length ≤ 100000000)
    (hk : ∀ m r, l = m :: r → movesB m = true → ∀ x ∈ src, m.src.isPrefixOf x.1 = true ∧ x.1.length ≤ 1000000000) :
    Calls Tryz.prog 33 #[v, sv] w (TurnOut w l src) := by
  have mixed := mixedA
  unfold TurnOut
  have HI := Lib.hid hI
  obtain ⟨ap, cp, rfl, -⟩ := hI
  cases l with
  | nil =>
    obtain ⟨a, c, rfl, -⟩ := hm
    go_enter Tryz.func33, Tryz.ntmps33
    go_wp2
    go_ret2
    exact ⟨_, rfl, isMsgs_nilU w, Below.refl _ _⟩
  | cons m r =>
    have HM := Lib.hid hm
    obtain ⟨b, off, cap, a, rfl, hlc, hcm, hab, hc⟩ := hm.form
    obtain ⟨rfl, h0⟩ := hc 0 (by simp)
    simp only [Nat.zero_mul, Nat.add_zero, List.getElem_cons_zero] at h0
    obtain ⟨-, hbl⟩ := hab (by simp)
    have hmv := fun wx => r9moves_w m wx
    have hzm := hz m (by simp)
    obtain ⟨x0, x1, x2, x3, x4, x5, x6, x7⟩ := h0
    have hn : 0 < (m :: r).length := by simp
    have htl := msgs_sliced hm 1 (by simp)
    rw [List.drop_one, List.tail_cons] at htl
    have HSL0 := Lib.hid (fun wx => mslice_l (some ⟨b, off, none⟩) (m :: r).length cap 1 (by simp) wx)
    obtain ⟨pt, nt, ct, hvt⟩ : ∃ pt nt ct, sliced (some ⟨b, off, none⟩) 1 (m :: r).length cap 8 = .slice pt nt ct := ⟨_, _, _, rfl⟩
    rw [hvt] at htl HSL0
    have HTL := Lib.hid htl
    clear hvt
    unfold maxLen at hcm
    clear hm hc hab htl hz
    have hll0 := hll
    obtain ⟨n, hne⟩ : ∃ n, n = (m :: r).length := ⟨_, rfl⟩
    rw [← hne] at hn HM HSL0 hll hlc ⊢
    have HNE := Lib.hid hne
    clear hne
    have hnz : (0 : Int) < (n : Int) := by omega
    have hnb : ((n : Int) == 0) = false := by simp; omega
    cases hmb : movesB m with
    | false =>
      rw [hmb] at hmv
      have HMV := Lib.hid hmv
      have e1 : turnB (m :: r) = false := hmb
      have e2 : turnR (m :: r) src = [] := by unfold turnR; rw [e1]; rfl
      rw [e1, e2]
      clear hmv hmb hk e1 e2 HTL
      go_enter Tryz.func33, Tryz.ntmps33
      go_wp2_with (go_at_call 72; refine (HMV.out _).mono ?_; rintro e w1 ⟨rfl, hg⟩; have HG := Lib.hid hg; clear hg)
      go_ret2
      exact ⟨_, rfl, isMsgs_nilU _, HG.out.below (Nat.le_refl _)⟩
    | true =>
      rw [hmb] at hmv
      have HMV := Lib.hid hmv
      have e1 : turnB (m :: r) = true := hmb
      have e2 : turnR (m :: r) src = settledS m src ++ r := by unfold turnR; rw [e1]; rfl
      rw [e1, e2]
      have hkk := hk m r rfl hmb
      have hrl : n = r.length + 1 := by rw [HNE.out]; rfl
      have HR : Hid (n - 1 = r.length) := Lib.hid (by omega)
      have hsl := settled_len m src
      have HLI : Hid (∀ wx, Below w.heap.size w wx → Calls Tryz.prog 31 #[msgV m, .slice ap src.length cp] wx fun e w' => ∃ v', e = .returned v' ∧ OwnM w' w.heap.size v' (settledS m src) ∧ Below w.heap.size w w') := Lib.hid (fun wx hx => (r9list_w m _ src wx hl hzm hkk (HI.out.below hx)).mono fun e w' ⟨v', he, ho, hb⟩ => ⟨v', he, ownM_low hx.size ho, hx.trans (hb.mono hx.size)⟩)
      have HTT : Hid (∀ wx, Below w.heap.size w wx → IsMsgs wx (.slice pt nt ct) r) := Lib.hid (fun wx hx => HTL.out.below hx)
      generalize settledS m src = L at *
      have hlr : L.length + r.length ≤ 1000000000 := by rw [List.length_cons] at hll0; omega
      clear hmv hmb hk e1 e2 HTL hkk hsl hrl
      have h1n : 1 ≤ n := hn
      have h1z : (1 : Int) ≤ (n : Int) := by omega
      have hncz : (n : Int) ≤ (cap : Int) := by omega
      have HN1 : Hid (∀ wx, Below w.heap.size w wx → wx.cell? ⟨b, off, none⟩ = some (.int .i64 m.kind)) := Lib.hid (fun wx hx => (hx.cell (p := ⟨b, off, none⟩) hbl).trans x0)
      go_enter Tryz.func33, Tryz.ntmps33
      go_wp2_with (go_at_call 72; refine (HMV.out _).mono ?_; rintro e w1 ⟨rfl, hg⟩; have HG := Lib.hid (hg.below (Nat.le_refl w.heap.size)); clear hg)
      have y0 : ∀ wx, Below w.heap.size w wx → wx.cell? ⟨b, off, none⟩ = some (.int .i64 m.kind) := fun wx hx => (hx.cell (p := ⟨b, off, none⟩) hbl).trans x0
      have y1 : ∀ wx, Below w.heap.size w wx → wx.cell? ⟨b, off + 1, none⟩ = some (.string (Str m.key)) := fun wx hx => (hx.cell (p := ⟨b, off + 1, none⟩) hbl).trans x1
      have y2 : ∀ wx, Below w.heap.size w wx → wx.cell? ⟨b, off + 2, none⟩ = some (.string (Str m.val)) := fun wx hx => (hx.cell (p := ⟨b, off + 2, none⟩) hbl).trans x2
      have y3 : ∀ wx, Below w.heap.size w wx → wx.cell? ⟨b, off + 3, none⟩ = some (.string (Str m.lo)) := fun wx hx => (hx.cell (p := ⟨b, off + 3, none⟩) hbl).trans x3
      have y4 : ∀ wx, Below w.heap.size w wx → wx.cell? ⟨b, off + 4, none⟩ = some (.string (Str m.hi)) := fun wx hx => (hx.cell (p := ⟨b, off + 4, none⟩) hbl).trans x4
      have y5 : ∀ wx, Below w.heap.size w wx → wx.cell? ⟨b, off + 5, none⟩ = some (.string (Str m.src)) := fun wx hx => (hx.cell (p := ⟨b, off + 5, none⟩) hbl).trans x5
      have y6 : ∀ wx, Below w.heap.size w wx → wx.cell? ⟨b, off + 6, none⟩ = some (.string (Str m.dst)) := fun wx hx => (hx.cell (p := ⟨b, off + 6, none⟩) hbl).trans x6
      have y7 : ∀ wx, Below w.heap.size w wx → wx.cell? ⟨b, off + 7, none⟩ = some (.int .i64 m.n) := fun wx hx => (hx.cell (p := ⟨b, off + 7, none⟩) hbl).trans x7
      have hslc : ∀ wx, (Instr.slice 25 (.slice (some ⟨b, off, none⟩) n cap) (some (.int .i64 1)) none none).run Tryz.prog wx = .ok (.slice pt nt ct) wx := HSL0.out
      refine wp_region_noPanic ?_
      refine wp_region_held_drew (S := fun wx => Below w.heap.size w wx) (by kernel_rfl) (Below.drew HG.out) (fun hHeld => ?_)
      refine wpAnyH_take (i := 0) (oi := _) (v := ?_) rfl (by kernel_rfl) (by kernel_rfl) (by kernel_rfl) (fun _ _ _ h => h) (Or.inl ⟨by kernel_rfl, ?_⟩) (by with_reducible assumption) ?_
      rotate_left
      · intro wt hSw
        go_simp
        all_goals with_reducible rfl
      try simp only [Act.put, List.setIfInBounds_toArray, List.set_cons_zero, List.set_cons_succ]
      refine wpAnyH_take (i := 1) (oi := _) (v := ?_) rfl (by kernel_rfl) (by kernel_rfl) (by kernel_rfl) (fun _ _ _ h => h) (Or.inl ⟨by kernel_rfl, ?_⟩) (by with_reducible assumption) ?_
      rotate_left
      · intro wt hSw
        go_simp
        all_goals with_reducible rfl
      try simp only [Act.put, List.setIfInBounds_toArray, List.set_cons_zero, List.set_cons_succ]
      refine wpAnyH_take (i := 2) (oi := _) (v := ?_) rfl (by kernel_rfl) (by kernel_rfl) (by kernel_rfl) (fun _ _ _ h => h) (Or.inl ⟨by kernel_rfl, ?_⟩) (by with_reducible assumption) ?_
      rotate_left
      · intro wt hSw
        go_simp
        all_goals with_reducible rfl
      try simp only [Act.put, List.setIfInBounds_toArray, List.set_cons_zero, List.set_cons_succ]
      refine wpAnyH_take (i := 3) (oi := _) (v := ?_) rfl (by kernel_rfl) (by kernel_rfl) (by kernel_rfl) (fun _ _ _ h => h) (Or.inl ⟨by kernel_rfl, ?_⟩) (by with_reducible assumption) ?_
      rotate_left
      · intro wt hSw
        go_simp
        all_goals with_reducible rfl
      try simp only [Act.put, List.setIfInBounds_toArray, List.set_cons_zero, List.set_cons_succ]
      refine wpAnyH_take (i := 5) (oi := _) (v := ?_) rfl (by kernel_rfl) (by kernel_rfl) (by kernel_rfl) (fun _ _ _ h => h) (Or.inl ⟨by kernel_rfl, ?_⟩) (by with_reducible assumption) ?_
      rotate_left
      · intro wt hSw
        go_simp
        all_goals with_reducible rfl
      try simp only [Act.put, List.setIfInBounds_toArray, List.set_cons_zero, List.set_cons_succ]
      refine wpAnyH_take (i := 6) (oi := _) (v := ?_) rfl (by kernel_rfl) (by kernel_rfl) (by kernel_rfl) (fun _ _ _ h => h) (Or.inl ⟨by kernel_rfl, ?_⟩) (by with_reducible assumption) ?_
      rotate_left
      · intro wt hSw
        go_simp
        all_goals with_reducible rfl
      try simp only [Act.put, List.setIfInBounds_toArray, List.set_cons_zero, List.set_cons_succ]
      refine wpAnyH_ready (rs := [4]) (by kernel_rfl) (by simp) ?_
      refine AllReadyH.cons (o := _) rfl (fun K hK => ?_) AllReadyH.nil
      go_simp
      (go_at_call 31; (refine (HLI.out _ (by repeat (first | with_reducible assumption | with_reducible exact HG.out | with_reducible refine Below.drew ?_))).mono ?_); rintro e2 y2' ⟨v2, rfl, hO2, hS2⟩)
      refine hK.out _ _ (by (repeat (first | with_reducible assumption | with_reducible exact HG.out | with_reducible refine Below.drew ?_ | with_reducible refine keepAU ?_ _))) (fun hHeld => ?_)
      clear hK K
      try simp only [List.setIfInBounds_toArray, List.set_cons_zero, List.set_cons_succ]
      refine wpAnyH_ready (rs := [7]) (by kernel_rfl) (by simp) ?_
      refine AllReadyH.cons (o := _) rfl (fun K hK => ?_) AllReadyH.nil
      (refine step_msgs rfl _ _ rfl w.heap.size v2 L rfl (by first | with_reducible exact hO2 | exact hO2 | exact hO2.below (below_drewN _ 1)) pt nt ct r rfl (HTT.out _ (by first | with_reducible exact hS2 | with_reducible exact hS2.drew)) hlr (Below.size (by first | with_reducible exact hS2 | with_reducible exact hS2.drew)) ?_; intro v3 y3' hL3 hT3; have hS3 : Below w.heap.size w y3' := Below.trans (by first | with_reducible exact hS2 | with_reducible exact hS2.drew) (turn_below (by first | with_reducible exact hO2 | exact hO2 | exact hO2.below (below_drewN _ 1)) hT3 (Below.size (by first | with_reducible exact hS2 | with_reducible exact hS2.drew))))
      refine hK.out _ _ (by (repeat (first | with_reducible assumption | with_reducible exact HG.out | with_reducible refine Below.drew ?_ | with_reducible refine keepAU ?_ _))) (fun hHeld => ?_)
      clear hK K
      try simp only [List.setIfInBounds_toArray, List.set_cons_zero, List.set_cons_succ]
      refine wpAnyH_ready (rs := [8]) (by kernel_rfl) (by simp) ?_
      refine AllReadyH.cons (o := _) rfl (fun K hK => ?_) AllReadyH.nil
      go_simp
      refine hK.out _ _ (by (repeat (first | with_reducible assumption | with_reducible exact HG.out | with_reducible refine Below.drew ?_ | with_reducible refine keepAU ?_ _))) (fun hHeld => ?_)
      clear hK K
      try simp only [List.setIfInBounds_toArray, List.set_cons_zero, List.set_cons_succ]
      refine wpAnyH_ready (rs := [9]) (by kernel_rfl) (by simp) ?_
      refine AllReadyH.cons (o := _) rfl (fun K hK => ?_) AllReadyH.nil
      go_simp
      refine hK.out _ _ (by (repeat (first | with_reducible assumption | with_reducible exact HG.out | with_reducible refine Below.drew ?_ | with_reducible refine keepAU ?_ _))) (fun hHeld => ?_)
      clear hK K
      try simp only [List.setIfInBounds_toArray, List.set_cons_zero, List.set_cons_succ]
      refine wpAnyH_done (by kernel_rfl) ?_ _
      refine NoPanic.normal ?_
      go_wp2
      go_ret2
      exact ⟨_, rfl, hL3.msgs, hS3⟩

set_option maxRecDepth 100000 in
set_option maxHeartbeats 4000000 in
theorem rfirst9_w (v vp : Value) (l : List Ms) (ps : List Bs) (w : World) (hm : IsMsgs w v l) (hp : IsStrs w vp ps) (hs : SrtP ps) (hz : ∀ m ∈ l, SizeM m ∧ OneToSix m) (hl : ps.length ≤ 1000) :
    Calls Tryz.prog 34 #[v, vp] w fun e w' => e = .returned (.agg #[.int .i64 ((firstF ps l 0).1 : Nat), .bool (firstF ps l 0).2]) ∧ Below w.heap.size w w' := by
  have mixed := mixedA
  obtain ⟨b, off, cap, a, rfl, hlc, hcm, hab, hc⟩ := hm.form
  unfold maxLen at hcm
  have HC : Hid (∀ i (h : i < l.length), a = some ⟨b, off, none⟩ ∧ b < w.heap.size ∧ MAt w b (off + i * 8) l[i]) := Lib.hid (fun i h => ⟨(hc i h).1, (hab (by rintro rfl; simp at h)).2, (hc i h).2⟩)
  have HP := Lib.hid hp
  have HZ := Lib.hid (fun i (h : i < l.length) => hz l[i] (List.getElem_mem h))
  have hcr := Lib.hid (fun m wx (hzm : SizeM m ∧ OneToSix m) (hx : Below w.heap.size w wx) => rcrosses_w m vp ps wx hzm.1 hzm.2 (hp.below hx) hs hl)
  obtain ⟨ap, cp, rfl, -⟩ := id hp
  have HF0 : Hid (firstF ps (l.drop 0) 0 = firstF ps l 0) := Lib.hid rfl
  have HST := Lib.hid (fun k (h : k < l.length) => firstF_drop ps l k h)
  have HFN : Hid (firstF ps (l.drop l.length) l.length = (0, false)) := Lib.hid (by rw [List.drop_length]; rfl)
  clear hm hc hab hp hs hz hl
  generalize firstF ps l 0 = R at *
  obtain ⟨W1, hW1⟩ : ∃ W1, W1 = w.alloc (.cells #[.int .i64 0, .bool false] 56) := ⟨_, rfl⟩
  have HB1 : Hid (Blk W1 w.heap.size 56 #[.int .i64 0, .bool false]) := Lib.hid (by rw [hW1]; exact Blk.new _ _ _)
  have HG1 : Hid (Below w.heap.size w W1) := Lib.hid (by rw [hW1]; exact below_box _)
  have HW1 := Lib.hid hW1
  clear hW1
  go_enter Tryz.func34, Tryz.ntmps34
  go_wp2
  rw [← HW1.out]
  go_loopw [5] (fun i wr => ∃ k : Nat, k ≤ l.length ∧ i = .int .i64 k ∧ Hid (firstF ps (l.drop k) k = R) ∧ Below w.heap.size w wr ∧ Blk wr w.heap.size 56 #[.int .i64 0, .bool false]) (fun i _ => l.length - (intOf i).toNat)
  case atStart => exact ⟨0, Nat.zero_le _, rfl, HF0, HG1.out, HB1.out⟩
  case round =>
    obtain ⟨k, hk, rfl, HR, hbel, hbx⟩ := hrel
    have HBX := Lib.hid hbx
    have Hbel := Lib.hid hbel
    by_cases hlt : k < l.length
    · have hltz : (k : Int) < (l.length : Int) := by omega
      obtain ⟨rfl, hbl, hma⟩ := HC.out k hlt
      have hzm := HZ.out k hlt
      have hst := HST.out k hlt
      rw [HR.out] at hst
      have hma := hma.below hbel hbl
      generalize l[k] = x at *
      have HX := Lib.hid (fun wx (hx : Below w.heap.size w wx) => hcr.out x wx hzm hx)
      have hbs := hbel.size
      obtain ⟨c0, c1, c2, c3, c4, c5, c6, c7⟩ := hma
      clear hbel hzm hbx
      cases hcb : crossB x ps with
      | true =>
        rw [hcb, if_pos rfl] at hst
        rw [hcb] at HX
        have HE := Lib.hid hst
        clear hst hcb
        go_wp2_with (go_at_call 20; refine (HX.out _ Hbel.out).mono ?_; rintro e w5 ⟨rfl, hb5⟩; have HB5 := Lib.hid (Hbel.out.trans (hb5.mono hbs)); have HK5 := Lib.hid (HBX.out.below hb5 HBX.out.lt); have d0 := HK5.out.c0 0 _ rfl; have d1 := HK5.out.c0 1 _ rfl; have d2 := HK5.out.free 0; have d3 := HK5.out.free 1; clear hb5)
        (try simp only [Exit.inBlock, Exit.then])
        refine bodyPost_ret (results_cell_row rfl _ _ w.heap.size _ _ _ _ rfl ((HK5.out.setCell 0 (.int .i64 k)).setCell 1 (.bool true)) Tryz.underlying56 (by kernel_rfl) (by kernel_rfl)) rfl ?_
        exact ⟨by rw [HE.out]; first | rfl | simp, (HB5.out.setCell (Nat.le_refl _) _).setCell (Nat.le_refl _) _⟩
      | false =>
        rw [hcb, if_neg (by simp)] at hst
        rw [hcb] at HX
        have HE := Lib.hid hst.symm
        clear hst hcb
        go_wp2_with (go_at_call 20; refine (HX.out _ Hbel.out).mono ?_; rintro e w5 ⟨rfl, hb5⟩; have HB5 := Lib.hid (Hbel.out.trans (hb5.mono hbs)); have HK5 := Lib.hid (HBX.out.below hb5 HBX.out.lt); clear hb5)
        go_roundw
        case rel => exact ⟨k + 1, by omega, by go_num, HE, HB5.out, HK5.out⟩
        case measure => simp [intOf]; omega
    · obtain rfl : k = l.length := by omega
      have HE := Lib.hid (HR.out.symm.trans HFN.out)
      clear hbel hbx
      have d0 := HBX.out.c0 0 _ rfl
      have d1 := HBX.out.c0 1 _ rfl
      have d2 := HBX.out.free 0
      have d3 := HBX.out.free 1
      go_wp2
      (try simp only [Exit.inBlock, Exit.then])
      refine bodyPost_ret (results_cell_row rfl _ _ w.heap.size _ _ _ _ rfl ((HBX.out.setCell 0 (.int .i64 0)).setCell 1 (.bool false)) Tryz.underlying56 (by kernel_rfl) (by kernel_rfl)) rfl ?_
      exact ⟨by rw [HE.out]; first | rfl | simp, (Hbel.out.setCell (Nat.le_refl _) _).setCell (Nat.le_refl _) _⟩

end Go.Proofs.YtfpcaoacbjhkgaaGreat
