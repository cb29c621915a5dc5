/-
  The walk of the law SettleRepeats.
-/
import Derived.Test.YtfpcaoacbjhkgaaGreatUT
namespace Go.Proofs.YtfpcaoacbjhkgaaGreat
open Go.RowKit Go.Sort
set_option linter.unusedVariables false

set_option maxRecDepth 100000 in
set_option maxHeartbeats 8000000 in
theorem settleRepeats_walk (w : World) (v0 : Value) (x0 : List Rw) (h0 : T4.IsRaws w v0 x0) (v1 : Value) (x1 : List R6) (h1 : IsR6s w v1 x1) :
    Calls Tryz.prog 9 #[v0, v1] w fun e w' => e = .returned (.bool true) ∧ Below w.heap.size w w' := by
  have mixed := mixedA
  have H0 := Lib.hid h0
  have H1 := Lib.hid h1
  clear h0 h1
  have HT0 := Lib.hid (fun wx (h : T4.IsRaws wx v0 x0) => T4.made_w v0 x0 wx h)
  have HL0 := Lib.hid (fun wx (h : IsR6s wx v1 x1) => list_w v1 x1 8 wx h (by decide))
  have hrep := repU x0 x1
  have hml := listS_len x1 8
  generalize T4.madeS x0 = T at *
  generalize listS x1 8 = B at *
  have HREP := Lib.hid hrep
  have HAL := Lib.hid (fun v u wx (h : IsPairs wx v T) (k : IsMsgs wx u (settleL B T)) => all_w v u T _ wx h k hrep.srt hrep.size hrep.okL)
  rw [settleL_all] at HAL
  have HSTL := Lib.hid (fun k (h : k < (settleL B T).length) => settleL_still B T (settleL B T)[k] (List.getElem_mem h))
  have HLL : Hid ((settleL B T).length ≤ 200000) := Lib.hid (by have := hrep.len B.length (Nat.le_refl _); rw [List.take_length] at this; exact this)
  clear hrep
  go_enter Tryz.func9, Tryz.ntmps9
  go_wp2_with fail
  refine (usan_w w).mono ?_
  rintro e w1 ⟨rfl, hb1⟩
  have HB1 := Lib.hid hb1
  clear hb1
  go_wp2_with fail
  refine (HT0.out w1 (H0.out.below HB1.out)).mono ?_
  rintro e w2 ⟨vt, rfl, hq2, hp2, hb2⟩
  have HP2 := Lib.hid hp2
  have HQ2 := Lib.hid (show OwnP w2 0 vt T from owns_lower hq2 (Nat.zero_le _))
  clear hq2
  have HB2 := Lib.hid (HB1.out.trans (hb2.mono HB1.out.size))
  obtain ⟨at', ct, rfl⟩ := pairs_form hp2
  clear hp2 hb2 HB1
  go_wp2_with fail
  refine (HL0.out w2 (H1.out.below HB2.out)).mono ?_
  rintro e w3 ⟨vb, rfl, ho3, hb3⟩
  have hm3 := ho3.msgs
  have HM3 := Lib.hid hm3
  have HP3 := Lib.hid (HP2.out.below hb3)
  have HQ3 : Hid (OwnP w3 0 (.slice at' T.length ct) T) := Lib.hid (owns_below HQ2.out hb3)
  have HB3 := Lib.hid (HB2.out.trans (hb3.mono HB2.out.size))
  clear ho3 hb3 HP2 HQ2 HB2 H0 H1 HT0 HL0
  obtain ⟨b, off, cap, a, rfl, hlc, hcm, hab, hc⟩ := hm3.form
  unfold maxLen at hcm
  have HC : Hid (∀ i (h : i < B.length), a = some ⟨b, off, none⟩ ∧ b < w3.heap.size ∧ MAt w3 b (off + i * 8) B[i]) := Lib.hid (fun i h => ⟨(hc i h).1, (hab (by rintro rfl; simp at h)).2, (hc i h).2⟩)
  clear hm3 hc hab
  go_wp2
  go_loopw [8, 9, 10] (fun nw al i wr => ∃ k : Nat, k ≤ B.length ∧ i = .int .i64 k ∧ IsPairs wr nw (allS (B.take k) T) ∧ OwnP wr 0 nw (allS (B.take k) T) ∧ OwnM wr w3.heap.size al (settleL (B.take k) T) ∧ Below w3.heap.size w3 wr) (fun _ _ i _ => B.length - (intOf i).toNat)
  case atStart => exact ⟨0, Nat.zero_le _, rfl, HP3.out.below (below_box _), owns_below HQ3.out (below_box _), own_emptyM w3 _ (Nat.le_refl _), below_box _⟩
  case round =>
    obtain ⟨k, hk, rfl, hnow, hnq, hown, hbel⟩ := hrel
    have Hnow := Lib.hid hnow
    have Hnq := Lib.hid hnq
    have Hown := Lib.hid hown
    have Hbel := Lib.hid hbel
    have hsz := hbel.size
    by_cases hlt : k < B.length
    · have hltz : (k : Int) < (B.length : Int) := by omega
      obtain ⟨rfl, hbl, hma⟩ := HC.out k hlt
      obtain ⟨hzm, hvm, hfm, -⟩ := HREP.out.ok B[k] (List.getElem_mem hlt)
      obtain ⟨hn1, hn2⟩ := HREP.out.now k hk
      have hst := srt_all (B.take k) HREP.out.srt
      have hNX := Lib.hid (all_take B T k hlt)
      have hLX := Lib.hid (settleL_take B T k hlt)
      have hl1 := HREP.out.len k hk
      have hl2 := HREP.out.len (k + 1) hlt
      rw [hLX.out, List.length_append] at hl2
      have hY : ∀ wx, Below wr.heap.size wr wx → MAt wx b (off + k * 8) B[k] := fun wx hx => (hma.below hbel hbl).below hx (Nat.lt_of_lt_of_le hbl hsz)
      generalize B[k] = m at *
      have hsrc := source_len m (allS (B.take k) T)
      have hsz5 : m.src.length ≤ 140737488355328 := by have := hzm.2.2.2.2.1; omega
      obtain ⟨an, cn, rfl⟩ := pairs_form hnow
      clear hnow hnq hown hbel hma
      generalize allS (B.take k) T = now at *
      have hsm := fun x (hx : x ∈ sourceS m now) => source_mem hx
      have HSO : Hid (∀ wx, Below wr.heap.size wr wx → Calls Tryz.prog 30 #[.slice an now.length cn, msgV m] wx fun e w' => ∃ a c, e = .returned (.slice a (sourceS m now).length c) ∧ IsPairs w' (.slice a (sourceS m now).length c) (sourceS m now) ∧ Below wr.heap.size wr w') := Lib.hid (fun wx hx => (source_w _ now m wx (Hnow.out.below hx) (by omega) hsz5).mono fun e w' ⟨v', h1, h2, h3⟩ => by
        obtain ⟨a, c, rfl⟩ := pairs_form h2
        exact ⟨a, c, h1, h2, hx.trans (h3.mono hx.size)⟩)
      have HLI : Hid (∀ a c wx, Below wr.heap.size wr wx → IsPairs wx (.slice a (sourceS m now).length c) (sourceS m now) → Calls Tryz.prog 29 #[msgV m, .slice a (sourceS m now).length c] wx fun e w' => ∃ a c, e = .returned (.slice a (settledS m (sourceS m now)).length c) ∧ IsMsgs w' (.slice a (settledS m (sourceS m now)).length c) (settledS m (sourceS m now)) ∧ Below wr.heap.size wr w') := Lib.hid (fun a c wx hx hp => (slist_w m _ (sourceS m now) wx (by omega) hzm (fun x hx => ⟨(hsm x hx).2, by have := (hn2 x (hsm x hx).1).1; omega⟩) hp).mono fun e w' ⟨v', h1, h2, h3⟩ => by
        have h4 := h2.msgs
        obtain ⟨a, c, rfl⟩ := msgs_form h4
        exact ⟨a, c, h1, h4, hx.trans (h3.mono hx.size)⟩)
      have HAP := Lib.hid (fun wx (hp : IsPairs wx (.slice an now.length cn) now) => apply_w m _ now wx hp hst (by omega) hzm (fun x hx => by have := (hn2 x hx).1; omega))
      clear hsm hsrc hzm hvm hfm hn1 hn2 hst hsz5
      generalize sourceS m now = src at *
      generalize settledS m src = L at *
      generalize applyS m now = nxt at *
      generalize settleL (B.take k) T = left at *
      have HL0 : Hid (Below wr.heap.size wr wr) := Lib.hid (Below.refl _ _)
      have y0 : ∀ wx, Below wr.heap.size wr wx → wx.cell? ⟨b, off + k * 8, none⟩ = some (.int .i64 m.kind) := fun wx hx => (hY wx hx).1
      have y1 : ∀ wx, Below wr.heap.size wr wx → wx.cell? ⟨b, off + k * 8 + 1, none⟩ = some (.string (Str m.key)) := fun wx hx => (hY wx hx).2.1
      have y2 : ∀ wx, Below wr.heap.size wr wx → wx.cell? ⟨b, off + k * 8 + 2, none⟩ = some (.string (Str m.val)) := fun wx hx => (hY wx hx).2.2.1
      have y3 : ∀ wx, Below wr.heap.size wr wx → wx.cell? ⟨b, off + k * 8 + 3, none⟩ = some (.string (Str m.lo)) := fun wx hx => (hY wx hx).2.2.2.1
      have y4 : ∀ wx, Below wr.heap.size wr wx → wx.cell? ⟨b, off + k * 8 + 4, none⟩ = some (.string (Str m.hi)) := fun wx hx => (hY wx hx).2.2.2.2.1
      have y5 : ∀ wx, Below wr.heap.size wr wx → wx.cell? ⟨b, off + k * 8 + 5, none⟩ = some (.string (Str m.src)) := fun wx hx => (hY wx hx).2.2.2.2.2.1
      have y6 : ∀ wx, Below wr.heap.size wr wx → wx.cell? ⟨b, off + k * 8 + 6, none⟩ = some (.string (Str m.dst)) := fun wx hx => (hY wx hx).2.2.2.2.2.2.1
      have y7 : ∀ wx, Below wr.heap.size wr wx → wx.cell? ⟨b, off + k * 8 + 7, none⟩ = some (.int .i64 m.n) := fun wx hx => (hY wx hx).2.2.2.2.2.2.2
      go_upto_region 9 with fail
      go_cut [11] (fun s11 wx => ∃ a c, s11 = .slice a L.length c ∧ Hid (IsMsgs wx (.slice a L.length c) L) ∧ Hid (Below wr.heap.size wr wx))
      case first =>
        go_region_held3 (fun wx => Below wr.heap.size wr wx)
          (repeat (first | with_reducible assumption | with_reducible exact HL0.out | with_reducible refine Below.drew ?_ | with_reducible refine keepAU ?_ _))
          (first
            | (go_at_call 30; (refine (HSO.out _ (by repeat (first | with_reducible assumption | with_reducible exact HL0.out | with_reducible refine Below.drew ?_))).mono ?_); rintro e2 y2' ⟨p2, c2, rfl, hp2, hS2⟩)
            | (go_at_call 29; (refine (HLI.out p2 c2 _ (by repeat (first | with_reducible assumption | with_reducible refine Below.drew ?_)) (by first | with_reducible exact hp2 | exact hp2.below (below_drewN _ 1))).mono ?_); rintro e3 y3' ⟨p3, c3, rfl, hp3, hS3⟩)
            | fail "no arm")
        all_goals (go_wp2_with fail; go_meet)
        all_goals exact ⟨p3, c3, rfl, Lib.hid hp3, Lib.hid hS3⟩
      case rest =>
        obtain ⟨a9, c9, rfl, HM9, HB9⟩ := hcut
        have HN9 := Lib.hid (Hnow.out.below HB9.out)
        have HO9 := Lib.hid (Hown.out.below HB9.out)
        have h9 := hY _ HB9.out
        have h9l : b < wc.heap.size := Nat.lt_of_lt_of_le (Nat.lt_of_lt_of_le hbl hsz) HB9.out.size
        clear y0 y1 y2 y3 y4 y5 y6 y7 hY HSO HLI
        have hszc : w3.heap.size ≤ wc.heap.size := Nat.le_trans hsz HB9.out.size
        have HQ9 : Hid (OwnP wc 0 (.slice an now.length cn) now) := Lib.hid (owns_below Hnq.out HB9.out)
        have HSM := Lib.hid (fun x hx => Hnow.out.small x hx)
        go_wp2_with (first
          | (at_builtin; refine append_msgsT rfl _ _ rfl w3.heap.size u9 left rfl HO9.out _ _ _ L rfl HM9.out (by omega) hszc ?_; intro v10 w10 ho10 ht10; have HO10 := Lib.hid ho10; have hb10 := turn_below HO9.out ht10 hszc; have HB10 := Lib.hid (Hbel.out.trans ((HB9.out.mono hsz).trans hb10)); have HQ10 : Hid (OwnP w10 0 (.slice an now.length cn) now) := Lib.hid (HQ9.out.kept ht10.1 (own_apart (by decide) HQ9.out (owns_lower HO9.out (Nat.zero_le _)))); have h10 := h9.below hb10 hbl; obtain ⟨z0, z1, z2, z3, z4, z5, z6, z7⟩ := h10; clear ho10 ht10 hb10)
          | (go_at_call 41; refine (HAP.out _ (IsPairs.owned HQ10.out HSM.out)).mono ?_; rintro e w11 ⟨v11, rfl, hq11, hp11, hb11⟩; have HN11 := Lib.hid hp11; have HQ11 := Lib.hid (owns_lower hq11 (Nat.zero_le _)); have HO11 := Lib.hid (owns_below HO10.out hb11); have HB11 := Lib.hid (HB10.out.trans (hb11.mono HB10.out.size)); clear hq11 hp11 hb11))
        go_roundw
        case rel => exact ⟨k + 1, by omega, by go_num, by rw [hNX.out]; exact HN11.out, by rw [hNX.out]; exact HQ11.out, by rw [hLX.out]; exact HO11.out, HB11.out⟩
        case measure => simp [intOf]; omega
    · obtain rfl : k = B.length := by omega
      obtain ⟨wq, rfl⟩ : ∃ wq, wq = wr := ⟨wr, rfl⟩
      rw [List.take_length] at Hnow Hown
      have hm9 := Hown.out.msgs
      have HM9 := Lib.hid hm9
      have HBW := Lib.hid (HB3.out.trans (hbel.mono HB3.out.size))
      have HPT := Lib.hid (HP3.out.below hbel)
      obtain ⟨an, cn, rfl⟩ := pairs_form Hnow.out
      obtain ⟨gl, ol, capl, al, rfl, hl1, hl2, hl3, hl4⟩ := hm9.form
      unfold maxLen at hl2
      have HCL := Lib.hid hl4
      have hLl := HLL.out
      have HSA := Lib.hid (fun v u wx (h : IsPairs wx v (allS B T)) (k : IsPairs wx u (allS B T)) => u_ps v u _ wx h k)
      clear hnow hnq hown hbel hm9 hl3 hl4 Hnq HREP HC
      generalize allS B T = A at *
      generalize settleL B T = L at *
      go_wp2
      go_loopw [12] (fun i wy => ∃ j : Nat, j ≤ L.length ∧ i = .int .i64 j ∧ Below wq.heap.size wq wy) (fun i _ => L.length - (intOf i).toNat)
      case atStart => exact ⟨0, Nat.zero_le _, rfl, Below.refl _ _⟩
      case round =>
        obtain ⟨j, hj, rfl, hby⟩ := hrel
        have Hby := Lib.hid hby
        by_cases hjl : j < L.length
        · have hjz : (j : Int) < (L.length : Int) := by omega
          obtain ⟨rfl, hma⟩ := HCL.out j hjl
          have hst := HSTL.out j hjl
          have hgl : gl < wq.heap.size := by
            obtain ⟨a', c', e1, -, -, e2⟩ := HM9.out
            obtain ⟨b', o', e3, e4, -⟩ := e2 (by rintro rfl; simp at hjl)
            cases e1
            cases e3
            exact e4
          obtain ⟨c0, -⟩ := hma.below hby hgl
          generalize L[j] = m at *
          have h4 : ¬ m.kind = 4 := fun e => by rw [(moves_iff m).2 (.inl e)] at hst; cases hst
          have h5 : ¬ m.kind = 5 := fun e => by rw [(moves_iff m).2 (.inr e)] at hst; cases hst
          have e4' : (m.kind == 4) = false := by simpa using h4
          have e5' : (m.kind == 5) = false := by simpa using h5
          clear h4 h5 hst hby hma
          generalize m.kind = kd at *
          go_wp2
          go_roundw
          case rel => exact ⟨j + 1, by omega, by go_num, Hby.out⟩
          case measure => simp [intOf]; omega
        · obtain rfl : j = L.length := by omega
          have HPY := Lib.hid (HPT.out.below hby)
          have HMY := Lib.hid (HM9.out.below hby)
          have HNY := Lib.hid (Hnow.out.below hby)
          have HBY := Lib.hid (HBW.out.trans (hby.mono HBW.out.size))
          clear hby
          go_wp2_with fail
          refine (HAL.out _ _ wr HPY.out HMY.out).mono ?_
          rintro e w6 ⟨v6, rfl, -, hp6, hb6⟩
          have HA6 := Lib.hid hp6
          have HN6 := Lib.hid (HNY.out.below hb6)
          have HB6 := Lib.hid (HBY.out.trans (hb6.mono HBY.out.size))
          obtain ⟨a6, c6, rfl⟩ := pairs_form hp6
          clear hp6 hb6
          go_wp2_with fail
          refine (HSA.out _ _ w6 HA6.out HN6.out).mono ?_
          rintro e w8 ⟨rfl, hb8⟩
          have HB8 := Lib.hid (HB6.out.trans (hb8.mono HB6.out.size))
          clear hb8
          go_wp2_with fail
          go_ret
          exact ⟨by first | rfl | simp, HB8.out⟩

end Go.Proofs.YtfpcaoacbjhkgaaGreat
