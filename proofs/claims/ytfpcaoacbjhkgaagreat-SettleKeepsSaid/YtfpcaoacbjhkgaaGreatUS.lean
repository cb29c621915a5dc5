/-
  The walk of the law SettleKeeps.
-/
import Derived.Test.YtfpcaoacbjhkgaaGreatUO
namespace Go.Proofs.YtfpcaoacbjhkgaaGreat
open Go.RowKit Go.Sort
set_option linter.unusedVariables false

set_option maxRecDepth 100000 in
set_option maxHeartbeats 8000000 in
theorem settleKeeps_walk (w : World) (v0 : Value) (x0 : List Rw) (h0 : T4.IsRaws w v0 x0) (v1 : Value) (x1 : R6) (h1 : IsRaw6 w v1 x1) :
    Calls Tryz.prog 5 #[v0, v1] w fun e w' => e = .returned (.bool true) ∧ Below w.heap.size w w' := by
  have mixed := mixedA
  obtain ⟨rfl, hsm⟩ := h1
  have H0 := Lib.hid h0
  clear h0
  have HT0 := Lib.hid (fun wx (h : T4.IsRaws wx v0 x0) => T4.made_w v0 x0 wx h)
  have hst := T4.srt_made x0
  have hTl := T4.made_len x0
  have hTs := T4.made_small (l := x0)
  have hTp := made_okP x0
  obtain ⟨hzm, hvm, hfm⟩ := made_okU x1
  generalize T4.madeS x0 = T at *
  obtain ⟨xa, xb, xc, xd, xe, xf⟩ := x1
  have HMD := Lib.hid (fun wx => made_w xa xb xc xd xe xf wx hsm)
  change SizeM (madeM xa xb xc xd xe xf) at hzm
  change validM (madeM xa xb xc xd xe xf) = true at hvm
  change Few (madeM xa xb xc xd xe xf) at hfm
  generalize madeM xa xb xc xd xe xf = m at *
  have hsrc := source_len m T
  have hz5 : m.src.length ≤ 140737488355328 := by have := hzm.2.2.2.2.1; omega
  have HPR := Lib.hid (fun wx => rprefix_w m.src wx hz5)
  have HRG := Lib.hid (fun v wx (h : IsPairs wx v T) => range_w v T m.src (preT m.src) wx h hst (by omega))
  have HLI := Lib.hid (fun v wx (h : IsPairs wx v (sourceS m T)) => slist_w m v (sourceS m T) wx (by omega) hzm (fun x hx => ⟨(source_mem hx).2, by have := (hTs x (source_mem hx).1).1; omega⟩) h)
  have HVA := Lib.hid (fun o (h : o ∈ settledS m (sourceS m T)) wx => rvalid_w o wx (settled_valid hvm (fun x hx => hTp x (source_mem hx).1) h) (settled_still h))
  have HAL := Lib.hid (fun v u wx (h : IsPairs wx v T) (k : IsMsgs wx u (settledS m (sourceS m T))) => all_w v u T _ wx h k hst (fun o ho => settled_size hzm hvm (fun x hx => by have := hTs x (source_mem hx).1; omega) ho) (settled_okAll m hst hvm (by have := hfm.1; omega) (fun x hx => by have := (hTs x hx).1; omega) (by omega)))
  rw [settled_all] at HAL
  have HAP := Lib.hid (fun v wx (h : IsPairs wx v T) => apply_w m v T wx h hst (by omega) hzm (fun x hx => by have := (hTs x hx).1; omega))
  have HSA := Lib.hid (fun v u wx (h : IsPairs wx v (applyS m T)) (k : IsPairs wx u (applyS m T)) => u_ps v u _ wx h k)
  have hLl := settled_len m (sourceS m T)
  have HSR : Hid (sourceS m T = if movesB m then rangeS (m.src, preT m.src) T else []) := Lib.hid rfl
  clear hst hTs hTp hvm hfm hzm hz5
  generalize applyS m T = A at *
  generalize settledS m (sourceS m T) = L at *
  have HB0 : Hid (Blk (w.alloc (.cells (raw6 xa xb xc xd xe xf) 60)) w.heap.size 60 (raw6 xa xb xc xd xe xf)) := Lib.hid (Blk.new _ _ _)
  have HBX := Lib.hid (below_box (w := w) (.cells (raw6 xa xb xc xd xe xf) 60))
  change Calls _ _ #[v0, .agg (raw6 xa xb xc xd xe xf)] _ _
  go_enter Tryz.func5, Tryz.ntmps5
  go_wp2_with fail
  refine (usan_w _).mono ?_
  rintro e w1 ⟨rfl, hb1⟩
  have HR1 := Lib.hid (HB0.out.below hb1 HB0.out.lt)
  have HB1 := Lib.hid (HBX.out.trans (hb1.mono HBX.out.size))
  clear hb1 HB0 HBX
  go_wp2_with fail
  refine (HT0.out w1 (H0.out.below HB1.out)).mono ?_
  rintro e w2 ⟨vt, rfl, -, hp2, hb2⟩
  have HP2 := Lib.hid hp2
  have HR2 := Lib.hid (HR1.out.below hb2 HR1.out.lt)
  have HB2 := Lib.hid (HB1.out.trans (hb2.mono HB1.out.size))
  obtain ⟨at', ct, rfl⟩ := pairs_form hp2
  clear hp2 hb2 HB1 HR1 H0 HT0
  have r0 := HR2.out.c0 0 _ rfl
  have r1 := HR2.out.c0 1 _ rfl
  have r2 := HR2.out.c0 2 _ rfl
  have r3 := HR2.out.c0 3 _ rfl
  have r4 := HR2.out.c0 4 _ rfl
  have r5 := HR2.out.c0 5 _ rfl
  go_wp2_with fail
  refine (HMD.out w2).mono ?_
  rintro e w3 ⟨rfl, hb3⟩
  have hbx := below_box (w := w3) (.cells (encM m) 40)
  have HX3 : Hid (Blk (w3.alloc (.cells (encM m) 40)) w3.heap.size 40 (encM m)) := Lib.hid (Blk.new _ _ _)
  have HP3 := Lib.hid ((HP2.out.below hb3).below hbx)
  have HB3 := Lib.hid ((HB2.out.trans (hb3.mono HB2.out.size)).trans (hbx.mono (Nat.le_trans HB2.out.size hb3.size)))
  clear hb3 hbx r0 r1 r2 r3 r4 r5 HR2 HP2 HB2 HMD
  go_upto_region 4 with fail
  obtain ⟨W4, hW4⟩ : ∃ W4, W4 = w3.alloc (.cells (encM m) 40) := ⟨_, rfl⟩
  have HW4 := Lib.hid hW4
  rw [← hW4] at HX3 HP3 HB3 ⊢
  clear hW4
  generalize w3.heap.size = bx at *
  have hxl := HX3.out.lt
  have hn : IsPairs (W4.alloc (.cells #[] 71)) (.slice (some ⟨W4.heap.size, 0, none⟩) 0 0) [] := IsPairs.owned (own_empty W4 W4.heap.size (Nat.le_refl _)) (fun x hx => by cases hx)
  have x0 : W4.cell? ⟨bx, 0, none⟩ = some (.int .i64 m.kind) := HX3.out.c0 0 _ rfl
  go_upto_region 5 with fail
  obtain ⟨W5, hW5⟩ : ∃ W5, W5 = W4.alloc (.cells #[] 71) := ⟨_, rfl⟩
  have HB5 : Hid (Below W4.heap.size W4 W5) := Lib.hid (by rw [hW5]; exact below_box _)
  rw [← hW5] at hn ⊢
  clear hW5
  have HN5 := Lib.hid hn
  have hx5 : W5.cell? ⟨bx, 0, none⟩ = some (.int .i64 m.kind) := (HX3.out.below HB5.out hxl).c0 0 _ rfl
  clear hn x0
  have HKS : Hid (m.kind = 4 ∨ m.kind = 5 ∨ (¬ m.kind = 4 ∧ ¬ m.kind = 5)) := Lib.hid (by omega)
  have HM4 : Hid (m.kind = 4 → movesB m = true) := Lib.hid (fun h => (moves_iff m).2 (.inl h))
  have HM5 : Hid (m.kind = 5 → movesB m = true) := Lib.hid (fun h => (moves_iff m).2 (.inr h))
  have HM6 : Hid (¬ m.kind = 4 ∧ ¬ m.kind = 5 → movesB m = false) := Lib.hid (fun h => by
    cases h2 : movesB m with
    | false => rfl
    | true => exact ((moves_iff m).1 h2).elim (fun e => absurd e h.1) (fun e => absurd e h.2))
  go_cut [24] (fun s24 wx => s24 = .bool (movesB m) ∧ Hid (wx = W5))
  case first =>
    rcases HKS.out with hk | hk | ⟨h4, h5⟩
    · have HE := Lib.hid (HM4.out hk)
      rw [hk] at hx5
      clear hk
      go_wp2_with fail
      go_meet
      exact ⟨by rw [HE.out], Lib.hid rfl⟩
    · have HE := Lib.hid (HM5.out hk)
      rw [hk] at hx5
      clear hk
      go_wp2_with fail
      go_meet
      exact ⟨by rw [HE.out], Lib.hid rfl⟩
    · have HE := Lib.hid (HM6.out ⟨h4, h5⟩)
      have e4' : (m.kind == 4) = false := by simpa using h4
      have e5' : (m.kind == 5) = false := by simpa using h5
      clear h4 h5
      go_wp2_with fail
      go_meet
      exact ⟨by rw [HE.out], Lib.hid rfl⟩
  case rest =>
    obtain ⟨rfl, hww⟩ := hcut
    obtain rfl := hww.out
    clear hx5 HKS HM4 HM5 HM6
    go_upto_if 24 with fail
    go_cut [8] (fun s8 wx => ∃ a c, s8 = .slice a (sourceS m T).length c ∧ Hid (IsPairs wx (.slice a (sourceS m T).length c) (sourceS m T)) ∧ Hid (Below W4.heap.size W4 wx))
    case first =>
      have x5 : wc.cell? ⟨bx, 5, none⟩ = some (.string (Str m.src)) := (HX3.out.below HB5.out hxl).c0 5 _ rfl
      cases hmb : movesB m with
      | false =>
        have HS : Hid (sourceS m T = []) := Lib.hid (source_other hmb T)
        go_wp2_with fail
        go_meet
        exact ⟨_, 0, by rw [HS.out]; rfl, by rw [HS.out]; exact HN5, HB5⟩
      | true =>
        have HS : Hid (sourceS m T = rangeS (m.src, preT m.src) T) := Lib.hid (source_moves hmb T)
        have HP5 := Lib.hid (HP3.out.below HB5.out)
        go_wp2_with (first
          | (go_at_call 37; refine (HPR.out _).mono ?_; rintro e w6 ⟨rfl, hg6⟩; have HP6 := Lib.hid (HP5.out.below (hg6.below (Nat.le_refl _))); have HB6 := Lib.hid (HB5.out.trans (hg6.below HB5.out.size)); clear hg6)
          | (go_at_call 36; refine (HRG.out _ _ HP6.out).mono ?_; rintro e w7 ⟨v7, rfl, -, hp7, hb7⟩; have HB7 := Lib.hid (HB6.out.trans (hb7.mono HB6.out.size)); have HP7 := Lib.hid hp7; clear hp7 hb7))
        obtain ⟨a7, c7, rfl⟩ := pairs_form HP7.out
        go_meet
        exact ⟨a7, c7, by rw [HS.out], by rw [HS.out]; exact HP7, HB7⟩
    case rest =>
      obtain ⟨a8, c8, rfl, HS8, HB8⟩ := hcut
      have HX8 := Lib.hid (HX3.out.below HB8.out hxl)
      have HP8 := Lib.hid (HP3.out.below HB8.out)
      have HW8 := Lib.hid (HB3.out.trans (HB8.out.mono HB3.out.size))
      obtain ⟨z0, z1, z2, z3, z4, z5, z6, z7⟩ := HX8.out.eightCU
      have hxl8 := HX8.out.lt
      clear HN5 HB5 HX3 HP3 HB3 HRG HPR hxl
      go_wp2_with fail
      refine (HLI.out _ _ HS8.out).mono ?_
      rintro e w9 ⟨v9, rfl, ho9, hb9⟩
      have hm9 := ho9.msgs
      have HM9 := Lib.hid hm9
      have HX9 := Lib.hid (HX8.out.below hb9 HX8.out.lt)
      have HP9 := Lib.hid (HP8.out.below hb9)
      have HB9 := Lib.hid (HW8.out.trans (hb9.mono HW8.out.size))
      obtain ⟨gl, ol, capl, al, rfl, hl1, hl2, hl3, hl4⟩ := hm9.form
      unfold maxLen at hl2
      have HCL : Hid (∀ i (h : i < L.length), al = some ⟨gl, ol, none⟩ ∧ gl < w9.heap.size ∧ MAt w9 gl (ol + i * 8) L[i]) := Lib.hid (fun i h => ⟨(hl4 i h).1, (hl3 (by rintro rfl; simp at h)).2, (hl4 i h).2⟩)
      have hLm : Hid (∀ i (h : i < L.length), L[i] ∈ L) := Lib.hid (fun i h => List.getElem_mem h)
      clear ho9 hb9 hm9 hl3 hl4 z0 z1 z2 z3 z4 z5 z6 z7 hxl8 HX8 HP8 HW8 HS8 HB8
      go_wp2
      go_loopw [10] (fun i wr => ∃ k : Nat, k ≤ L.length ∧ i = .int .i64 k ∧ Below w9.heap.size w9 wr) (fun i _ => L.length - (intOf i).toNat)
      case atStart => exact ⟨0, Nat.zero_le _, rfl, Below.refl _ _⟩
      case round =>
        obtain ⟨k, hk, rfl, hbel⟩ := hrel
        have Hbel := Lib.hid hbel
        by_cases hlt : k < L.length
        · have hltz : (k : Int) < (L.length : Int) := by omega
          obtain ⟨rfl, hgl, hma⟩ := HCL.out k hlt
          have hv := HVA.out L[k] (hLm.out k hlt)
          obtain ⟨c0, c1, c2, c3, c4, c5, c6, c7⟩ := hma.below hbel hgl
          generalize L[k] = o at *
          have HV := Lib.hid hv
          clear hv hma hbel
          go_wp2_with (go_at_call 38; refine (HV.out _).mono ?_; rintro e w10 ⟨rfl, hb10⟩; have HB10 := Lib.hid (Hbel.out.trans (hb10.mono Hbel.out.size)); clear hb10)
          go_roundw
          case rel => exact ⟨k + 1, by omega, by go_num, HB10.out⟩
          case measure => simp [intOf]; omega
        · obtain rfl : k = L.length := by omega
          obtain ⟨wq, rfl⟩ : ∃ wq, wq = wr := ⟨wr, rfl⟩
          have HP10 := Lib.hid (HP9.out.below hbel)
          have HM10 := Lib.hid (HM9.out.below hbel)
          have HX10 := Lib.hid (HX9.out.below hbel HX9.out.lt)
          have HB10 := Lib.hid (HB9.out.trans (hbel.mono HB9.out.size))
          have hxl10 := HX10.out.lt
          clear hbel HX9 HP9 HM9 HB9 HCL hLm HVA hlt
          go_upto_region 13 with fail
          have hX : ∀ i x, (encM m)[i]? = some x → ∀ wx, Below wq.heap.size wq wx → wx.cell? ⟨bx, i, none⟩ = some x := fun i x hi wx hx => (HX10.out.below hx hxl10).c0 i x hi
          have y0 : ∀ wx, Below wq.heap.size wq wx → wx.cell? ⟨bx, 0, none⟩ = some (.int .i64 m.kind) := hX 0 _ rfl
          have y1 : ∀ wx, Below wq.heap.size wq wx → wx.cell? ⟨bx, 1, none⟩ = some (.string (Str m.key)) := hX 1 _ rfl
          have y2 : ∀ wx, Below wq.heap.size wq wx → wx.cell? ⟨bx, 2, none⟩ = some (.string (Str m.val)) := hX 2 _ rfl
          have y3 : ∀ wx, Below wq.heap.size wq wx → wx.cell? ⟨bx, 3, none⟩ = some (.string (Str m.lo)) := hX 3 _ rfl
          have y4 : ∀ wx, Below wq.heap.size wq wx → wx.cell? ⟨bx, 4, none⟩ = some (.string (Str m.hi)) := hX 4 _ rfl
          have y5 : ∀ wx, Below wq.heap.size wq wx → wx.cell? ⟨bx, 5, none⟩ = some (.string (Str m.src)) := hX 5 _ rfl
          have y6 : ∀ wx, Below wq.heap.size wq wx → wx.cell? ⟨bx, 6, none⟩ = some (.string (Str m.dst)) := hX 6 _ rfl
          have y7 : ∀ wx, Below wq.heap.size wq wx → wx.cell? ⟨bx, 7, none⟩ = some (.int .i64 m.n) := hX 7 _ rfl
          clear hX
          have HL0 : Hid (Below wq.heap.size wq wq) := Lib.hid (Below.refl _ _)
          have HC3 : Hid (∀ wx, Below wq.heap.size wq wx → Calls Tryz.prog 40 #[.slice at' T.length ct, .slice al L.length capl] wx fun e w' => ∃ a c, e = .returned (.slice a A.length c) ∧ IsPairs w' (.slice a A.length c) A ∧ Below wq.heap.size wq w') := Lib.hid (fun wx hx => by
            refine (HAL.out _ _ wx (HP10.out.below hx) (HM10.out.below hx)).mono ?_
            rintro e w' ⟨v', h1, h2, h3, h4⟩
            obtain ⟨a, c, hv⟩ := pairs_form h3
            rw [hv] at h1 h3
            exact ⟨a, c, h1, h3, hx.trans (h4.mono hx.size)⟩)
          have HC4 : Hid (∀ u wx, Below wq.heap.size wq wx → IsPairs wx u A → Calls Tryz.prog 41 #[.slice at' T.length ct, msgV m] wx fun e w' => ∃ a c, e = .returned (.slice a A.length c) ∧ IsPairs w' (.slice a A.length c) A ∧ IsPairs w' u A ∧ Below wq.heap.size wq w') := Lib.hid (fun u wx hx hu => by
            refine (HAP.out _ wx (HP10.out.below hx)).mono ?_
            rintro e w' ⟨v', h1, h2, h3, h4⟩
            obtain ⟨a, c, hv⟩ := pairs_form h3
            rw [hv] at h1 h3
            exact ⟨a, c, h1, h3, hu.below h4, hx.trans (h4.mono hx.size)⟩)
          have HC5 : Hid (∀ u v wx, Below wq.heap.size wq wx → IsPairs wx u A → IsPairs wx v A → Calls Tryz.prog 39 #[u, v] wx fun e w' => e = .returned (.bool true) ∧ Below wq.heap.size wq w') := Lib.hid (fun u v wx hx hu hv => (HSA.out _ _ wx hu hv).mono fun e w' ⟨h1, h2⟩ => ⟨h1, hx.trans (h2.mono hx.size)⟩)
          clear HAL HAP HSA
          go_region_held3 (fun wx => Below wq.heap.size wq wx)
            (repeat (first | with_reducible assumption | with_reducible exact HL0.out | with_reducible refine Below.drew ?_ | with_reducible refine keepAU ?_ _))
            (first
              | (go_at_call 40; (with_reducible refine (HC3.out _ (by repeat (first | with_reducible assumption | with_reducible exact HL0.out | with_reducible refine Below.drew ?_))).mono ?_); rintro e2 y2' ⟨p2, c2, rfl, g2, hS2⟩)
              | (go_at_call 41; (refine (HC4.out (.slice p2 A.length c2) _ (by repeat (first | with_reducible assumption | with_reducible exact HL0.out | with_reducible refine Below.drew ?_)) (by first | with_reducible exact g2 | exact g2.below (below_drewN _ 1))).mono ?_); rintro e3 y3' ⟨p3, c3, rfl, g3, g2', hS3⟩)
              | (go_at_call 39; (refine (HC5.out _ _ _ (by repeat (first | with_reducible assumption | with_reducible exact HL0.out | with_reducible refine Below.drew ?_)) (by first | with_reducible exact g2' | exact g2'.below (below_drewN _ 1)) (by first | with_reducible exact g3 | exact g3.below (below_drewN _ 1))).mono ?_); rintro e4 y4' ⟨rfl, hS4⟩)
              | fail "no arm")
          all_goals
            have HF := Lib.hid (HB10.out.trans (hS4.mono HB10.out.size))
            clear hS2 hS3 hS4 g2 g3 y0 y1 y2 y3 y4 y5 y6 y7
            go_wp2
            go_ret
            exact ⟨by first | rfl | simp, HF.out⟩

end Go.Proofs.YtfpcaoacbjhkgaaGreat
