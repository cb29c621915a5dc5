/-
  The walk of the law SettleCrosses.
-/
import Derived.Test.YtfpcaoacbjhkgaaGreatUO
namespace Go.Proofs.YtfpcaoacbjhkgaaGreat
open Go.RowKit Go.Sort
set_option linter.unusedVariables false

theorem firstF_none {ps : List Bs} : ∀ (l : List Ms) (i : Nat), (∀ m ∈ l, crossB m ps = false) → firstF ps l i = (0, false)
  | [], i, h => rfl
  | m :: r, i, h => by
    rw [firstF, if_neg (by rw [h m (by simp)]; simp)]
    exact firstF_none r (i + 1) (fun o ho => h o (by simp [ho]))

theorem below_drewN' {B : Nat} (w : World) (n : Nat) (h : B ≤ w.heap.size) : Below B w (w.drewN n) := (below_drewN w n).mono h
set_option maxRecDepth 100000 in
set_option maxHeartbeats 8000000 in
theorem settleCrosses_walk (w : World) (v0 : Value) (x0 : List Rw) (h0 : T4.IsRaws w v0 x0) (v1 : Value) (x1 : R6) (h1 : IsRaw6 w v1 x1) (v2 : Value) (x2 : Nat) (h2 : v2 = .int .u8 x2 ∧ x2 < 256) :
    Calls Tryz.prog 6 #[v0, v1, v2] w fun e w' => e = .returned (.bool true) ∧ Below w.heap.size w w' := by
  have mixed := mixedA
  obtain ⟨rfl, hsm⟩ := h1
  obtain ⟨rfl, hx2⟩ := h2
  have H0 := Lib.hid h0
  clear h0
  have HT0 := Lib.hid (fun wx (h : T4.IsRaws wx v0 x0) => T4.made_w v0 x0 wx h)
  have hst := T4.srt_made x0
  have hTl := T4.made_len x0
  have hTs := T4.made_small (l := x0)
  obtain ⟨hzm, hvm, hfm⟩ := made_okU x1
  generalize T4.madeS x0 = T at *
  obtain ⟨xa, xb, xc, xd, xe, xf⟩ := x1
  have HMD := Lib.hid (fun wx => made_w xa xb xc xd xe xf wx hsm)
  change SizeM (madeM xa xb xc xd xe xf) at hzm
  change validM (madeM xa xb xc xd xe xf) = true at hvm
  change Few (madeM xa xb xc xd xe xf) at hfm
  generalize madeM xa xb xc xd xe xf = m at *
  have hsrc := source_len m T
  have hz5 : m.src.length ≤ 140737488355328 := by have := hzm.2.2.2.2.1; omega
  have hps := pivU_srt x2
  have hpl := pivU_len x2 8
  have HPV := Lib.hid (fun wx => pivots9_w x2 wx hx2)
  have HLS : Hid (∀ o ∈ settledS m (sourceS m T), SizeM o) := Lib.hid (fun o ho => settled_size hzm hvm (fun x hx => by have := hTs x (source_mem hx).1; omega) ho)
  have HCR := Lib.hid (fun o (h : o ∈ settledS m (sourceS m T)) vp wx (hp : IsStrs wx vp (pivU x2 8)) => crosses_w o vp (pivU x2 8) wx (HLS.out o h) hp hps (by omega))
  have HCF : Hid (∀ o ∈ settledS m (sourceS m T), crossB o (pivU x2 8) = false) := Lib.hid (fun o h => still_cross (settled_still h) _)
  have HFI := Lib.hid (fun v vp wx (h : IsMsgs wx v (settledS m (sourceS m T))) (hp : IsStrs wx vp (pivU x2 8)) => sfirst_w v vp _ _ wx h hp hps (fun o ho => HLS.out o ho) (by omega))
  have hfn := firstF_none (settledS m (sourceS m T)) 0 HCF.out
  rw [hfn] at HFI
  have HKN : Hid (movesB m = true → ∀ o ∈ settledS m (sourceS m T), o.kind = 1 ∨ o.kind = 3) := Lib.hid (fun hm o ho => by
    rcases mem_settled ho with ⟨h, _⟩ | ⟨_, ⟨p, _, rfl⟩ | ⟨x, _, rfl⟩⟩
    · rw [h] at hm; cases hm
    · exact .inr rfl
    · exact .inl rfl)
  have HOT : Hid (movesB m = false → settledS m (sourceS m T) = [m]) := Lib.hid (fun h => settled_other h _)
  have HSC := Lib.hid (fun v wx (h : IsPairs wx v T) => source_w v T m wx h (by omega) hz5)
  have HLI := Lib.hid (fun v wx (h : IsPairs wx v (sourceS m T)) => slist_w m v (sourceS m T) wx (by omega) hzm (fun x hx => ⟨(source_mem hx).2, by have := (hTs x (source_mem hx).1).1; omega⟩) h)
  have hLl := settled_len m (sourceS m T)
  clear hst hTs hvm hfm hzm hz5 hfn HLS hps hx2
  generalize settledS m (sourceS m T) = L at *
  generalize sourceS m T = src at *
  generalize pivU x2 8 = ps at *
  have HB0 : Hid (Blk (w.alloc (.cells (raw6 xa xb xc xd xe xf) 60)) w.heap.size 60 (raw6 xa xb xc xd xe xf)) := Lib.hid (Blk.new _ _ _)
  have HBX := Lib.hid (below_box (w := w) (.cells (raw6 xa xb xc xd xe xf) 60))
  change Calls _ _ #[v0, .agg (raw6 xa xb xc xd xe xf), _] _ _
  go_enter Tryz.func6, Tryz.ntmps6
  go_wp2_with fail
  refine (usan_w _).mono ?_
  rintro e w1 ⟨rfl, hb1⟩
  have HR1 := Lib.hid (HB0.out.below hb1 HB0.out.lt)
  have HB1 := Lib.hid (HBX.out.trans (hb1.mono HBX.out.size))
  clear hb1 HB0 HBX
  have r0 := HR1.out.c0 0 _ rfl
  have r1 := HR1.out.c0 1 _ rfl
  have r2 := HR1.out.c0 2 _ rfl
  have r3 := HR1.out.c0 3 _ rfl
  have r4 := HR1.out.c0 4 _ rfl
  have r5 := HR1.out.c0 5 _ rfl
  go_wp2_with fail
  refine (HMD.out w1).mono ?_
  rintro e w3 ⟨rfl, hb3⟩
  have hbx := below_box (w := w3) (.cells (encM m) 40)
  have HX3 : Hid (Blk (w3.alloc (.cells (encM m) 40)) w3.heap.size 40 (encM m)) := Lib.hid (Blk.new _ _ _)
  have HB3 := Lib.hid ((HB1.out.trans (hb3.mono HB1.out.size)).trans (hbx.mono (Nat.le_trans HB1.out.size hb3.size)))
  clear hb3 hbx r0 r1 r2 r3 r4 r5 HR1 HB1 HMD
  go_wp2_with fail
  obtain ⟨W4, hW4⟩ : ∃ W4, W4 = w3.alloc (.cells (encM m) 40) := ⟨_, rfl⟩
  have HW4 := Lib.hid hW4
  rw [← hW4] at HX3 HB3 ⊢
  clear hW4 HW4
  generalize w3.heap.size = bx at *
  have hxl := HX3.out.lt
  have hX : ∀ i x, (encM m)[i]? = some x → ∀ wx, Below W4.heap.size W4 wx → wx.cell? ⟨bx, i, none⟩ = some x := fun i x hi wx hx => (HX3.out.below hx hxl).c0 i x hi
  have y0 : ∀ wx, Below W4.heap.size W4 wx → wx.cell? ⟨bx, 0, none⟩ = some (.int .i64 m.kind) := hX 0 _ rfl
  have y1 : ∀ wx, Below W4.heap.size W4 wx → wx.cell? ⟨bx, 1, none⟩ = some (.string (Str m.key)) := hX 1 _ rfl
  have y2 : ∀ wx, Below W4.heap.size W4 wx → wx.cell? ⟨bx, 2, none⟩ = some (.string (Str m.val)) := hX 2 _ rfl
  have y3 : ∀ wx, Below W4.heap.size W4 wx → wx.cell? ⟨bx, 3, none⟩ = some (.string (Str m.lo)) := hX 3 _ rfl
  have y4 : ∀ wx, Below W4.heap.size W4 wx → wx.cell? ⟨bx, 4, none⟩ = some (.string (Str m.hi)) := hX 4 _ rfl
  have y5 : ∀ wx, Below W4.heap.size W4 wx → wx.cell? ⟨bx, 5, none⟩ = some (.string (Str m.src)) := hX 5 _ rfl
  have y6 : ∀ wx, Below W4.heap.size W4 wx → wx.cell? ⟨bx, 6, none⟩ = some (.string (Str m.dst)) := hX 6 _ rfl
  have y7 : ∀ wx, Below W4.heap.size W4 wx → wx.cell? ⟨bx, 7, none⟩ = some (.int .i64 m.n) := hX 7 _ rfl
  clear hX
  have HL0 : Hid (Below W4.heap.size W4 W4) := Lib.hid (Below.refl _ _)
  have HC1 : Hid (∀ wx, Below W4.heap.size W4 wx → Calls Tryz.prog 25 #[v0] wx fun e w' => ∃ a c, e = .returned (.slice a T.length c) ∧ IsPairs w' (.slice a T.length c) T ∧ Below W4.heap.size W4 w') := Lib.hid (fun wx hx => (HT0.out wx (H0.out.below (HB3.out.trans (hx.mono HB3.out.size)))).mono fun e w' ⟨v', h1, _, h3, h4⟩ => by
    obtain ⟨a, c, rfl⟩ := pairs_form h3
    exact ⟨a, c, h1, h3, hx.trans (h4.mono hx.size)⟩)
  have HC2 : Hid (∀ a c wx, Below W4.heap.size W4 wx → IsPairs wx (.slice a T.length c) T → Calls Tryz.prog 30 #[.slice a T.length c, msgV m] wx fun e w' => ∃ a c, e = .returned (.slice a src.length c) ∧ IsPairs w' (.slice a src.length c) src ∧ Below W4.heap.size W4 w') := Lib.hid (fun a c wx hx hp => (HSC.out _ wx hp).mono fun e w' ⟨v', h1, h2, h3⟩ => by
    obtain ⟨a, c, rfl⟩ := pairs_form h2
    exact ⟨a, c, h1, h2, hx.trans (h3.mono hx.size)⟩)
  have HC3 : Hid (∀ a c wx, Below W4.heap.size W4 wx → IsPairs wx (.slice a src.length c) src → Calls Tryz.prog 29 #[msgV m, .slice a src.length c] wx fun e w' => ∃ a c, e = .returned (.slice a L.length c) ∧ IsMsgs w' (.slice a L.length c) L ∧ Below W4.heap.size W4 w') := Lib.hid (fun a c wx hx hp => (HLI.out _ wx hp).mono fun e w' ⟨v', h1, h2, h3⟩ => by
    have h4 := h2.msgs
    obtain ⟨a, c, rfl⟩ := msgs_form h4
    exact ⟨a, c, h1, h4, hx.trans (h3.mono hx.size)⟩)
  clear HT0 H0 HSC HLI
  go_cut [9] (fun s9 wx => ∃ a c, s9 = .slice a L.length c ∧ Hid (IsMsgs wx (.slice a L.length c) L) ∧ Hid (Below W4.heap.size W4 wx))
  case first =>
    go_region_held3 (fun wx => Below W4.heap.size W4 wx)
      (repeat (first | with_reducible assumption | with_reducible exact HL0.out | with_reducible refine Below.drew ?_ | with_reducible refine keepAU ?_ _))
      (first
        | (go_at_call 25; (refine (HC1.out _ (by repeat (first | with_reducible assumption | with_reducible exact HL0.out | with_reducible refine Below.drew ?_))).mono ?_); rintro e2 y2' ⟨p2, c2, rfl, g2, hS2⟩)
        | (go_at_call 30; (refine (HC2.out p2 c2 _ (by repeat (first | with_reducible assumption | with_reducible exact HL0.out | with_reducible refine Below.drew ?_)) (by first | with_reducible exact g2 | exact g2.below (below_drewN _ 1))).mono ?_); rintro e3 y3' ⟨p3, c3, rfl, g3, hS3⟩)
        | (go_at_call 29; (refine (HC3.out p3 c3 _ (by repeat (first | with_reducible assumption | with_reducible exact HL0.out | with_reducible refine Below.drew ?_)) (by first | with_reducible exact g3 | exact g3.below (below_drewN _ 1))).mono ?_); rintro e4 y4' ⟨p4, c4, rfl, g4, hS4⟩)
        | fail "no arm")
    all_goals (go_wp2_with fail; go_meet)
    all_goals exact ⟨p4, c4, rfl, Lib.hid g4, Lib.hid hS4⟩
  case rest =>
    obtain ⟨a9, c9, rfl, HM9, HB9⟩ := hcut
    clear y0 y1 y2 y3 y4 y5 y6 y7 HC1 HC2 HC3 HL0
    have HX9 := Lib.hid (HX3.out.below HB9.out hxl)
    have HW9 := Lib.hid (HB3.out.trans (HB9.out.mono HB3.out.size))
    obtain ⟨z0, z1, z2, z3, z4, z5, z6, z7⟩ : (wc.cell? ⟨bx, 0, none⟩ = some (.int .i64 m.kind)) ∧ (wc.cell? ⟨bx, 1, none⟩ = some (.string (Str m.key))) ∧ (wc.cell? ⟨bx, 2, none⟩ = some (.string (Str m.val))) ∧ (wc.cell? ⟨bx, 3, none⟩ = some (.string (Str m.lo))) ∧ (wc.cell? ⟨bx, 4, none⟩ = some (.string (Str m.hi))) ∧ (wc.cell? ⟨bx, 5, none⟩ = some (.string (Str m.src))) ∧ (wc.cell? ⟨bx, 6, none⟩ = some (.string (Str m.dst))) ∧ (wc.cell? ⟨bx, 7, none⟩ = some (.int .i64 m.n)) := HX9.out.eightCU
    clear HX3 HB3 HB9
    cases hmb : movesB m with
    | false =>
      have h4 : ¬ m.kind = 4 := fun e => by rw [(moves_iff m).2 (.inl e)] at hmb; cases hmb
      have h5 : ¬ m.kind = 5 := fun e => by rw [(moves_iff m).2 (.inr e)] at hmb; cases hmb
      have e4 : (m.kind != 4) = true := by simpa using h4
      have e5 : (m.kind != 5) = true := by simpa using h5
      have e4' : (m.kind == 4) = false := by simpa using h4
      have e5' : (m.kind == 5) = false := by simpa using h5
      obtain rfl := HOT.out hmb
      have hm9 := HM9.out
      obtain ⟨gl, ol, capl, al, hv, hl1, hl2, hl3, hl4⟩ := hm9.form
      obtain ⟨rfl, hma⟩ := hl4 0 (by simp)
      simp only [Nat.zero_mul, Nat.add_zero, List.getElem_cons_zero] at hma
      obtain ⟨c0, c1, c2, c3, c4, c5, c6, c7⟩ := hma
      cases hv
      have HQ := fun wx => eql_msg m m wx
      rw [decide_eq_true rfl] at HQ
      clear h4 h5 hmb hl1 hl2 hl3 hl4 hm9 HKN HCF HCR HFI HPV
      have HGU := fun o p wx => guard_msg .eql o p (encM m) (encM m) wx
      go_upto_region 5 with fail
      obtain ⟨m0, m1, m2, m3, m4, m5, m6, m7⟩ := m
      dsimp only at z0 z1 z2 z3 z4 z5 z6 z7 c0 c1 c2 c3 c4 c5 c6 c7
      dsimp only [msgV, encM] at HQ HGU
      have z0 := fun n => (show (wc.drewN n).cell? ⟨bx, 0, none⟩ = some (.int .i64 m0) from z0)
      have z1 := fun n => (show (wc.drewN n).cell? ⟨bx, 1, none⟩ = some (.string (Str m1)) from z1)
      have z2 := fun n => (show (wc.drewN n).cell? ⟨bx, 2, none⟩ = some (.string (Str m2)) from z2)
      have z3 := fun n => (show (wc.drewN n).cell? ⟨bx, 3, none⟩ = some (.string (Str m3)) from z3)
      have z4 := fun n => (show (wc.drewN n).cell? ⟨bx, 4, none⟩ = some (.string (Str m4)) from z4)
      have z5 := fun n => (show (wc.drewN n).cell? ⟨bx, 5, none⟩ = some (.string (Str m5)) from z5)
      have z6 := fun n => (show (wc.drewN n).cell? ⟨bx, 6, none⟩ = some (.string (Str m6)) from z6)
      have z7 := fun n => (show (wc.drewN n).cell? ⟨bx, 7, none⟩ = some (.int .i64 m7) from z7)
      have c0 := fun n => (show (wc.drewN n).cell? ⟨gl, ol, none⟩ = some (.int .i64 m0) from c0)
      have c1 := fun n => (show (wc.drewN n).cell? ⟨gl, ol + 1, none⟩ = some (.string (Str m1)) from c1)
      have c2 := fun n => (show (wc.drewN n).cell? ⟨gl, ol + 2, none⟩ = some (.string (Str m2)) from c2)
      have c3 := fun n => (show (wc.drewN n).cell? ⟨gl, ol + 3, none⟩ = some (.string (Str m3)) from c3)
      have c4 := fun n => (show (wc.drewN n).cell? ⟨gl, ol + 4, none⟩ = some (.string (Str m4)) from c4)
      have c5 := fun n => (show (wc.drewN n).cell? ⟨gl, ol + 5, none⟩ = some (.string (Str m5)) from c5)
      have c6 := fun n => (show (wc.drewN n).cell? ⟨gl, ol + 6, none⟩ = some (.string (Str m6)) from c6)
      have c7 := fun n => (show (wc.drewN n).cell? ⟨gl, ol + 7, none⟩ = some (.int .i64 m7) from c7)
      go_quiet (fail)
      go_wp2
      go_ret
      exact ⟨by first | rfl | simp, HW9.out.trans (below_drewN' _ _ HW9.out.size)⟩
    | true =>
      have hkd := (moves_iff m).1 hmb
      have HKK := Lib.hid (HKN.out hmb)
      clear HKN HOT hmb
      obtain ⟨gl, ol, capl, al, hv, hl1, hl2, hl3, hl4⟩ := HM9.out.form
      unfold maxLen at hl2
      have HCL : Hid (∀ i (h : i < L.length), al = some ⟨gl, ol, none⟩ ∧ gl < wc.heap.size ∧ MAt wc gl (ol + i * 8) L[i]) := Lib.hid (fun i h => ⟨(hl4 i h).1, (hl3 (by rintro rfl; simp at h)).2, (hl4 i h).2⟩)
      have hLm : Hid (∀ i (h : i < L.length), L[i] ∈ L) := Lib.hid (fun i h => List.getElem_mem h)
      cases hv
      clear hl3 hl4
      obtain ⟨we, rfl⟩ : ∃ we, we = wc := ⟨wc, rfl⟩
      go_upto_region 4 with fail
      go_cut [29] (fun s29 wx => s29 = .bool false ∧ Hid (wx = we))
      case first =>
        rcases hkd with hk | hk
        all_goals
          rw [hk] at z0
          clear hk
          go_wp2_with fail
          go_meet
          exact ⟨rfl, Lib.hid rfl⟩
      case rest =>
        obtain ⟨rfl, hww⟩ := hcut
        obtain rfl := hww.out
        clear z0 z1 z2 z3 z4 z5 z6 z7 hww
        go_wp2
        go_loopw [10] (fun i wr => ∃ k : Nat, k ≤ L.length ∧ i = .int .i64 k ∧ Below wc.heap.size wc wr) (fun i _ => L.length - (intOf i).toNat)
        case atStart => exact ⟨0, Nat.zero_le _, rfl, Below.refl _ _⟩
        case round =>
          obtain ⟨k, hk, rfl, hbel⟩ := hrel
          have Hbel := Lib.hid hbel
          by_cases hlt : k < L.length
          · have hltz : (k : Int) < (L.length : Int) := by omega
            obtain ⟨rfl, hgl, hma⟩ := HCL.out k hlt
            have hmem := hLm.out k hlt
            have hk13 := HKK.out L[k] hmem
            have hcr := fun vp wx hp => HCR.out L[k] hmem vp wx hp
            rw [HCF.out L[k] hmem] at hcr
            have hma' := hma.below hbel hgl
            have hgl' : gl < wr.heap.size := Nat.lt_of_lt_of_le hgl hbel.size
            generalize L[k] = o at *
            have hM : ∀ wx, Below wr.heap.size wr wx → MAt wx gl (ol + k * 8) o := fun wx hx => hma'.below hx hgl'
            have HCX : Hid (∀ vp wx, Below wr.heap.size wr wx → IsStrs wx vp ps → Calls Tryz.prog 19 #[msgV o, vp] wx fun e w' => e = .returned (.bool false) ∧ Below wr.heap.size wr w') := Lib.hid (fun vp wx hx hp => (hcr vp wx hp).mono fun e w' ⟨h1, h2⟩ => ⟨h1, hx.trans (h2.mono hx.size)⟩)
            have HPX : Hid (∀ wx, Below wr.heap.size wr wx → Calls Tryz.prog 27 #[.int .u8 x2] wx fun e w' => ∃ a c, e = .returned (.slice a ps.length c) ∧ IsStrs w' (.slice a ps.length c) ps ∧ Below wr.heap.size wr w') := Lib.hid (fun wx hx => (HPV.out wx).mono fun e w' ⟨v', h1, h2, h3⟩ => by
              have h4 := h2
              obtain ⟨a, c, rfl, -⟩ := h4
              exact ⟨a, c, h1, h2, hx.trans (h3.mono hx.size)⟩)
            clear hmem hcr hma hma' hbel HKK HCR HCF HPV HFI
            have HL0 : Hid (Below wr.heap.size wr wr) := Lib.hid (Below.refl _ _)
            have y0 : ∀ wx, Below wr.heap.size wr wx → wx.cell? ⟨gl, ol + k * 8, none⟩ = some (.int .i64 o.kind) := fun wx hx => (hM wx hx).1
            have y1 : ∀ wx, Below wr.heap.size wr wx → wx.cell? ⟨gl, ol + k * 8 + 1, none⟩ = some (.string (Str o.key)) := fun wx hx => (hM wx hx).2.1
            have y2 : ∀ wx, Below wr.heap.size wr wx → wx.cell? ⟨gl, ol + k * 8 + 2, none⟩ = some (.string (Str o.val)) := fun wx hx => (hM wx hx).2.2.1
            have y3 : ∀ wx, Below wr.heap.size wr wx → wx.cell? ⟨gl, ol + k * 8 + 3, none⟩ = some (.string (Str o.lo)) := fun wx hx => (hM wx hx).2.2.2.1
            have y4 : ∀ wx, Below wr.heap.size wr wx → wx.cell? ⟨gl, ol + k * 8 + 4, none⟩ = some (.string (Str o.hi)) := fun wx hx => (hM wx hx).2.2.2.2.1
            have y5 : ∀ wx, Below wr.heap.size wr wx → wx.cell? ⟨gl, ol + k * 8 + 5, none⟩ = some (.string (Str o.src)) := fun wx hx => (hM wx hx).2.2.2.2.2.1
            have y6 : ∀ wx, Below wr.heap.size wr wx → wx.cell? ⟨gl, ol + k * 8 + 6, none⟩ = some (.string (Str o.dst)) := fun wx hx => (hM wx hx).2.2.2.2.2.2.1
            have y7 : ∀ wx, Below wr.heap.size wr wx → wx.cell? ⟨gl, ol + k * 8 + 7, none⟩ = some (.int .i64 o.n) := fun wx hx => (hM wx hx).2.2.2.2.2.2.2
            clear hM
            go_upto_region 9 with fail
            go_cut [71] (fun s71 wx => s71 = .bool false ∧ Hid (Below wr.heap.size wr wx))
            case first =>
              obtain ⟨o0, o1, o2, o3, o4, o5, o6, o7⟩ := o
              dsimp only at hk13 y0 y1 y2 y3 y4 y5 y6 y7 HCX
              rcases hk13 with rfl | rfl
              · refine wp_region_noPanic ?_
                refine wp_region_held_drew (S := fun wx => Below wr.heap.size wr wx) (by kernel_rfl) (Below.drew HL0.out) (fun hHeld => ?_)
                refine wpAnyH_take (i := 0) (oi := _) (v := ?_) rfl (by kernel_rfl) (by kernel_rfl) (by kernel_rfl) (fun _ _ _ h => h) (Or.inl ⟨by rfl, ?_⟩) (by with_reducible assumption) ?_
                rotate_left
                · intro wt hSw
                  go_simp
                  all_goals with_reducible rfl
                try simp only [Act.put, List.setIfInBounds_toArray, List.set_cons_zero, List.set_cons_succ]
                refine wpAnyH_take (i := 1) (oi := _) (v := ?_) rfl (by kernel_rfl) (by kernel_rfl) (by kernel_rfl) (fun _ _ _ h => h) (Or.inl ⟨by rfl, ?_⟩) (by with_reducible assumption) ?_
                rotate_left
                · intro wt hSw
                  go_simp
                  all_goals with_reducible rfl
                try simp only [Act.put, List.setIfInBounds_toArray, List.set_cons_zero, List.set_cons_succ]
                refine wpAnyH_take (i := 2) (oi := _) (v := ?_) rfl (by kernel_rfl) (by kernel_rfl) (by kernel_rfl) (fun _ _ _ h => h) (Or.inl ⟨by rfl, ?_⟩) (by with_reducible assumption) ?_
                rotate_left
                · intro wt hSw
                  go_simp
                  all_goals with_reducible rfl
                try simp only [Act.put, List.setIfInBounds_toArray, List.set_cons_zero, List.set_cons_succ]
                refine wpAnyH_take (i := 3) (oi := _) (v := ?_) rfl (by kernel_rfl) (by kernel_rfl) (by kernel_rfl) (fun _ _ _ h => h) (Or.inl ⟨by rfl, ?_⟩) (by with_reducible assumption) ?_
                rotate_left
                · intro wt hSw
                  go_simp
                  all_goals with_reducible rfl
                try simp only [Act.put, List.setIfInBounds_toArray, List.set_cons_zero, List.set_cons_succ]
                refine wpAnyH_take (i := 4) (oi := _) (v := ?_) rfl (by kernel_rfl) (by kernel_rfl) (by kernel_rfl) (fun _ _ _ h => h) (Or.inl ⟨by rfl, ?_⟩) (by with_reducible assumption) ?_
                rotate_left
                · intro wt hSw
                  go_simp
                  all_goals with_reducible rfl
                try simp only [Act.put, List.setIfInBounds_toArray, List.set_cons_zero, List.set_cons_succ]
                refine wpAnyH_take (i := 5) (oi := _) (v := ?_) rfl (by kernel_rfl) (by kernel_rfl) (by kernel_rfl) (fun _ _ _ h => h) (Or.inl ⟨by rfl, ?_⟩) (by with_reducible assumption) ?_
                rotate_left
                · intro wt hSw
                  go_simp
                  all_goals with_reducible rfl
                try simp only [Act.put, List.setIfInBounds_toArray, List.set_cons_zero, List.set_cons_succ]
                refine wpAnyH_take (i := 6) (oi := _) (v := ?_) rfl (by kernel_rfl) (by kernel_rfl) (by kernel_rfl) (fun _ _ _ h => h) (Or.inl ⟨by rfl, ?_⟩) (by with_reducible assumption) ?_
                rotate_left
                · intro wt hSw
                  go_simp
                  all_goals with_reducible rfl
                try simp only [Act.put, List.setIfInBounds_toArray, List.set_cons_zero, List.set_cons_succ]
                refine wpAnyH_take (i := 7) (oi := _) (v := undef) rfl (by kernel_rfl) (by kernel_rfl) (by kernel_rfl) (fun _ _ _ h => h) (Or.inr ⟨by kernel_rfl, rfl⟩) (by with_reducible assumption) ?_
                simp only [Act.put, List.getElem_toArray, List.getElem_cons_zero, List.getElem_cons_succ, List.setIfInBounds_toArray, List.set_cons_zero, List.set_cons_succ]
                refine wpAnyH_take (i := 8) (oi := _) (v := undef) rfl (by kernel_rfl) (by kernel_rfl) (by kernel_rfl) (fun _ _ _ h => h) (Or.inr ⟨by kernel_rfl, rfl⟩) (by with_reducible assumption) ?_
                simp only [Act.put, List.getElem_toArray, List.getElem_cons_zero, List.getElem_cons_succ, List.setIfInBounds_toArray, List.set_cons_zero, List.set_cons_succ]
                refine wpAnyH_take (i := 9) (oi := _) (v := undef) rfl (by kernel_rfl) (by kernel_rfl) (by kernel_rfl) (fun _ _ _ h => h) (Or.inr ⟨by kernel_rfl, rfl⟩) (by with_reducible assumption) ?_
                simp only [Act.put, List.getElem_toArray, List.getElem_cons_zero, List.getElem_cons_succ, List.setIfInBounds_toArray, List.set_cons_zero, List.set_cons_succ]
                refine wpAnyH_take (i := 10) (oi := _) (v := undef) rfl (by kernel_rfl) (by kernel_rfl) (by kernel_rfl) (fun _ _ _ h => h) (Or.inr ⟨by kernel_rfl, rfl⟩) (by with_reducible assumption) ?_
                simp only [Act.put, List.getElem_toArray, List.getElem_cons_zero, List.getElem_cons_succ, List.setIfInBounds_toArray, List.set_cons_zero, List.set_cons_succ]
                refine wpAnyH_take (i := 11) (oi := _) (v := undef) rfl (by kernel_rfl) (by kernel_rfl) (by kernel_rfl) (fun _ _ _ h => h) (Or.inr ⟨by kernel_rfl, rfl⟩) (by with_reducible assumption) ?_
                simp only [Act.put, List.getElem_toArray, List.getElem_cons_zero, List.getElem_cons_succ, List.setIfInBounds_toArray, List.set_cons_zero, List.set_cons_succ]
                refine wpAnyH_take (i := 12) (oi := _) (v := undef) rfl (by kernel_rfl) (by kernel_rfl) (by kernel_rfl) (fun _ _ _ h => h) (Or.inr ⟨by kernel_rfl, rfl⟩) (by with_reducible assumption) ?_
                simp only [Act.put, List.getElem_toArray, List.getElem_cons_zero, List.getElem_cons_succ, List.setIfInBounds_toArray, List.set_cons_zero, List.set_cons_succ]
                refine wpAnyH_take (i := 13) (oi := _) (v := ?_) rfl (by kernel_rfl) (by kernel_rfl) (by kernel_rfl) (fun _ _ _ h => h) (Or.inl ⟨by rfl, ?_⟩) (by with_reducible assumption) ?_
                rotate_left
                · intro wt hSw
                  go_simp
                  all_goals with_reducible rfl
                try simp only [Act.put, List.setIfInBounds_toArray, List.set_cons_zero, List.set_cons_succ]
                refine wpAnyH_take (i := 14) (oi := _) (v := ?_) rfl (by kernel_rfl) (by kernel_rfl) (by kernel_rfl) (fun _ _ _ h => h) (Or.inl ⟨by rfl, ?_⟩) (by with_reducible assumption) ?_
                rotate_left
                · intro wt hSw
                  go_simp
                  all_goals with_reducible rfl
                try simp only [Act.put, List.setIfInBounds_toArray, List.set_cons_zero, List.set_cons_succ]
                refine wpAnyH_take (i := 15) (oi := _) (v := ?_) rfl (by kernel_rfl) (by kernel_rfl) (by kernel_rfl) (fun _ _ _ h => h) (Or.inl ⟨by rfl, ?_⟩) (by with_reducible assumption) ?_
                rotate_left
                · intro wt hSw
                  go_simp
                  all_goals with_reducible rfl
                try simp only [Act.put, List.setIfInBounds_toArray, List.set_cons_zero, List.set_cons_succ]
                refine wpAnyH_take (i := 16) (oi := _) (v := ?_) rfl (by kernel_rfl) (by kernel_rfl) (by kernel_rfl) (fun _ _ _ h => h) (Or.inl ⟨by rfl, ?_⟩) (by with_reducible assumption) ?_
                rotate_left
                · intro wt hSw
                  go_simp
                  all_goals with_reducible rfl
                try simp only [Act.put, List.setIfInBounds_toArray, List.set_cons_zero, List.set_cons_succ]
                refine wpAnyH_take (i := 17) (oi := _) (v := ?_) rfl (by kernel_rfl) (by kernel_rfl) (by kernel_rfl) (fun _ _ _ h => h) (Or.inl ⟨by rfl, ?_⟩) (by with_reducible assumption) ?_
                rotate_left
                · intro wt hSw
                  go_simp
                  all_goals with_reducible rfl
                try simp only [Act.put, List.setIfInBounds_toArray, List.set_cons_zero, List.set_cons_succ]
                refine wpAnyH_take (i := 18) (oi := _) (v := ?_) rfl (by kernel_rfl) (by kernel_rfl) (by kernel_rfl) (fun _ _ _ h => h) (Or.inl ⟨by rfl, ?_⟩) (by with_reducible assumption) ?_
                rotate_left
                · intro wt hSw
                  go_simp
                  all_goals with_reducible rfl
                try simp only [Act.put, List.setIfInBounds_toArray, List.set_cons_zero, List.set_cons_succ]
                refine wpAnyH_take (i := 19) (oi := _) (v := ?_) rfl (by kernel_rfl) (by kernel_rfl) (by kernel_rfl) (fun _ _ _ h => h) (Or.inl ⟨by rfl, ?_⟩) (by with_reducible assumption) ?_
                rotate_left
                · intro wt hSw
                  go_simp
                  all_goals with_reducible rfl
                try simp only [Act.put, List.setIfInBounds_toArray, List.set_cons_zero, List.set_cons_succ]
                refine wpAnyH_ready (rs := [20]) (by kernel_rfl) (by simp) ?_
                refine AllReadyH.cons (o := _) rfl (fun K hK => ?_) AllReadyH.nil
                go_simp
                (go_at_call 27; (refine (HPX.out _ (by with_reducible assumption)).mono ?_); rintro e2 y2' ⟨p2, c2, rfl, g2, hS2⟩)
                refine hK.out _ _ (by (first | with_reducible assumption | with_reducible refine Below.drew ?_)) (fun hHeld => ?_)
                clear hK K
                try simp only [List.setIfInBounds_toArray, List.set_cons_zero, List.set_cons_succ]
                refine wpAnyH_ready (rs := [21]) (by kernel_rfl) (by simp) ?_
                refine AllReadyH.cons (o := _) rfl (fun K hK => ?_) AllReadyH.nil
                go_simp
                (go_at_call 19; (refine (HCX.out _ _ (by with_reducible assumption) g2).mono ?_); rintro e3 y3' ⟨rfl, hS3⟩)
                refine hK.out _ _ (by (first | with_reducible assumption | with_reducible refine Below.drew ?_)) (fun hHeld => ?_)
                clear hK K
                try simp only [List.setIfInBounds_toArray, List.set_cons_zero, List.set_cons_succ]
                refine wpAnyH_take (i := 22) (oi := _) (v := ?_) rfl (by kernel_rfl) (by kernel_rfl) (by kernel_rfl) (fun _ _ _ h => h) (Or.inl ⟨by rfl, ?_⟩) (by with_reducible assumption) ?_
                rotate_left
                · intro wt hSw
                  go_simp
                  all_goals with_reducible rfl
                try simp only [Act.put, List.setIfInBounds_toArray, List.set_cons_zero, List.set_cons_succ]
                refine wpAnyH_done (by kernel_rfl) ?_ _
                refine NoPanic.normal ?_
                have HF := Lib.hid hHeld
                clear y0 y1 y2 y3 y4 y5 y6 y7
                go_wp2_with fail
                go_meet
                exact ⟨rfl, HF⟩
              · go_region_held3 (fun wx => Below wr.heap.size wr wx)
                  (repeat (first | with_reducible assumption | with_reducible exact HL0.out | with_reducible refine Below.drew ?_ | with_reducible refine keepAU ?_ _))
                  (first
                    | (go_at_call 27; (refine (HPX.out _ (by repeat (first | with_reducible assumption | with_reducible exact HL0.out | with_reducible refine Below.drew ?_))).mono ?_); rintro e2 y2' ⟨p2, c2, rfl, g2, hS2⟩)
                    | (go_at_call 19; (refine (HCX.out _ _ (by repeat (first | with_reducible assumption | with_reducible exact HL0.out | with_reducible refine Below.drew ?_)) (by first | with_reducible exact g2 | exact g2.below (below_drewN _ 1))).mono ?_); rintro e3 y3' ⟨rfl, hS3⟩)
                    | fail "no arm")
                all_goals (go_wp2_with fail; go_meet)
                all_goals exact ⟨rfl, Lib.hid hS3⟩
            case rest =>
              obtain ⟨rfl, hS⟩ := hcut
              clear y0 y1 y2 y3 y4 y5 y6 y7 HCX HPX hk13
              have HF := Lib.hid (Hbel.out.trans (hS.out.mono Hbel.out.size))
              go_wp2
              go_roundw
              case rel => exact ⟨k + 1, by omega, by go_num, HF.out⟩
              case measure => simp [intOf]; omega
          · obtain rfl : k = L.length := by omega
            have HM10 := Lib.hid (HM9.out.below hbel)
            have HB10 := Lib.hid (HW9.out.trans (hbel.mono HW9.out.size))
            clear hbel HKK HCR HCF HCL hLm HM9
            go_wp2_with fail
            refine (HPV.out _).mono ?_
            rintro e w11 ⟨v11, rfl, hp11, hb11⟩
            have HP11 := Lib.hid hp11
            have HM11 := Lib.hid (HM10.out.below hb11)
            have HB11 := Lib.hid (HB10.out.trans (hb11.mono HB10.out.size))
            obtain ⟨a11, c11, rfl, -⟩ := hp11
            clear hb11
            go_wp2_with fail
            refine (HFI.out _ _ w11 HM11.out HP11.out).mono ?_
            rintro e w12 ⟨rfl, hb12⟩
            have HB12 := Lib.hid (HB11.out.trans (hb12.mono HB11.out.size))
            clear hb12
            go_wp2
            go_ret
            exact ⟨by first | rfl | simp, HB12.out⟩

end Go.Proofs.YtfpcaoacbjhkgaaGreat
