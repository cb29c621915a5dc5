/-
  The walk of the law SettleCounts.
-/
import Derived.Test.YtfpcaoacbjhkgaaGreatUO
namespace Go.Proofs.YtfpcaoacbjhkgaaGreat
open Go.RowKit Go.Sort
set_option linter.unusedVariables false

theorem below_drewC {B : Nat} (w : World) (n : Nat) (h : B ≤ w.heap.size) : Below B w (w.drewN n) := (below_drewN w n).mono h
theorem below_drewC' {W w : World} (h : Below W.heap.size W w) (n : Nat) : Below W.heap.size W (w.drewN n) := h.trans (below_drewC w n h.size)
theorem pairs_cells {w : World} {v : Value} {l : List Pr} (h : IsPairs w v l) (i : Nat) (hi : i < l.length) : ∃ b off cap, v = .slice (some ⟨b, off, none⟩) l.length cap ∧ b < w.heap.size ∧ w.cell? ⟨b, off + i * 3, none⟩ = some (.string (Str l[i].1)) ∧ w.cell? ⟨b, off + i * 3 + 1, none⟩ = some (.string (Str l[i].2.1)) ∧ w.cell? ⟨b, off + i * 3 + 2, none⟩ = some (.int .i64 l[i].2.2) := by
  obtain ⟨b, off, cap, a, rfl, -, -, h4, h5⟩ := h.form
  obtain ⟨rfl, h6⟩ := h5 i hi
  exact ⟨b, off, cap, rfl, (h4 (by rintro rfl; simp at hi)).2, h6⟩
set_option maxRecDepth 100000 in
set_option maxHeartbeats 8000000 in
theorem settleCounts_walk (w : World) (v0 : Value) (x0 : List Rw) (h0 : T4.IsRaws w v0 x0) (v1 : Value) (x1 : R6) (h1 : IsRaw6 w v1 x1) :
    Calls Tryz.prog 8 #[v0, v1] w fun e w' => e = .returned (.bool true) ∧ Below w.heap.size w w' := by
  have mixed := mixedA
  obtain ⟨rfl, hsm⟩ := h1
  have H0 := Lib.hid h0
  clear h0
  have HT0 := Lib.hid (fun wx (h : T4.IsRaws wx v0 x0) => T4.made_w v0 x0 wx h)
  have hst := T4.srt_made x0
  have hTl := T4.made_len x0
  have hTs := T4.made_small (l := x0)
  obtain ⟨hzm, hvm, hfm⟩ := made_okU x1
  generalize T4.madeS x0 = T at *
  obtain ⟨xa, xb, xc, xd, xe, xf⟩ := x1
  have HMD := Lib.hid (fun wx => made_w xa xb xc xd xe xf wx hsm)
  change SizeM (madeM xa xb xc xd xe xf) at hzm
  change validM (madeM xa xb xc xd xe xf) = true at hvm
  change Few (madeM xa xb xc xd xe xf) at hfm
  generalize madeM xa xb xc xd xe xf = m at *
  have hsrc := source_len m T
  have hz5 : m.src.length ≤ 140737488355328 := by have := hzm.2.2.2.2.1; omega
  have HLS : Hid (∀ o ∈ settledS m (sourceS m T), SizeM o) := Lib.hid (fun o ho => settled_size hzm hvm (fun x hx => by have := hTs x (source_mem hx).1; omega) ho)
  have HSP : Hid (∀ x ∈ sourceS m T, m.src.length ≤ x.1.length ∧ x.1.length ≤ 20) := Lib.hid (fun x hx => by
    obtain ⟨h1, h2⟩ := source_mem hx
    obtain ⟨r, hr⟩ := pre_split h2
    refine ⟨?_, (hTs x h1).1⟩
    rw [hr, List.length_append]; omega)
  have HDL : Hid (m.dst.length ≤ 100) := Lib.hid hfm.2
  have HK0 : Hid (movesB m = true → (settledS m (sourceS m T))[0]? = some (dropM m.dst)) := Lib.hid (fun hm => by rw [settled_moves hm]; rfl)
  have HKK : Hid (movesB m = true → ∀ k (h : k < (sourceS m T).length), (settledS m (sourceS m T))[k + 1]? = some (putM m (sourceS m T)[k])) := Lib.hid (fun hm k h => by
    rw [settled_moves hm, List.getElem?_cons_succ, List.getElem?_append_left (by simpa using h), List.getElem?_map, List.getElem?_eq_getElem h]; rfl)
  have HKE : Hid (m.kind = 4 → (settledS m (sourceS m T))[(sourceS m T).length + 1]? = some (dropM m.src)) := Lib.hid (fun hk => by
    rw [settled_moves ((moves_iff m).2 (.inl hk)), List.getElem?_cons_succ, List.getElem?_append_right (by simp)]
    unfold endM
    rw [if_pos hk]
    simp)
  have HN4 : Hid (m.kind = 4 → (settledS m (sourceS m T)).length = (sourceS m T).length + 2) := Lib.hid (fun hk => by
    rw [settled_moves ((moves_iff m).2 (.inl hk))]
    unfold endM
    rw [if_pos hk]
    simp)
  have HN5 : Hid (m.kind = 5 → (settledS m (sourceS m T)).length = (sourceS m T).length + 1) := Lib.hid (fun hk => by
    rw [settled_moves ((moves_iff m).2 (.inr hk))]
    unfold endM
    rw [if_neg (by omega)]
    simp)
  have HOT : Hid (movesB m = false → settledS m (sourceS m T) = [m]) := Lib.hid (fun h => settled_other h _)
  have HSC := Lib.hid (fun v wx (h : IsPairs wx v T) => source_w v T m wx h (by omega) hz5)
  have HLI := Lib.hid (fun v wx (h : IsPairs wx v (sourceS m T)) => slist_w m v (sourceS m T) wx (by omega) hzm (fun x hx => ⟨(source_mem hx).2, by have := (hTs x (source_mem hx).1).1; omega⟩) h)
  have hLl := settled_len m (sourceS m T)
  generalize settledS m (sourceS m T) = L at *
  generalize sourceS m T = src at *
  have HB0 : Hid (Blk (w.alloc (.cells (raw6 xa xb xc xd xe xf) 60)) w.heap.size 60 (raw6 xa xb xc xd xe xf)) := Lib.hid (Blk.new _ _ _)
  have HBX := Lib.hid (below_box (w := w) (.cells (raw6 xa xb xc xd xe xf) 60))
  change Calls _ _ #[v0, .agg (raw6 xa xb xc xd xe xf)] _ _
  go_enter Tryz.func8, Tryz.ntmps8
  go_wp2_with fail
  refine (usan_w _).mono ?_
  rintro e w1 ⟨rfl, hb1⟩
  have HR1 := Lib.hid (HB0.out.below hb1 HB0.out.lt)
  have HB1 := Lib.hid (HBX.out.trans (hb1.mono HBX.out.size))
  clear hb1 HB0 HBX
  have r0 := HR1.out.c0 0 _ rfl
  have r1 := HR1.out.c0 1 _ rfl
  have r2 := HR1.out.c0 2 _ rfl
  have r3 := HR1.out.c0 3 _ rfl
  have r4 := HR1.out.c0 4 _ rfl
  have r5 := HR1.out.c0 5 _ rfl
  go_wp2_with fail
  refine (HMD.out w1).mono ?_
  rintro e w3 ⟨rfl, hb3⟩
  have hbx := below_box (w := w3) (.cells (encM m) 40)
  have HX3 : Hid (Blk (w3.alloc (.cells (encM m) 40)) w3.heap.size 40 (encM m)) := Lib.hid (Blk.new _ _ _)
  have HB3 := Lib.hid ((HB1.out.trans (hb3.mono HB1.out.size)).trans (hbx.mono (Nat.le_trans HB1.out.size hb3.size)))
  clear hb3 hbx r0 r1 r2 r3 r4 r5 HR1 HB1 HMD
  go_wp2_with fail
  obtain ⟨W4, hW4⟩ : ∃ W4, W4 = w3.alloc (.cells (encM m) 40) := ⟨_, rfl⟩
  have HW4 := Lib.hid hW4
  rw [← hW4] at HX3 HB3 ⊢
  clear hW4 HW4
  generalize w3.heap.size = bx at *
  have hxl := HX3.out.lt
  have hX : ∀ i x, (encM m)[i]? = some x → ∀ wx, Below W4.heap.size W4 wx → wx.cell? ⟨bx, i, none⟩ = some x := fun i x hi wx hx => (HX3.out.below hx hxl).c0 i x hi
  have y0 : ∀ wx, Below W4.heap.size W4 wx → wx.cell? ⟨bx, 0, none⟩ = some (.int .i64 m.kind) := hX 0 _ rfl
  have y1 : ∀ wx, Below W4.heap.size W4 wx → wx.cell? ⟨bx, 1, none⟩ = some (.string (Str m.key)) := hX 1 _ rfl
  have y2 : ∀ wx, Below W4.heap.size W4 wx → wx.cell? ⟨bx, 2, none⟩ = some (.string (Str m.val)) := hX 2 _ rfl
  have y3 : ∀ wx, Below W4.heap.size W4 wx → wx.cell? ⟨bx, 3, none⟩ = some (.string (Str m.lo)) := hX 3 _ rfl
  have y4 : ∀ wx, Below W4.heap.size W4 wx → wx.cell? ⟨bx, 4, none⟩ = some (.string (Str m.hi)) := hX 4 _ rfl
  have y5 : ∀ wx, Below W4.heap.size W4 wx → wx.cell? ⟨bx, 5, none⟩ = some (.string (Str m.src)) := hX 5 _ rfl
  have y6 : ∀ wx, Below W4.heap.size W4 wx → wx.cell? ⟨bx, 6, none⟩ = some (.string (Str m.dst)) := hX 6 _ rfl
  have y7 : ∀ wx, Below W4.heap.size W4 wx → wx.cell? ⟨bx, 7, none⟩ = some (.int .i64 m.n) := hX 7 _ rfl
  clear hX
  have HL0 : Hid (Below W4.heap.size W4 W4) := Lib.hid (Below.refl _ _)
  have HC1 : Hid (∀ wx, Below W4.heap.size W4 wx → Calls Tryz.prog 25 #[v0] wx fun e w' => ∃ a c, e = .returned (.slice a T.length c) ∧ IsPairs w' (.slice a T.length c) T ∧ Below W4.heap.size W4 w') := Lib.hid (fun wx hx => (HT0.out wx (H0.out.below (HB3.out.trans (hx.mono HB3.out.size)))).mono fun e w' ⟨v', h1, _, h3, h4⟩ => by
    obtain ⟨a, c, rfl⟩ := pairs_form h3
    exact ⟨a, c, h1, h3, hx.trans (h4.mono hx.size)⟩)
  have HC2 : Hid (∀ a c wx, Below W4.heap.size W4 wx → IsPairs wx (.slice a T.length c) T → Calls Tryz.prog 30 #[.slice a T.length c, msgV m] wx fun e w' => ∃ a c, e = .returned (.slice a src.length c) ∧ IsPairs w' (.slice a src.length c) src ∧ Below W4.heap.size W4 w') := Lib.hid (fun a c wx hx hp => (HSC.out _ wx hp).mono fun e w' ⟨v', h1, h2, h3⟩ => by
    obtain ⟨a, c, rfl⟩ := pairs_form h2
    exact ⟨a, c, h1, h2, hx.trans (h3.mono hx.size)⟩)
  clear HT0 H0 HSC
  go_cut [7] (fun s7 wx => ∃ a c, s7 = .slice a src.length c ∧ Hid (IsPairs wx (.slice a src.length c) src) ∧ Hid (Below W4.heap.size W4 wx))
  case first =>
    go_region_held3 (fun wx => Below W4.heap.size W4 wx)
      (repeat (first | with_reducible assumption | with_reducible exact HL0.out | with_reducible refine Below.drew ?_ | with_reducible refine keepAU ?_ _))
      (first
        | (go_at_call 25; (refine (HC1.out _ (by repeat (first | with_reducible assumption | with_reducible exact HL0.out | with_reducible refine Below.drew ?_))).mono ?_); rintro e2 y2' ⟨p2, c2, rfl, g2, hS2⟩)
        | (go_at_call 30; (refine (HC2.out p2 c2 _ (by repeat (first | with_reducible assumption | with_reducible exact HL0.out | with_reducible refine Below.drew ?_)) (by first | with_reducible exact g2 | exact g2.below (below_drewN _ 1))).mono ?_); rintro e3 y3' ⟨p3, c3, rfl, g3, hS3⟩)
        | fail "no arm")
    all_goals (go_wp2_with fail; go_meet)
    all_goals exact ⟨p3, c3, rfl, Lib.hid g3, Lib.hid hS3⟩
  case rest =>
    obtain ⟨a9, c9, rfl, HP9, HB9⟩ := hcut
    clear y0 y1 y2 y3 y4 y5 y6 y7 HC1 HC2 HL0
    have HX9 := Lib.hid (HX3.out.below HB9.out hxl)
    have HW9 := Lib.hid (HB3.out.trans (HB9.out.mono HB3.out.size))
    obtain ⟨z0, z1, z2, z3, z4, z5, z6, z7⟩ : (wc.cell? ⟨bx, 0, none⟩ = some (.int .i64 m.kind)) ∧ (wc.cell? ⟨bx, 1, none⟩ = some (.string (Str m.key))) ∧ (wc.cell? ⟨bx, 2, none⟩ = some (.string (Str m.val))) ∧ (wc.cell? ⟨bx, 3, none⟩ = some (.string (Str m.lo))) ∧ (wc.cell? ⟨bx, 4, none⟩ = some (.string (Str m.hi))) ∧ (wc.cell? ⟨bx, 5, none⟩ = some (.string (Str m.src))) ∧ (wc.cell? ⟨bx, 6, none⟩ = some (.string (Str m.dst))) ∧ (wc.cell? ⟨bx, 7, none⟩ = some (.int .i64 m.n)) := HX9.out.eightCU
    have hxl9 := HX9.out.lt
    clear HX3 HB3 HB9
    go_wp2_with fail
    refine (HLI.out _ _ HP9.out).mono ?_
    rintro e w5 ⟨v5, rfl, ho5, hb5⟩
    have hm5 := ho5.msgs
    have HX5 := Lib.hid (HX9.out.below hb5 hxl9)
    have HP5 := Lib.hid (HP9.out.below hb5)
    have HW5 := Lib.hid (HW9.out.trans (hb5.mono HW9.out.size))
    have HLE : Hid (OwnM w5 0 v5 L) := Lib.hid (owns_lower ho5 (Nat.zero_le _))
    obtain ⟨gl, ol, capl, al, rfl, hl1, hl2, hl3, hl4⟩ := hm5.form
    unfold maxLen at hl2
    have HCL : Hid (∀ i o, L[i]? = some o → al = some ⟨gl, ol, none⟩ ∧ gl < w5.heap.size ∧ MAt w5 gl (ol + i * 8) o) := Lib.hid (fun i o ho => by
      obtain ⟨h, he⟩ := List.getElem?_eq_some_iff.1 ho
      exact ⟨(hl4 i h).1, (hl3 (by rintro rfl; simp at h)).2, he ▸ (hl4 i h).2⟩)
    clear z0 z1 z2 z3 z4 z5 z6 z7 hb5 ho5 hm5 hl3 hl4 HX9 HP9 HW9 HLI
    have x0 : w5.cell? ⟨bx, 0, none⟩ = some (.int .i64 m.kind) := HX5.out.c0 0 _ rfl
    have hxl5 := HX5.out.lt
    cases hmb : movesB m with
    | false =>
      have h4 : ¬ m.kind = 4 := fun e => by rw [(moves_iff m).2 (.inl e)] at hmb; cases hmb
      have h5 : ¬ m.kind = 5 := fun e => by rw [(moves_iff m).2 (.inr e)] at hmb; cases hmb
      have e4 : (m.kind != 4) = true := by simpa using h4
      have e5 : (m.kind != 5) = true := by simpa using h5
      have e4' : (m.kind == 4) = false := by simpa using h4
      have e5' : (m.kind == 5) = false := by simpa using h5
      have hL1 : L.length = 1 := by rw [HOT.out hmb]; rfl
      clear h4 h5 hmb HK0 HKK HKE HN4 HN5 HOT HCL HLE
      generalize m.kind = kd at *
      generalize L.length = n at *
      subst hL1
      go_wp2
      go_ret
      exact ⟨by first | rfl | simp, HW5.out⟩
    | true =>
      have hkd := (moves_iff m).1 hmb
      have HC0 := Lib.hid (HCL.out 0 _ (HK0.out hmb))
      have HCK : Hid (∀ k (h : k < src.length), al = some ⟨gl, ol, none⟩ ∧ gl < w5.heap.size ∧ MAt w5 gl (ol + (k + 1) * 8) (putM m src[k])) := Lib.hid (fun k h => HCL.out (k + 1) _ (HKK.out hmb k h))
      have HCE : Hid (m.kind = 4 → al = some ⟨gl, ol, none⟩ ∧ gl < w5.heap.size ∧ MAt w5 gl (ol + (src.length + 1) * 8) (dropM m.src)) := Lib.hid (fun hk => HCL.out _ _ (HKE.out hk))
      have hLn : Hid ((m.kind = 4 ∧ L.length = src.length + 2) ∨ (m.kind = 5 ∧ L.length = src.length + 1)) := Lib.hid (hkd.elim (fun h => .inl ⟨h, HN4.out h⟩) (fun h => .inr ⟨h, HN5.out h⟩))
      clear HK0 HKK HKE HN4 HN5 HOT HCL HLE hkd hmb
      obtain ⟨ras, hgl0, hma0⟩ := HC0.out
      subst ras
      have HCQ : Hid (∀ k (h : k < src.length), MAt w5 gl (ol + (k + 1) * 8) (putM m src[k])) := Lib.hid (fun k h => (HCK.out k h).2.2)
      have HCF : Hid (m.kind = 4 → MAt w5 gl (ol + (src.length + 1) * 8) (dropM m.src)) := Lib.hid (fun hk => (HCE.out hk).2.2)
      have HMA0 : Hid (∀ wx, Below w5.heap.size w5 wx → wx.cell? ⟨gl, ol, none⟩ = some (.int .i64 3)) := Lib.hid (fun wx hx => by
        have h := (hma0.below hx hgl0).1
        rw [Nat.zero_mul, Nat.add_zero] at h; exact h)
      clear hma0 HC0 HCK HCE
      generalize L.length = n at *
      -- how many more
      obtain ⟨d, hdn, hdk⟩ : ∃ d : Nat, n = src.length + d ∧ ((m.kind = 4 ∧ d = 2) ∨ (m.kind = 5 ∧ d = 1)) := by
        rcases hLn.out with ⟨h1, h2⟩ | ⟨h1, h2⟩
        · exact ⟨2, h2, .inl ⟨h1, rfl⟩⟩
        · exact ⟨1, h2, .inr ⟨h1, rfl⟩⟩
      have HDN := Lib.hid hdn
      have hneb : ((n : Int) != (src.length : Int) + (d : Int)) = false := by rw [hdn]; simp
      have hne : ¬ ((n : Int) ≠ (src.length : Int) + (d : Int)) := by rw [hdn]; simp
      have hwr : IntKind.i64.wrap ((src.length : Int) + (d : Int)) = (src.length : Int) + (d : Int) := IntWalk.i64_in _ (by omega)
      clear hLn hdn
      obtain ⟨wq, rfl⟩ : ∃ wq, wq = w5 := ⟨w5, rfl⟩
      go_upto_region 5 with fail
      go_cut [29] (fun s29 wx => s29 = .bool false ∧ Hid (wx = wq))
      case first =>
        rcases hdk with ⟨hk, hd⟩ | ⟨hk, hd⟩
        all_goals
          rw [hk] at x0
          clear hk hd hneb hne hwr
          go_wp2_with fail
          go_meet
          exact ⟨rfl, Lib.hid rfl⟩
      case rest =>
        obtain ⟨rfl, hww⟩ := hcut
        obtain rfl := hww.out
        clear hww
        obtain ⟨wq, rfl⟩ : ∃ wq, wq = wc := ⟨wc, rfl⟩
        go_upto_region 8 with fail
        go_cut [38] (fun s38 wx => s38 = .bool (decide (d = 2)) ∧ Hid (wx = wq))
        case first =>
          rcases hdk with ⟨hk, rfl⟩ | ⟨hk, rfl⟩
          all_goals
            rw [hk] at x0
            clear hk hneb hne hwr
            go_wp2_with fail
            go_meet
            exact ⟨by simp, Lib.hid rfl⟩
        case rest =>
          obtain ⟨rfl, hww⟩ := hcut
          obtain rfl := hww.out
          clear hww
          obtain ⟨wq, rfl⟩ : ∃ wq, wq = wc := ⟨wc, rfl⟩
          have hd2 : (d = 2 ∧ m.kind = 4) ∨ (d = 1 ∧ m.kind = 5) := hdk.elim (fun h => .inl ⟨h.2, h.1⟩) (fun h => .inr ⟨h.2, h.1⟩)
          have HD2 := Lib.hid hd2
          clear hdk hd2 x0
          go_upto_if 38 with fail
          go_cut [9] (fun s9 wx => s9 = .int .i64 (d : Nat) ∧ Hid (wx = wq))
          case first =>
            rcases HD2.out with ⟨rfl, hk⟩ | ⟨rfl, hk⟩
            · clear hk hneb hne hwr
              go_wp2_with fail
              go_meet
              exact ⟨rfl, Lib.hid rfl⟩
            · clear hk hneb hne hwr
              go_wp2_with fail
              go_meet
              exact ⟨rfl, Lib.hid rfl⟩
          case rest =>
            obtain ⟨rfl, hww⟩ := hcut
            obtain rfl := hww.out
            clear hww
            obtain ⟨wq, rfl⟩ : ∃ wq, wq = wc := ⟨wc, rfl⟩
            go_wp2
            go_loopw [10] (fun i wr => ∃ k : Nat, k ≤ src.length ∧ i = .int .i64 k ∧ Below wq.heap.size wq wr) (fun i _ => src.length - (intOf i).toNat)
            case atStart => exact ⟨0, Nat.zero_le _, rfl, Below.refl _ _⟩
            case round =>
              obtain ⟨k, hk, rfl, hbel⟩ := hrel
              have Hbel := Lib.hid hbel
              have hbs := hbel.size
              by_cases hlt : k < src.length
              · have hltz : (k : Int) < (src.length : Int) := by omega
                obtain ⟨b, off, cap, hv, hbl, q0, q1, q2⟩ := pairs_cells (HP5.out.below hbel) k hlt
                injection hv with hv1 hv2 hv3
                subst hv1 hv3
                clear hv2
                have hma := (HCQ.out k hlt).below hbel hgl0
                have hgr : gl < wr.heap.size := Nat.lt_of_lt_of_le hgl0 hbs
                have hbr : bx < wr.heap.size := Nat.lt_of_lt_of_le hxl5 hbs
                have hx4 : wr.cell? ⟨bx, 5, none⟩ = some (.string (Str m.src)) := (HX5.out.below hbel hxl5).c0 5 _ rfl
                have hx5 : wr.cell? ⟨bx, 6, none⟩ = some (.string (Str m.dst)) := (HX5.out.below hbel hxl5).c0 6 _ rfl
                obtain ⟨hs1, hs2⟩ := HSP.out src[k] (List.getElem_mem hlt)
                have hdl := HDL.out
                obtain ⟨j, hj⟩ : ∃ j, j = k + 1 := ⟨_, rfl⟩
                rw [← hj] at hma
                have hjz : (1 : Int) + (k : Int) = (j : Int) := by omega
                have hjn : (j : Int) < (n : Int) := by have := HDN.out; rcases HD2.out with ⟨h, _⟩ | ⟨h, _⟩ <;> omega
                have hjw : IntKind.i64.wrap (j : Int) = (j : Int) := IntWalk.i64_in _ (by omega)
                unfold putM keyT at hma
                generalize src[k] = x at *
                obtain ⟨x1, x2, x3⟩ := x
                dsimp only at hma hs1 hs2 q0 q1 q2
                obtain ⟨c0, c1, c2, c3, c4, c5, c6, c7⟩ := hma
                dsimp only at c0 c1 c2 c3 c4 c5 c6 c7
                clear hbel hneb hne hwr hj
                go_upto_region 16 with fail
                obtain ⟨wb, hwb⟩ : ∃ wb, wb = wr.alloc (.cells #[.int .i64 1, .string (Str (m.dst ++ List.drop m.src.length x1)), .string (Str x2), .string (Str []), .string (Str []), .string (Str []), .string (Str []), .int .i64 x3] 40) := ⟨_, rfl⟩
                have HBB : Hid (Blk wb wr.heap.size 40 #[.int .i64 1, .string (Str (m.dst ++ List.drop m.src.length x1)), .string (Str x2), .string (Str []), .string (Str []), .string (Str []), .string (Str []), .int .i64 x3]) := Lib.hid (by rw [hwb]; exact Blk.new _ _ _)
                have HWB : Hid (Below wq.heap.size wq wb) := Lib.hid (Hbel.out.trans (by rw [hwb]; exact (below_box _).mono hbs))
                have hwl : Below wr.heap.size wr wb := by rw [hwb]; exact below_box _
                rw [← hwb]
                have p0 := fun n => (show (wb.drewN n).cell? ⟨wr.heap.size, 0, none⟩ = some (.int .i64 1) from HBB.out.c0 0 _ rfl)
                have p1 := fun n => (show (wb.drewN n).cell? ⟨wr.heap.size, 1, none⟩ = some (.string (Str (m.dst ++ List.drop m.src.length x1))) from HBB.out.c0 1 _ rfl)
                have p2 := fun n => (show (wb.drewN n).cell? ⟨wr.heap.size, 2, none⟩ = some (.string (Str x2)) from HBB.out.c0 2 _ rfl)
                have p7 := fun n => (show (wb.drewN n).cell? ⟨wr.heap.size, 7, none⟩ = some (.int .i64 x3) from HBB.out.c0 7 _ rfl)
                have y4 := fun n => (show (wb.drewN n).cell? ⟨bx, 5, none⟩ = some (.string (Str m.src)) from (hwl.cell (p := ⟨bx, 5, none⟩) hbr).trans hx4)
                have y5 := fun n => (show (wb.drewN n).cell? ⟨bx, 6, none⟩ = some (.string (Str m.dst)) from (hwl.cell (p := ⟨bx, 6, none⟩) hbr).trans hx5)
                have z0 := fun n => (show (wb.drewN n).cell? ⟨b, off + k * 3, none⟩ = some (.string (Str x1)) from (hwl.cell (p := ⟨b, off + k * 3, none⟩) hbl).trans q0)
                have z1 := fun n => (show (wb.drewN n).cell? ⟨b, off + k * 3 + 1, none⟩ = some (.string (Str x2)) from (hwl.cell (p := ⟨b, off + k * 3 + 1, none⟩) hbl).trans q1)
                have z2 := fun n => (show (wb.drewN n).cell? ⟨b, off + k * 3 + 2, none⟩ = some (.int .i64 x3) from (hwl.cell (p := ⟨b, off + k * 3 + 2, none⟩) hbl).trans q2)
                have hlz : ((m.src.length : Nat) : Int) ≤ ((x1.length : Nat) : Int) := by omega
                have hbig : ¬ (9223372036854775807 < m.dst.length + (List.drop m.src.length x1).length) := by rw [List.length_drop]; omega
                have hbig2 : ¬ (9223372036854775807 < m.dst.length + (x1.length - m.src.length)) := by omega
                clear hbig
                have hsa := Str_add m.dst (List.drop m.src.length x1)
                clear c0 c1 c2 c3 c4 c5 c6 c7 q0 q1 q2 hx4 hx5 hwb hwl hbr hgr hbl
                generalize wr.heap.size = bw at *
                go_quiet (fail)
                clear p0 p1 p2 p7 y4 y5 z0 z1 z2 hsa hbig2 hlz hs1 hs2 hdl
                have HWD : Hid (Below wq.heap.size wq (wb.drewN nq)) := Lib.hid (below_drewC' HWB.out nq)
                clear hjz hjn hjw
                go_wp2
                go_roundw
                case rel => exact ⟨k + 1, by omega, by go_num, HWD.out⟩
                case measure => simp [intOf]; omega
              · obtain rfl : k = src.length := by omega
                have HF := Lib.hid (HW5.out.trans (hbel.mono HW5.out.size))
                have c0 := HMA0.out wr hbel
                have hn0 : (0 : Int) < (n : Int) := by have := HDN.out; rcases HD2.out with ⟨h, _⟩ | ⟨h, _⟩ <;> omega
                rcases HD2.out with ⟨rfl, hk4⟩ | ⟨rfl, hk5⟩
                · obtain ⟨e, he⟩ : ∃ e, e = src.length + 1 := ⟨_, rfl⟩
                  have hma := HCF.out hk4
                  rw [← he] at hma
                  have d0 : wr.cell? ⟨gl, ol + e * 8, none⟩ = some (.int .i64 3) := (hma.below hbel hgl0).1
                  have hnz : (n : Int) - 1 = (e : Int) := by have := HDN.out; omega
                  have hen : (e : Int) < (n : Int) := by omega
                  have hew : IntKind.i64.wrap (e : Int) = (e : Int) := IntWalk.i64_in _ (by omega)
                  clear hbel hk4 he hma hneb hne hwr
                  go_wp2
                  go_ret
                  exact ⟨by first | rfl | simp, HF.out⟩
                · clear hbel hk5 hneb hne hwr
                  go_wp2
                  go_ret
                  exact ⟨by first | rfl | simp, HF.out⟩

end Go.Proofs.YtfpcaoacbjhkgaaGreat
