/-
  The walk of the law TraceNeeds.
-/
import Derived.Test.YthncnijkgkeohaaGreatIO
import Derived.Test.YthncnijkgkeohaaGreatIK
namespace Go.Proofs.YthncnijkgkeohaaGreat
open Go.RowKit Go.Sort
set_option linter.unusedVariables false

/-- Two tables and two bytes of a law, in its memory. -/
structure D2 (w : World) (l0 l1 : Value) (b c : Nat) (wx : World) : Prop where
  l : Blk wx w.heap.size 53 #[l0, l1]
  b : Blk wx (w.heap.size + 1) 31 #[.int .u8 b, .int .u8 c]
  g : Below w.heap.size w wx
theorem D2.below {w wx wy : World} {l0 l1 : Value} {b c : Nat} (h : D2 w l0 l1 b c wx) (hb : Below wx.heap.size wx wy) : D2 w l0 l1 b c wy := ⟨h.l.below hb h.l.lt, h.b.below hb h.b.lt, h.g.trans (hb.mono h.g.size)⟩
theorem D2.drew {w wx : World} {l0 l1 : Value} {b c : Nat} (h : D2 w l0 l1 b c wx) : D2 w l0 l1 b c wx.drew := ⟨h.l, h.b, h.g.drew⟩

/-- A span, in its own block. -/
structure EN (wr : World) (n : Nat) (t1 t2 : Bs) (wx : World) : Prop where
  b : Blk wx n 29 #[.string (Str t1), .string (Str t2)]
  g : Below wr.heap.size wr wx
theorem EN.below {wr wx wy : World} {n : Nat} {t1 t2 : Bs} (h : EN wr n t1 t2 wx) (hb : Below wx.heap.size wx wy) : EN wr n t1 t2 wy := ⟨h.b.below hb h.b.lt, h.g.trans (hb.mono h.g.size)⟩
theorem EN.drew {wr wx : World} {n : Nat} {t1 t2 : Bs} (h : EN wr n t1 t2 wx) : EN wr n t1 t2 wx.drew := ⟨h.b, h.g.drew⟩
/-- One span of a list, where it lies. -/
structure EL (wr : World) (g o : Nat) (t1 t2 : Bs) (wx : World) : Prop where
  lt : g < wx.heap.size
  c0 : wx.cell? ⟨g, o, none⟩ = some (.string (Str t1))
  c1 : wx.cell? ⟨g, o + 1, none⟩ = some (.string (Str t2))
  g : Below wr.heap.size wr wx
theorem EL.below {wr wx wy : World} {g o : Nat} {t1 t2 : Bs} (h : EL wr g o t1 t2 wx) (hb : Below wx.heap.size wx wy) : EL wr g o t1 t2 wy :=
  ⟨Nat.lt_of_lt_of_le h.lt hb.size, (hb.cell (p := ⟨g, o, none⟩) (by exact h.lt)).trans h.c0, (hb.cell (p := ⟨g, o + 1, none⟩) (by exact h.lt)).trans h.c1, h.g.trans (hb.mono h.g.size)⟩
theorem EL.drew {wr wx : World} {g o : Nat} {t1 t2 : Bs} (h : EL wr g o t1 t2 wx) : EL wr g o t1 t2 wx.drew := ⟨h.lt, h.c0, h.c1, h.g.drew⟩

set_option maxRecDepth 100000 in
set_option maxHeartbeats 4000000 in
theorem traceNeeds_walk (w : World) (v0 : Value) (x0 : (Value × List Rw) × (Value × List Rw)) (h0 : v0 = .agg #[x0.1.1, x0.2.1] ∧ T4.IsRaws w x0.1.1 x0.1.2 ∧ T4.IsRaws w x0.2.1 x0.2.2) (v1 : Value) (x1 : List R6) (h1 : IsR6s w v1 x1) (v2 : Value) (x2 : Nat × Nat) (h2 : v2 = .agg #[.int .u8 x2.1, .int .u8 x2.2] ∧ x2.1 < 256 ∧ x2.2 < 256) :
    Calls Tryz.prog 5 #[v0, v1, v2] w fun e w' => e = .returned (.bool true) ∧ Below w.heap.size w w' := by
  obtain ⟨rfl, hr0, hr1⟩ := h0
  obtain ⟨⟨l0, r0⟩, ⟨l1, r1⟩⟩ := x0
  dsimp only at hr0 hr1 ⊢
  obtain ⟨rfl, hb, hc⟩ := h2
  obtain ⟨b, c⟩ := x2
  dsimp only at hb hc ⊢
  have HR0 := Lib.hid hr0
  have HR1 := Lib.hid hr1
  have H1 := Lib.hid h1
  clear hr0 hr1 h1
  obtain ⟨X, eX⟩ : ∃ r, r = T4.madeS r0 := ⟨_, rfl⟩
  obtain ⟨Y0, eY⟩ : ∃ r, r = T4.madeS r1 := ⟨_, rfl⟩
  obtain ⟨ms, ems⟩ : ∃ r, r = listS x1 10 := ⟨_, rfl⟩
  have hX : Srt X := by rw [eX]; exact T4.srt_made _
  have hY : Srt Y0 := by rw [eY]; exact T4.srt_made _
  have hXl : X.length ≤ 40 := by rw [eX]; exact T4.made_len _
  have hYl : Y0.length ≤ 40 := by rw [eY]; exact T4.made_len _
  have hXk : ∀ x ∈ X, x.1.length ≤ 100 := fun x hx => Nat.le_trans (T4.made_small x (by rw [← eX]; exact hx)).1 (by omega)
  have hYk : ∀ x ∈ Y0, x.1.length ≤ 100 := fun x hx => Nat.le_trans (T4.made_small x (by rw [← eY]; exact hx)).1 (by omega)
  have hall : ∀ m ∈ ms, Ok m ∧ Few m := by rw [ems]; exact listS_all _ _
  have hml : ms.length ≤ 10 := by rw [ems]; exact listS_len _ _
  have HALL := Lib.hid (fun m hm => (hall m hm).1)
  have HSX := Lib.hid hX
  have HSY := Lib.hid hY
  have HOX := Lib.hid (okAll_many ms hX (by omega) hXk (fun m hm => (hall m hm).2) (by omega))
  have HOY : Hid (∀ R i, OkAll ms (mixY X Y0 R i)) := Lib.hid (fun R i => okAll_many ms (srt_mix hX hY R i) (mix_len hX hY hXl hYl R i) (fun x hx => (mem_mix hX R i x hx).elim (hXk x) (hYk x)) (fun m hm => (hall m hm).2) (by omega))
  have HML := Lib.hid (fun R i => mix_len hX hY hXl hYl R i)
  have EX := Lib.hid eX
  have EY := Lib.hid eY
  have Ems := Lib.hid ems
  clear hall ems eX eY hX hY hXk hYk
  go_enter Tryz.func5, Tryz.ntmps5
  go_wp2_with fail
  refine (sanity_w _).mono ?_
  rintro e0 w0 ⟨rfl, hb0⟩
  have HS0 : Hid (D2 w l0 l1 b c w0) := Lib.hid ⟨(show Blk ((w.alloc (.cells #[l0, l1] 53)).alloc (.cells #[.int .u8 b, .int .u8 c] 31)) w.heap.size 53 #[l0, l1] from (Blk.new _ _ _).alloc _).below hb0 (by simp; omega), (show Blk ((w.alloc (.cells #[l0, l1] 53)).alloc (.cells #[.int .u8 b, .int .u8 c] 31)) (w.heap.size + 1) 31 #[.int .u8 b, .int .u8 c] from Blk.new' _ _ _ (by simp)).below hb0 (by simp), (((below_box (.cells #[l0, l1] 53)).trans ((below_box (.cells #[.int .u8 b, .int .u8 c] 31)).mono (by simp))).trans (hb0.mono (by simp; omega)))⟩
  clear hb0
  have HMX : Hid (∀ wx, D2 w l0 l1 b c wx → Calls Tryz.prog 21 #[l0] wx fun e w' => ∃ p c, e = .returned (.slice p X.length c) ∧ IsPairs w' (.slice p X.length c) X ∧ Below wx.heap.size wx w') := Lib.hid (fun wx h => by
    rw [EX.out]
    refine (T4.made_w l0 r0 wx (HR0.out.below h.g)).mono ?_
    rintro e1 w1 ⟨v1, he, -, hp, hb1⟩
    obtain ⟨p, c, rfl, -⟩ := id hp
    exact ⟨p, c, he, hp, hb1⟩)
  have HMY : Hid (∀ wx, D2 w l0 l1 b c wx → Calls Tryz.prog 21 #[l1] wx fun e w' => ∃ p c, e = .returned (.slice p Y0.length c) ∧ IsPairs w' (.slice p Y0.length c) Y0 ∧ Below wx.heap.size wx w') := Lib.hid (fun wx h => by
    rw [EY.out]
    refine (T4.made_w l1 r1 wx (HR1.out.below h.g)).mono ?_
    rintro e1 w1 ⟨v1, he, -, hp, hb1⟩
    obtain ⟨p, c, rfl, -⟩ := id hp
    exact ⟨p, c, he, hp, hb1⟩)
  have HL : Hid (∀ wx, D2 w l0 l1 b c wx → Calls Tryz.prog 10 #[v1, .int .i64 10] wx fun e w' => ∃ p c, e = .returned (.slice p ms.length c) ∧ IsMsgs w' (.slice p ms.length c) ms ∧ Below wx.heap.size wx w') := Lib.hid (fun wx h => by
    have hl := list_w v1 x1 10 wx (H1.out.below h.g) (by omega)
    rw [← Ems.out] at hl
    refine hl.mono ?_
    rintro e1 w1 ⟨v1, rfl, ho1, hb1⟩
    have hm1 := ho1.msgs
    obtain ⟨p1, c1, rfl, -⟩ := id hm1
    exact ⟨p1, c1, rfl, hm1, hb1⟩)
  go_upto_region 2 with fail
  go_cut [8, 9, 10] (fun s8 s9 s10 wx => ∃ p c' q d' r e', s8 = .slice p X.length c' ∧ s9 = .slice q Y0.length d' ∧ s10 = .slice r ms.length e' ∧ Hid (D2 w l0 l1 b c wx) ∧ Hid (IsPairs wx (.slice p X.length c') X) ∧ Hid (IsPairs wx (.slice q Y0.length d') Y0) ∧ Hid (IsMsgs wx (.slice r ms.length e') ms))
  case first =>
    have q0 : ∀ wr, D2 w l0 l1 b c wr → wr.cell? ⟨w.heap.size, 0, none⟩ = some l0 := fun wr h => h.l.c0 0 _ rfl
    have q1 : ∀ wr, D2 w l0 l1 b c wr → wr.cell? ⟨w.heap.size, 1, none⟩ = some l1 := fun wr h => h.l.c0 1 _ rfl
    have hl0 := HS0.out.b.lt
    go_region_held3 (fun wr => D2 w l0 l1 b c wr)
      (first | with_reducible assumption | exact HS0.out.drew | exact D2.below (by with_reducible assumption) (by with_reducible assumption))
      (first
        | (go_at_call 21; (with_reducible refine (HMX.out _ (by first | with_reducible assumption | exact HS0.out.drew)).mono ?_); rintro e w2 ⟨p2, c2, rfl, hm2, hb2⟩; have hs2 : D2 w l0 l1 b c w2 := D2.below (by first | with_reducible assumption | exact HS0.out.drew) hb2)
        | (go_at_call 21; (with_reducible refine (HMY.out _ (by with_reducible assumption)).mono ?_); rintro e w3 ⟨p3, c3, rfl, hn3, hb3⟩; have hs3 : D2 w l0 l1 b c w3 := D2.below (by with_reducible assumption) hb3; have hm3 := IsPairs.below hm2 hb3)
        | (go_at_call 10; (with_reducible refine (HL.out _ (by with_reducible assumption)).mono ?_); rintro e w4 ⟨p4, c4, rfl, ho4, hb4⟩; have hs4 : D2 w l0 l1 b c w4 := D2.below (by with_reducible assumption) hb4; have hm4 := IsPairs.below hm3 hb4; have hn4 := IsPairs.below hn3 hb4))
    all_goals
      clear q0 q1
      go_wp2_with fail
      go_meet
      exact ⟨p2, c2, p3, c3, p4, c4, rfl, rfl, rfl, Lib.hid hs4, Lib.hid hm4, Lib.hid hn4, Lib.hid ho4⟩
  case rest =>
    obtain ⟨p2, c2, p3, c3, p4, c4, rfl, rfl, rfl, HA, HX, HY, HM⟩ := hcut
    clear HMX HMY HL HS0
    have hla := HA.out.b.lt
    have z0 := HA.out.b.c0 0 _ rfl
    have z1 := HA.out.b.c0 1 _ rfl
    have HSP := Lib.hid (fun wx => T4.span_w b c wx hb hc)
    obtain ⟨hs1, hs2⟩ := spanS_len b c
    generalize T4.spanS b c = sp at *
    obtain ⟨s1, s2⟩ := sp
    dsimp only at hs1 hs2
    go_wp2_with fail
    refine (HSP.out _).mono ?_
    rintro e9 w9 ⟨rfl, hb9⟩
    have hx9 := hb9.trans ((below_box (w := w9) (.cells #[.string (Str s1), .string (Str s2)] 29)).mono hb9.size)
    have HG9 := Lib.hid (HA.out.g.trans (hx9.mono HA.out.g.size))
    have HX9 := Lib.hid (HX.out.below hx9)
    have HY9 := Lib.hid (HY.out.below hx9)
    have HM9 := Lib.hid (HM.out.below hx9)
    have HN9 : Hid (Blk (w9.alloc (.cells #[.string (Str s1), .string (Str s2)] 29)) w9.heap.size 29 #[.string (Str s1), .string (Str s2)]) := Lib.hid (Blk.new _ _ _)
    clear hb9 hx9 z0 z1 hla HSP HA HX HY HM
    obtain ⟨R, eR⟩ : ∃ R, R = spansF (s1, s2) ms := ⟨_, rfl⟩
    have hRl := spans_len (s1, s2) ms
    have HNP := Lib.hid (needs_mix (s := (s1, s2)) (fun m hm => (HALL.out m hm).2) HSX.out HSY.out)
    rw [← eR] at hRl HNP
    have ER := Lib.hid eR
    clear eR
    have hRz : ¬ (400 : Int) < (R.length : Int) := by omega
    go_wp2_with fail
    refine (spans_any (s1, s2) (.slice p4 ms.length c4) ms _ HM9.out HALL.out (by omega) (by dsimp only; omega) (by dsimp only; omega)).mono ?_
    rintro e10 w10 ⟨v10, rfl, ho10, hb10⟩
    rw [← ER.out] at ho10
    have hm10 := IsSpans.owned ho10
    obtain ⟨g, off, cap, p10, rfl, hlc, hcm, hpp, hcc⟩ := hm10.form
    unfold maxLen at hcm
    have HPP := Lib.hid hpp
    have HCC := Lib.hid hcc
    have HG10 := Lib.hid (HG9.out.trans (hb10.mono HG9.out.size))
    have HX10 := Lib.hid (HX9.out.below hb10)
    have HY10 := Lib.hid (HY9.out.below hb10)
    have HM10 := Lib.hid (HM9.out.below hb10)
    have HN10 := Lib.hid (HN9.out.below hb10 HN9.out.lt)
    clear ho10 hm10 hb10 hpp hcc HG9 HX9 HY9 HM9 HN9
    go_wp2_with fail
    go_loopw [9, 13] (fun vs i wr => ∃ j : Nat, j ≤ R.length ∧ i = .int .i64 j ∧ Hid (IsPairs wr vs (mixY X Y0 R j)) ∧ Hid (Below w10.heap.size w10 wr)) (fun _ i _ => R.length - (intOf i).toNat)
    case atStart => exact ⟨0, Nat.zero_le _, rfl, HY10, Lib.hid (Below.refl _ _)⟩
    case round =>
      obtain ⟨j, hj, rfl, HO, HW⟩ := hrel
      by_cases hlt : j < R.length
      · obtain ⟨rfl, c0, c1⟩ := HCC.out j hlt
        have hgl := (HPP.out (by rintro rfl; simp at hlt)).2
        have hjz : (j : Int) < (R.length : Int) := by omega
        have Hsu := Lib.hid (mix_succ X Y0 R j hlt)
        have hlm := HML.out R j
        have HSM := Lib.hid (srt_mix HSX.out HSY.out R j)
        generalize R[j] = t at *
        obtain ⟨t1, t2⟩ := t
        dsimp only at c0 c1
        have HS1 : Hid (EL wr g (off + j * 2) t1 t2 wr) := Lib.hid ⟨Nat.lt_of_lt_of_le hgl HW.out.size, (HW.out.cell (p := ⟨g, off + j * 2, none⟩) (by exact hgl)).trans c0, (HW.out.cell (p := ⟨g, off + j * 2 + 1, none⟩) (by exact hgl)).trans c1, Below.refl _ _⟩
        clear c0 c1
        generalize mixY X Y0 R j = M at *
        have HD : Hid (∀ wx, EL wr g (off + j * 2) t1 t2 wx → Calls Tryz.prog 26 #[u9, .agg #[.string (Str t1), .string (Str t2)]] wx fun e w' => ∃ v', e = .returned v' ∧ IsPairs w' v' (dropS (t1, t2) M) ∧ Below wx.heap.size wx w') := Lib.hid (fun wx h => (T4.rdrop_w u9 M t1 t2 wx (HO.out.below h.g) (by omega)).mono fun e w' ⟨v', he, _, hp, hb⟩ => ⟨v', he, hp, hb⟩)
        have HRg : Hid (∀ wx, EL wr g (off + j * 2) t1 t2 wx → Calls Tryz.prog 27 #[.slice p2 X.length c2, .agg #[.string (Str t1), .string (Str t2)]] wx fun e w' => ∃ v', e = .returned v' ∧ IsPairs w' v' (rangeS (t1, t2) X) ∧ Below wx.heap.size wx w') := Lib.hid (fun wx h => (T4.rrange_w (.slice p2 X.length c2) X t1 t2 wx ((HX10.out.below HW.out).below h.g) (by omega)).mono fun e w' ⟨v', he, _, hp, hb⟩ => ⟨v', he, hp, hb⟩)
        have HU : Hid (∀ v u wx, IsPairs wx v (dropS (t1, t2) M) → IsPairs wx u (rangeS (t1, t2) X) → Calls Tryz.prog 25 #[v, u] wx fun e w' => ∃ v', e = .returned v' ∧ IsPairs w' v' (unionS (dropS (t1, t2) M) (rangeS (t1, t2) X)) ∧ Below wx.heap.size wx w') := Lib.hid (fun v u wx h1 h2 => (T4.runion_w v u _ _ wx h1 h2 (srt_drop _ HSM.out) (Nat.le_trans (List.length_filter_le _ _) (by omega)) (Nat.le_trans (List.length_filter_le _ _) (by omega))).mono fun e w' ⟨v', he, _, hp, hb⟩ => ⟨v', he, hp, hb⟩)
        go_upto_block 1 with fail
        go_cut [9] (fun s9 wx => Hid (IsPairs wx s9 (unionS (dropS (t1, t2) M) (rangeS (t1, t2) X))) ∧ Hid (Below wr.heap.size wr wx))
        case first =>
          have q0 : ∀ wx, EL wr g (off + j * 2) t1 t2 wx → wx.cell? ⟨g, off + j * 2, none⟩ = some (.string (Str t1)) := fun wx h => h.c0
          have q1 : ∀ wx, EL wr g (off + j * 2) t1 t2 wx → wx.cell? ⟨g, off + j * 2 + 1, none⟩ = some (.string (Str t2)) := fun wx h => h.c1
          go_upto_region 10 with fail
          go_region_held3 (fun wx => EL wr g (off + j * 2) t1 t2 wx)
            (first | with_reducible assumption | exact HS1.out.drew | exact EL.below (by with_reducible assumption) (by with_reducible assumption))
            (first
              | (go_at_call 26; (with_reducible refine (HD.out _ (by first | with_reducible assumption | exact HS1.out.drew)).mono ?_); rintro e w2 ⟨y2, rfl, hm2, hb2⟩; have hs2 : EL wr g (off + j * 2) t1 t2 w2 := EL.below (by first | with_reducible assumption | exact HS1.out.drew) hb2)
              | (go_at_call 27; (with_reducible refine (HRg.out _ (by with_reducible assumption)).mono ?_); rintro e w3 ⟨y3, rfl, hn3, hb3⟩; have hs3 : EL wr g (off + j * 2) t1 t2 w3 := EL.below (by with_reducible assumption) hb3; have hm3 := IsPairs.below hm2 hb3)
              | (go_at_call 25; (with_reducible refine (HU.out _ _ _ hm3 hn3).mono ?_); rintro e w4 ⟨y4, rfl, ho4, hb4⟩; have hs4 : EL wr g (off + j * 2) t1 t2 w4 := EL.below (by with_reducible assumption) hb4))
          all_goals
            clear q0 q1
            go_wp2_with fail
            go_meet
            exact ⟨Lib.hid ho4, Lib.hid hs4.g⟩
        case rest =>
          obtain ⟨HP5, HG5⟩ := hcut
          have HW5 := Lib.hid (HW.out.trans (HG5.out.mono HW.out.size))
          clear HS1 HD HRg HU HG5 HO HW
          go_wp2_with fail
          go_roundw
          case rel => exact ⟨j + 1, by omega, by go_num, Lib.hid (by rw [Hsu.out]; exact HP5.out), HW5⟩
          case measure => simp [intOf]; omega
      · obtain rfl : j = R.length := by omega
        have HNW := Lib.hid (HN10.out.below HW.out HN10.out.lt)
        have HS1 : Hid (EN wr w9.heap.size s1 s2 wr) := Lib.hid ⟨HNW.out, Below.refl _ _⟩
        have hox := okAll_end HOX.out
        have hoy := okAll_end (HOY.out R R.length)
        have HSM := Lib.hid (srt_mix HSX.out HSY.out R R.length)
        have HOM := Lib.hid (HOY.out R R.length)
        generalize mixY X Y0 R R.length = M at *
        have HAX : Hid (∀ wx, EN wr w9.heap.size s1 s2 wx → Calls Tryz.prog 22 #[.slice p2 X.length c2, .slice p4 ms.length c4] wx fun e w' => ∃ v', e = .returned v' ∧ IsPairs w' v' (allS ms X) ∧ Below wx.heap.size wx w') := Lib.hid (fun wx h => (all_w (.slice p2 X.length c2) (.slice p4 ms.length c4) X ms wx ((HX10.out.below HW.out).below h.g) ((HM10.out.below HW.out).below h.g) HSX.out (fun m hm => (HALL.out m hm).1) HOX.out).mono fun e w' ⟨v', he, _, hp, hb⟩ => ⟨v', he, hp, hb⟩)
        have HAM : Hid (∀ wx, EN wr w9.heap.size s1 s2 wx → Calls Tryz.prog 22 #[u9, .slice p4 ms.length c4] wx fun e w' => ∃ v', e = .returned v' ∧ IsPairs w' v' (allS ms M) ∧ Below wx.heap.size wx w') := Lib.hid (fun wx h => (all_w u9 (.slice p4 ms.length c4) M ms wx (HO.out.below h.g) ((HM10.out.below HW.out).below h.g) HSM.out (fun m hm => (HALL.out m hm).1) HOM.out).mono fun e w' ⟨v', he, _, hp, hb⟩ => ⟨v', he, hp, hb⟩)
        have HRX : Hid (∀ v wx, IsPairs wx v (allS ms X) → Calls Tryz.prog 27 #[v, .agg #[.string (Str s1), .string (Str s2)]] wx fun e w' => ∃ v', e = .returned v' ∧ IsPairs w' v' (rangeS (s1, s2) (allS ms X)) ∧ Below wx.heap.size wx w') := Lib.hid (fun v wx h => (T4.rrange_w v (allS ms X) s1 s2 wx h (by omega)).mono fun e w' ⟨v', he, _, hp, hb⟩ => ⟨v', he, hp, hb⟩)
        have HRM : Hid (∀ v wx, IsPairs wx v (allS ms M) → Calls Tryz.prog 27 #[v, .agg #[.string (Str s1), .string (Str s2)]] wx fun e w' => ∃ v', e = .returned v' ∧ IsPairs w' v' (rangeS (s1, s2) (allS ms M)) ∧ Below wx.heap.size wx w') := Lib.hid (fun v wx h => (T4.rrange_w v (allS ms M) s1 s2 wx h (by omega)).mono fun e w' ⟨v', he, _, hp, hb⟩ => ⟨v', he, hp, hb⟩)
        have HSA : Hid (∀ v u wx, IsPairs wx v (rangeS (s1, s2) (allS ms X)) → IsPairs wx u (rangeS (s1, s2) (allS ms M)) → Calls Tryz.prog 28 #[v, u] wx fun e w' => e = .returned (.bool true) ∧ Below wx.heap.size wx w') := Lib.hid (fun v u wx h1 h2 => (T4.same_w v u _ _ wx h1 h2).mono fun e w' ⟨h3, n, h4⟩ => ⟨by rw [h3, HNP.out]; simp, by rw [h4]; exact below_drewN wx n⟩)
        go_upto_region 11 with fail
        go_cut [6] (fun s6 wx => s6 = .bool true ∧ Hid (Below wr.heap.size wr wx))
        case first =>
          have q0 : ∀ wx, EN wr w9.heap.size s1 s2 wx → wx.cell? ⟨w9.heap.size, 0, none⟩ = some (.string (Str s1)) := fun wx h => h.b.c0 0 _ rfl
          have q1 : ∀ wx, EN wr w9.heap.size s1 s2 wx → wx.cell? ⟨w9.heap.size, 1, none⟩ = some (.string (Str s2)) := fun wx h => h.b.c0 1 _ rfl
          have hl0 := HS1.out.b.lt
          go_region_held3 (fun wx => EN wr w9.heap.size s1 s2 wx)
            (first | with_reducible assumption | exact HS1.out.drew | exact EN.below (by with_reducible assumption) (by with_reducible assumption))
            (first
              | (go_at_call 22; (with_reducible refine (HAX.out _ (by first | with_reducible assumption | exact HS1.out.drew)).mono ?_); rintro e w2 ⟨y2, rfl, hm2, hb2⟩; have hs2 : EN wr w9.heap.size s1 s2 w2 := EN.below (by first | with_reducible assumption | exact HS1.out.drew) hb2)
              | (go_at_call 27; (with_reducible refine (HRX.out _ _ hm2).mono ?_); rintro e w3 ⟨y3, rfl, hm3, hb3⟩; have hs3 : EN wr w9.heap.size s1 s2 w3 := EN.below (by with_reducible assumption) hb3)
              | (go_at_call 22; (with_reducible refine (HAM.out _ (by with_reducible assumption)).mono ?_); rintro e w4 ⟨y4, rfl, hn4, hb4⟩; have hs4 : EN wr w9.heap.size s1 s2 w4 := EN.below (by with_reducible assumption) hb4; have hm4 := IsPairs.below hm3 hb4)
              | (go_at_call 27; (with_reducible refine (HRM.out _ _ hn4).mono ?_); rintro e w5 ⟨y5, rfl, hn5, hb5⟩; have hs5 : EN wr w9.heap.size s1 s2 w5 := EN.below (by with_reducible assumption) hb5; have hm5 := IsPairs.below hm4 hb5)
              | (go_at_call 28; (with_reducible refine (HSA.out _ _ _ hm5 hn5).mono ?_); rintro e w6 ⟨rfl, hb6⟩; have hs6 : EN wr w9.heap.size s1 s2 w6 := EN.below (by with_reducible assumption) hb6))
          all_goals
            clear q0 q1
            go_wp2_with fail
            go_meet
            exact ⟨rfl, Lib.hid hs6.g⟩
        case rest =>
          obtain ⟨rfl, HG6⟩ := hcut
          have HE := Lib.hid (HG10.out.trans ((HW.out.trans (HG6.out.mono HW.out.size)).mono HG10.out.size))
          clear HS1 HAX HAM HRX HRM HSA HG6 HNW
          go_wp2_with fail
          go_ret
          exact ⟨rfl, HE.out⟩

end Go.Proofs.YthncnijkgkeohaaGreat
