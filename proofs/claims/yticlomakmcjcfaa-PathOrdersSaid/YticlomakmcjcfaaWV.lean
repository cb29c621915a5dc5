/-
  The walk of the law PathMoves.
-/
import Derived.Test.YticlomakmcjcfaaWR
import Derived.Test.YticlomakmcjcfaaWU
namespace Go.Proofs.Yticlomakmcjcfaa
open Go.RowKit Go.Sort
set_option linter.unusedVariables false
set_option maxRecDepth 100000

theorem placeR_behind {p : Bs} (hv : validB p = true) (hp : p ≠ []) (s : Bs) : placeR (p ++ s) = .tuple #[placeV (behV p s).1 (behV p s).2.1 (behV p s).2.2.1 (behV p s).2.2.2.1, .int .i64 (behV p s).2.2.2.2] := by
  unfold placeR
  rw [place_behind hv hp]
  unfold behV
  cases restPlace s <;> rfl

theorem pathP_len (l : Bs) : (pathP l).length ≤ l.length := by unfold pathP; exact List.length_take_le' _ _
/-- The boxes of the arguments. -/
structure P2 (w : World) (aa ya : Array Value) (wx : World) : Prop where
  a : Blk wx w.heap.size 56 aa
  y : Blk wx (w.heap.size + 1) 44 ya
  bel : Below w.heap.size w wx
theorem P2.below {w wx wy : World} {aa ya : Array Value} (h : P2 w aa ya wx) (hb : Below wx.heap.size wx wy) : P2 w aa ya wy :=
  ⟨h.a.below hb h.a.lt, h.y.below hb h.y.lt, Below.next h.bel (Nat.le_refl _) hb⟩

set_option maxHeartbeats 8000000 in
theorem pathMoves_walk (w : World) (v0 : Value) (l : (Value × Bs) × (Value × Bs)) (h0 : IsArr2 w v0 l) (v1 : Value) (y : RawD) (h1 : IsRaw w v1 y) (v2 : Value) (s : Bs) (h2 : IsStr w v2 s) :
    Calls Try.prog 7 #[v0, v1, v2] w fun e w' => e = .returned (.bool true) ∧ Below w.heap.size w w' := by
  obtain ⟨⟨va, la⟩, ⟨vb, lb⟩⟩ := l
  obtain ⟨rfl, ha, hb⟩ := h0
  obtain ⟨rfl, hy, hyt, hyn⟩ := h1
  obtain ⟨rfl, hs⟩ := h2
  simp only at ha hb
  unfold maxLen at hs
  obtain ⟨yv, yl, yt, yn⟩ := y
  simp only at hy hyt hyn
  have Hm1 := Lib.hid (fun wx (h : Below w.heap.size w wx) => made_w va la wx (ha.below h))
  have Hm2 := Lib.hid (fun wx (h : Below w.heap.size w wx) => made_w vb lb wx (hb.below h))
  have ht3 : yt % 3 < 256 := by omega
  have hm3 : (yt : Int) % 3 = ((yt % 3 : Nat) : Int) := by omega
  have hm4 : (yt : Int).tmod 3 = ((yt % 3 : Nat) : Int) := by rw [Int.tmod_eq_emod_of_nonneg (by omega)]; omega
  have Hm := Lib.hid (fun wx (h : Below w.heap.size w wx) => madePlace_w yv yl (yt % 3) yn wx (hy.below h) ht3 hyn)
  have hsy : ∃ A C, yv = .slice A yl.length C := by obtain ⟨A, C, h, _⟩ := hy.form; exact ⟨A, C, h⟩
  have hsa : ∃ A C, va = .slice A la.length C := by obtain ⟨A, C, h, _⟩ := ha.form; exact ⟨A, C, h⟩
  have hsb : ∃ A C, vb = .slice A lb.length C := by obtain ⟨A, C, h, _⟩ := hb.form; exact ⟨A, C, h⟩
  obtain ⟨A, C, rfl⟩ := hsy
  obtain ⟨A1, C1, rfl⟩ := hsa
  obtain ⟨A2, C2, rfl⟩ := hsb
  simp only [placeV] at Hm
  clear ha hb hy
  have hky : keyF (rawPath yl (yt % 3) yn) (1 + ((yt % 3 % 4 : Nat) : Int)) (rawN (yt % 3) yn) (rawM (yt % 3) yn) = (keyK (1 + ((yt % 3 % 4 : Nat) : Int)) (rawPath yl (yt % 3) yn) (rawN (yt % 3) yn) (rawM (yt % 3) yn), 0) := by
    unfold keyF; rw [if_pos ⟨raw_owns yl (yt % 3) yn hyn, raw_fits (yt % 3) yn⟩]
  have hlp := rawPath_le yl (yt % 3) yn
  have hlm := rawM_le (yt % 3) yn
  have hkl := keyK_le (1 + ((yt % 3 % 4 : Nat) : Int)) (rawPath yl (yt % 3) yn) (rawN (yt % 3) yn) (rawM (yt % 3) yn)
  generalize yt % 3 = t3 at *
  generalize keyK (1 + ((t3 % 4 : Nat) : Int)) (rawPath yl t3 yn) (rawN t3 yn) (rawM t3 yn) = kk at *
  generalize rawPath yl t3 yn = pY at *
  generalize (1 + ((t3 % 4 : Nat) : Int)) = tY at *
  generalize rawN t3 yn = nY at *
  generalize rawM t3 yn = mY at *
  have Hk5 := Lib.hid (fun wx => rkey_w tY nY pY mY wx (by omega) (by omega))
  rw [hky] at Hk5
  simp only at Hk5
  have hkk : kk.length ≤ 67 := by omega
  clear hky hlp hlm hkl
  have hpa := madeS_le la
  have hpb := madeS_le lb
  have hva := validB_made la
  have hvb := validB_made lb
  generalize madeS la = p at *
  generalize madeS lb = q at *
  have Hva := Lib.hid hva
  have Hvb := Lib.hid hvb
  clear hva hvb
  have HP0 : Hid (P2 w #[.slice A1 la.length C1, .slice A2 lb.length C2] #[.slice A yl.length C, .int .u8 yt, .int .u16 yn] ((w.alloc (.cells #[.slice A1 la.length C1, .slice A2 lb.length C2] 56)).alloc (.cells #[.slice A yl.length C, .int .u8 yt, .int .u16 yn] 44))) :=
    Lib.hid ⟨(Blk.new _ _ _).alloc _, Blk.new' _ _ _ (by simp), ((Below.refl _ _).alloc (Nat.le_refl _) _).alloc (by simp) _⟩
  by_cases hlen : 300 < (s.length : Int)
  · clear Hm Hm1 Hm2
    go_enter Try.func7, Try.ntmps7
    go_wp2_with (go_at_call 14; refine (sanity_w _).mono ?_; rintro e w1 ⟨rfl, hb⟩; have HP1 := Lib.hid (HP0.out.below hb); clear hb)
    go_ret
    exact ⟨rfl, HP1.out.bel⟩
  · go_enter Try.func7, Try.ntmps7
    go_upto_region 4 with (go_at_call 14; refine (sanity_w _).mono ?_; rintro e w1 ⟨rfl, hb⟩; have HP1 := Lib.hid (HP0.out.below hb); clear hb)
    go_cut [8, 9] (fun s8 s9 wx => s8 = .string (Str p) ∧ s9 = .string (Str q) ∧ P2 w #[.slice A1 la.length C1, .slice A2 lb.length C2] #[.slice A yl.length C, .int .u8 yt, .int .u16 yn] wx)
    case first =>
      have HL0 : Hid (Below w1.heap.size w1 w1) := Lib.hid (Below.refl _ _)
      have ha0 : ∀ wx, Below w1.heap.size w1 wx → wx.cell? ⟨w.heap.size, 0, none⟩ = some (.slice A1 la.length C1) := fun wx hx => (HP1.out.below hx).a.cell 0
      have ha1 : ∀ wx, Below w1.heap.size w1 wx → wx.cell? ⟨w.heap.size, 1, none⟩ = some (.slice A2 lb.length C2) := fun wx hx => (HP1.out.below hx).a.cell 1
      have G1 : Hid (∀ wx, Below w1.heap.size w1 wx → Calls Try.prog 15 #[.slice A1 la.length C1] wx fun e w' => e = .returned (.string (Str p)) ∧ Below w1.heap.size w1 w') := Lib.hid (fun wx hx => (Hm1.out wx (HP1.out.below hx).bel).mono fun e w' ⟨h1, h2⟩ => ⟨h1, keepB hx h2⟩)
      have G2 : Hid (∀ wx, Below w1.heap.size w1 wx → Calls Try.prog 15 #[.slice A2 lb.length C2] wx fun e w' => e = .returned (.string (Str q)) ∧ Below w1.heap.size w1 w') := Lib.hid (fun wx hx => (Hm2.out wx (HP1.out.below hx).bel).mono fun e w' ⟨h1, h2⟩ => ⟨h1, keepB hx h2⟩)
      clear Hm1 Hm2 Hm
      go_region_held3 (fun wx => Below w1.heap.size w1 wx)
        (repeat (first | with_reducible assumption | with_reducible exact HL0.out | with_reducible refine Below.drew ?_ | with_reducible refine keepA ?_ _))
        (first
          | (go_at_call_of 15 (Value.slice A1 la.length C1); (with_reducible refine (G1.out _ (by repeat (first | with_reducible assumption | with_reducible exact HL0.out | with_reducible refine Below.drew ?_ | with_reducible refine keepA ?_ _))).mono ?_); rintro e2 y2 ⟨rfl, hS2⟩)
          | (go_at_call_of 15 (Value.slice A2 lb.length C2); (with_reducible refine (G2.out _ (by repeat (first | with_reducible assumption | with_reducible exact HL0.out | with_reducible refine Below.drew ?_ | with_reducible refine keepA ?_ _))).mono ?_); rintro e3 y3 ⟨rfl, hS3⟩)
          | fail "no arm")
      all_goals (go_wp2_with fail; go_meet)
      all_goals exact ⟨rfl, rfl, HP1.out.below (by assumption)⟩
    case rest =>
      obtain ⟨rfl, rfl, hP⟩ := hcut
      have HP2 := Lib.hid hP
      clear hP HP1 HP0 Hm1 Hm2
      by_cases hp : p = []
      · subst hp
        go_wp2
        go_ret
        exact ⟨rfl, HP2.out.bel⟩
      · by_cases hq : q = []
        · subst hq
          have dp : (p == []) = false := by simpa using hp
          clear hp
          go_wp2
          go_ret
          exact ⟨rfl, HP2.out.bel⟩
        · have dp : (p == []) = false := by simpa using hp
          have dq : (q == []) = false := by simpa using hq
          have c0 : wc.cell? ⟨w.heap.size + 1, 0, none⟩ = some (.slice A yl.length C) := HP2.out.y.cell 0
          have c1 : wc.cell? ⟨w.heap.size + 1, 1, none⟩ = some (.int .u8 yt) := HP2.out.y.cell 1
          have c2 : wc.cell? ⟨w.heap.size + 1, 2, none⟩ = some (.int .u16 yn) := HP2.out.y.cell 2
          have HPp := Lib.hid hp
          have HQq := Lib.hid hq
          clear hp hq
          go_wp2_with (first
            | (go_at_call 30; refine (Hm.out _ HP2.out.bel).mono ?_; rintro e wy ⟨rfl, hb⟩; have HE1 := Lib.hid (Below.next HP2.out.bel (Nat.le_refl _) hb); clear hb)
            | (go_at_call 32; refine (Hk5.out _).mono ?_; rintro e wz ⟨rfl, hb⟩; have HE2 := Lib.hid (Below.next HE1.out (Nat.le_refl _) hb); clear hb))
          have H9 : Hid (Blk (wz.alloc (.cells #[.string (Str s), .string (Str kk), .string (Str (s ++ kk))] 50)) wz.heap.size 50 #[.string (Str s), .string (Str kk), .string (Str (s ++ kk))] ∧ Below w.heap.size w (wz.alloc (.cells #[.string (Str s), .string (Str kk), .string (Str (s ++ kk))] 50))) := Lib.hid ⟨Blk.new _ _ _, HE2.out.alloc HE2.out.size _⟩
          clear Hm Hk5 HE1 HE2 HP2
          go_loopw [13] (fun i wr => ∃ j : Nat, j ≤ 3 ∧ i = .int .i64 j ∧ Blk wr wz.heap.size 50 #[.string (Str s), .string (Str kk), .string (Str (s ++ kk))] ∧ Below w.heap.size w wr) (fun i _ => 3 - (intOf i).toNat)
          case atStart => exact ⟨0, by omega, rfl, H9.out⟩
          case round =>
            obtain ⟨j, hj, rfl, hB, hbel⟩ := hrel
            by_cases hlt3 : j < 3
            · have hx : ∃ x : Bs, x.length ≤ 367 ∧ ∀ wx, Blk wx wz.heap.size 50 #[.string (Str s), .string (Str kk), .string (Str (s ++ kk))] → wx.cell? ⟨wz.heap.size, j, none⟩ = some (.string (Str x)) := by
                rcases (by omega : j = 0 ∨ j = 1 ∨ j = 2) with rfl | rfl | rfl
                · exact ⟨s, by omega, fun wx h => h.cell 0⟩
                · exact ⟨kk, by omega, fun wx h => h.cell 1⟩
                · exact ⟨s ++ kk, by simp; omega, fun wx h => h.cell 2⟩
              obtain ⟨x, hxl, hx⟩ := hx
              have Hx := Lib.hid hx
              have hj3 : (j : Int) < 3 := by omega
              have c0 := hx _ hB
              have Hp1 := Lib.hid (fun wx => place_w (Str (p ++ x)) wx (by rw [size_Str]; unfold maxLen; simp; omega))
              have Hp2 := Lib.hid (fun wx => place_w (Str (q ++ x)) wx (by rw [size_Str]; unfold maxLen; simp; omega))
              simp only [toList_Str] at Hp1 Hp2
              rw [placeR_behind Hva.out HPp.out] at Hp1
              rw [placeR_behind Hvb.out HQq.out] at Hp2
              unfold behV at Hp1 Hp2
              have hrs : (restPlace x = none) ∨ (∃ t n m, restPlace x = some (t, n, m)) := by
                cases restPlace x with
                | none => exact .inl rfl
                | some y => obtain ⟨t, n, m⟩ := y; exact .inr ⟨t, n, m, rfl⟩
              have hne : (Str (p ++ x) : ByteArray) = Str (p ++ x) := rfl
              have HB := Lib.hid hB
              have HE := Lib.hid hbel
              clear hx hB hbel hne
              rcases hrs with hrs | ⟨pt, pn, pm, hrs⟩
              · rw [hrs] at Hp1 Hp2
                simp only [placeV] at Hp1 Hp2
                clear hrs
                go_wp2_with (first
                  | (go_at_call_of 20 (Str (p ++ x)); (with_reducible refine (Hp1.out _).mono ?_); rintro e wx1 ⟨rfl, hb⟩; have HB1 := Lib.hid (HB.out.below hb HB.out.lt); have HE1 := Lib.hid (Below.next HE.out (Nat.le_refl _) hb); have HX1 := Lib.hid (XAt.new [] 0 0 [] wx1); clear c0; have c0 := Hx.out _ (HB1.out.alloc (.cells #[.string (Str []), .int .i64 0, .int .i64 0, .string (Str [])] 32)); clear hb)
                  | (go_at_call 20; (with_reducible refine (Hp2.out _).mono ?_); rintro e wx2 ⟨rfl, hb⟩; have HB2 := Lib.hid ((HB1.out.alloc (.cells #[.string (Str []), .int .i64 0, .int .i64 0, .string (Str [])] 32)).below hb ((HB1.out.alloc _).lt)); have X1 := HX1.out.below hb; have HX2 := Lib.hid X1; have HE2 := Lib.hid (Below.next (HE1.out.alloc HE1.out.size (.cells #[.string (Str []), .int .i64 0, .int .i64 0, .string (Str [])] 32)) (Nat.le_refl _) hb); clear c0; have hzl := X1.1.lt; have a0 := (X1.1.alloc (.cells #[.string (Str []), .int .i64 0, .int .i64 0, .string (Str [])] 32)).cell 0; have a1 := (X1.1.alloc (.cells #[.string (Str []), .int .i64 0, .int .i64 0, .string (Str [])] 32)).cell 1; have a2 := (X1.1.alloc (.cells #[.string (Str []), .int .i64 0, .int .i64 0, .string (Str [])] 32)).cell 2; have a3 := (X1.1.alloc (.cells #[.string (Str []), .int .i64 0, .int .i64 0, .string (Str [])] 32)).cell 3; simp at a0 a1 a2 a3; clear hb X1))
                go_quiet (fail)
                go_wp2
                go_roundw
                case rel => exact ⟨j + 1, by omega, by go_num, HB2.out.alloc _, (HE2.out.alloc HE2.out.size _).trans (below_drewN _ _)⟩
                case measure => simp [intOf]; omega
              · rw [hrs] at Hp1 Hp2
                simp only [placeV] at Hp1 Hp2
                clear hrs
                have hpx : (p ++ pathP x).length = p.length + (pathP x).length := by simp
                have hxp := pathP_len x
                have Hu := Lib.hid (fun wx => under_w (Str (p ++ pathP x)) (Str p) wx)
                simp only [toList_Str, prefix_self] at Hu
                have hex : (Str (p ++ pathP x)).extract p.length (p.length + (pathP x).length) = Str (pathP x) := by
                  rw [extract_Str, toList_Str, List.drop_left, List.take_of_length_le (by omega)]
                generalize pathP x = xp at *
                obtain ⟨pa, hpa2⟩ : ∃ pa, pa = p ++ xp := ⟨_, rfl⟩
                obtain ⟨pb, hpb2⟩ : ∃ pb, pb = q ++ xp := ⟨_, rfl⟩
                rw [← hpa2] at Hp1 Hu hex hpx
                rw [← hpb2] at Hp2
                have Hpb := Lib.hid hpb2
                clear hpa2 hpb2
                go_wp2_with (first
                  | (go_at_call_of 20 (Str (p ++ x)); (with_reducible refine (Hp1.out _).mono ?_); rintro e wx1 ⟨rfl, hb⟩; have HB1 := Lib.hid (HB.out.below hb HB.out.lt); have HE1 := Lib.hid (Below.next HE.out (Nat.le_refl _) hb); have HX1 := Lib.hid (XAt.new pa pt pn pm wx1); clear c0; have c0 := Hx.out _ (HB1.out.alloc (Obj.cells #[.string (Str pa), .int .i64 pt, .int .i64 pn, .string (Str pm)] 32)); clear hb)
                  | (go_at_call 20; (with_reducible refine (Hp2.out _).mono ?_); rintro e wx2 ⟨rfl, hb⟩; have HB2 := Lib.hid ((HB1.out.alloc (Obj.cells #[.string (Str pa), .int .i64 pt, .int .i64 pn, .string (Str pm)] 32)).below hb ((HB1.out.alloc _).lt)); have X1 := HX1.out.below hb; have HX2 := Lib.hid X1; have HE2 := Lib.hid (Below.next (HE1.out.alloc HE1.out.size (Obj.cells #[.string (Str pa), .int .i64 pt, .int .i64 pn, .string (Str pm)] 32)) (Nat.le_refl _) hb); clear c0; have hzl := X1.1.lt; have a0 := (X1.1.alloc (Obj.cells #[.string (Str pb), .int .i64 pt, .int .i64 pn, .string (Str pm)] 32)).cell 0; have a1 := (X1.1.alloc (Obj.cells #[.string (Str pb), .int .i64 pt, .int .i64 pn, .string (Str pm)] 32)).cell 1; have a2 := (X1.1.alloc (Obj.cells #[.string (Str pb), .int .i64 pt, .int .i64 pn, .string (Str pm)] 32)).cell 2; have a3 := (X1.1.alloc (Obj.cells #[.string (Str pb), .int .i64 pt, .int .i64 pn, .string (Str pm)] 32)).cell 3; simp at a0 a1 a2 a3; clear hb X1)
                  | (go_at_call 26; (with_reducible refine (Hu.out _).mono ?_); rintro e wx3 ⟨rfl, rfl⟩))
                obtain ⟨wL, hwL⟩ : ∃ wL, wL = wx2.alloc (Obj.cells #[.string (Str pb), .int .i64 pt, .int .i64 pn, .string (Str pm)] 32) := ⟨_, rfl⟩
                have HBL : Hid (Blk wL wz.heap.size 50 #[.string (Str s), .string (Str kk), .string (Str (s ++ kk))]) := Lib.hid (by rw [hwL]; exact HB2.out.alloc _)
                have HEL : Hid (Below w.heap.size w wL) := Lib.hid (by rw [hwL]; exact HE2.out.alloc HE2.out.size _)
                have HXL : Hid (Blk wL wx1.heap.size 32 #[.string (Str pa), .int .i64 pt, .int .i64 pn, .string (Str pm)]) := Lib.hid (by rw [hwL]; exact HX2.out.1.alloc _)
                have HYL : Hid (Blk wL wx2.heap.size 32 #[.string (Str pb), .int .i64 pt, .int .i64 pn, .string (Str pm)]) := Lib.hid (by rw [hwL]; exact Blk.new _ _ _)
                rw [← hwL]
                have HL1 : Hid (Below wL.heap.size wL wL) := Lib.hid (Below.refl _ _)
                have k0 : ∀ wx, Below wL.heap.size wL wx → wx.cell? ⟨wx1.heap.size, 0, none⟩ = some (.string (Str pa)) := fun wx hx => (HXL.out.below hx HXL.out.lt).cell 0
                have k1 : ∀ wx, Below wL.heap.size wL wx → wx.cell? ⟨wx2.heap.size, 0, none⟩ = some (.string (Str (q ++ xp))) := fun wx hx => by rw [← Hpb.out]; exact (HYL.out.below hx HYL.out.lt).cell 0
                have Gu : Hid (∀ wx, Below wL.heap.size wL wx → Calls Try.prog 26 #[.string (Str pa), .string (Str p)] wx fun e w' => e = .returned (.bool true) ∧ Below wL.heap.size wL w') := Lib.hid (fun wx hx => (Hu.out wx).mono fun e w' ⟨h1, h2⟩ => ⟨h1, h2 ▸ hx⟩)
                have hp0 : (p.length : Int) ≤ (p.length : Int) + (xp.length : Int) := by omega
                have hq0 : ¬ 9223372036854775807 < q.length + xp.length := by omega
                clear hwL a0 a1 a2 a3 hzl HX1 HX2 HB1 HB2 HE1 HE2 Hu Hp1 Hp2 H9 HB HE
                go_region_held3 (fun wx => Below wL.heap.size wL wx)
                  (repeat (first | with_reducible assumption | with_reducible exact HL1.out | with_reducible refine Below.drew ?_ | with_reducible refine keepA ?_ _))
                  (first
                    | (go_at_call 26; (with_reducible refine (Gu.out _ (by repeat (first | with_reducible assumption | with_reducible exact HL1.out | with_reducible refine Below.drew ?_ | with_reducible refine keepA ?_ _))).mono ?_); rintro e2 y2 ⟨rfl, hS2⟩)
                    | fail "no arm")
                have HF1 := Lib.hid (HBL.out.below hS2 HBL.out.lt)
                have HF2 := Lib.hid (Below.next HEL.out (Nat.le_refl _) hS2)
                clear hS2 k0 k1 Gu
                go_wp2
                go_roundw
                case rel => exact ⟨j + 1, by omega, by go_num, HF1.out, HF2.out⟩
                case measure => simp [intOf]; omega
            · obtain rfl : j = 3 := by omega
              have HE := Lib.hid hbel
              clear hB hbel
              go_wp2
              go_ret
              exact ⟨rfl, HE.out⟩

end Go.Proofs.Yticlomakmcjcfaa
