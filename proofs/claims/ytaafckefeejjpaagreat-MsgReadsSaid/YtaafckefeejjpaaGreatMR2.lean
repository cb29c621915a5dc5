/-
  Walks: where spans meet, the program's and the reference's; the reference's Empty, Less, Moved, Prefix.
-/
import Derived.Test.YtaafckefeejjpaaGreatMR
namespace Go.Proofs.YtaafckefeejjpaaGreat
open Go.RowKit Go.Sort
set_option linter.unusedVariables false

/-- The compared beginnings, the compared ends of two spans. -/
theorem cmp_low (a b : Bs) (s i t j : Int) : decide (0 < cmpE (a, false, s, i) (b, false, t, j)) = ltP (keyP b) (keyP a) :=
  cmpE_pos (a := (a, false, s, i)) (b := (b, false, t, j)) (fun h => by cases h) (fun h => by cases h)
theorem cmp_high (a b : Bs) (s i t j : Int) : decide (cmpE (a, a.isEmpty, s, i) (b, b.isEmpty, t, j) < 0) = ltP (hiP a) (hiP b) := by
  have h := ltE_wf (a := (a, a.isEmpty, s, i)) (b := (b, b.isEmpty, t, j)) (fun h => by simpa using h) (fun h => by simpa using h)
  rw [ptE_hi, ptE_hi] at h
  exact h
def strS (s : Sp) : Value := .agg #[.string (Str s.1), .string (Str s.2)]
/-- Where Meet stands: its two spans, its result, and what it makes. -/
structure MeetSt (w : World) (al ah bl bh ml mh : Bs) (wx : World) : Prop where
  a : Blk wx w.heap.size 45 #[.string (Str al), .string (Str ah)]
  b : Blk wx (w.heap.size + 1) 45 #[.string (Str bl), .string (Str bh)]
  r : Blk wx (w.heap.size + 1 + 1) 45 #[.string (Str []), .string (Str [])]
  m : Blk wx (w.heap.size + 1 + 1 + 1) 45 #[.string (Str ml), .string (Str mh)]
  g : Grown w wx
theorem MeetSt.start (w : World) (al ah bl bh : Bs) : MeetSt w al ah bl bh al ah ((((w.alloc (.cells #[.string (Str al), .string (Str ah)] 45)).alloc (.cells #[.string (Str bl), .string (Str bh)] 45)).alloc (.cells #[.string ⟨#[]⟩, .string ⟨#[]⟩] 45)).alloc (.cells #[.string (Str al), .string (Str ah)] 45)) where
  a := (((Blk.new _ _ _).alloc _).alloc _).alloc _
  b := ((Blk.new' _ _ _ (by simp)).alloc _).alloc _
  r := (Blk.new' _ _ _ (by simp)).alloc _
  m := Blk.new' _ _ _ (by simp)
  g := ((((Grown.refl w).alloc _).alloc _).alloc _).alloc _
theorem MeetSt.grown {w wx : World} {al ah bl bh ml mh : Bs} (h : MeetSt w al ah bl bh ml mh wx) (n : Nat) (os : Array Obj) : MeetSt w al ah bl bh ml mh (grow (wx.drewN n) os) where
  a := h.a.grown n os
  b := h.b.grown n os
  r := h.r.grown n os
  m := h.m.grown n os
  g := h.g.trans ⟨n, os, rfl⟩
theorem MeetSt.lo {w wx : World} {al ah bl bh ml mh : Bs} (h : MeetSt w al ah bl bh ml mh wx) (x : Bs) : MeetSt w al ah bl bh x mh (wx.setCell ⟨w.heap.size + 1 + 1 + 1, 0, none⟩ (.string (Str x))) where
  a := h.a.setCell_other (by omega) _ _
  b := h.b.setCell_other (by omega) _ _
  r := h.r.setCell_other (by omega) _ _
  m := h.m.setCell 0 _
  g := h.g.setCell _ _ _ (by omega)
theorem MeetSt.hi {w wx : World} {al ah bl bh ml mh : Bs} (h : MeetSt w al ah bl bh ml mh wx) (x : Bs) : MeetSt w al ah bl bh ml x (wx.setCell ⟨w.heap.size + 1 + 1 + 1, 1, none⟩ (.string (Str x))) where
  a := h.a.setCell_other (by omega) _ _
  b := h.b.setCell_other (by omega) _ _
  r := h.r.setCell_other (by omega) _ _
  m := h.m.setCell 1 _
  g := h.g.setCell _ _ _ (by omega)
set_option maxRecDepth 100000 in
set_option maxHeartbeats 4000000 in
theorem meet_w (a b : Sp) (w : World) : Calls Tryz.prog 121 #[strS a, strS b] w fun e w' => e = .returned (strS (meetS a b)) ∧ Grown w w' := by
  obtain ⟨al, ah⟩ := a
  obtain ⟨bl, bh⟩ := b
  simp only [strS]
  have hc1 := fun wx => compare_w (bl, false, 1, 0) (al, false, 1, 0) wx
  have hk1 := cmp_low bl al 1 0 1 0
  have hc2 := fun wx => compare_w (bh, bh.isEmpty, -1, 0) (ah, ah.isEmpty, -1, 0) wx
  have hk2 := cmp_high bh ah (-1) 0 (-1) 0
  have hla := fun wx => low_w al ah wx
  have hlb := fun wx => low_w bl bh wx
  have hha := fun wx => high_w al ah wx
  have hhb := fun wx => high_w bl bh wx
  have he := fun wx => empty_w (if ltP (keyP al) (keyP bl) then bl else al) (if ltP (hiP bh) (hiP ah) then bh else ah) wx
  have H : Hid (meetS (al, ah) (bl, bh) = if emptyB (if ltP (keyP al) (keyP bl) then bl else al, if ltP (hiP bh) (hiP ah) then bh else ah) then ([97], [97]) else (if ltP (keyP al) (keyP bl) then bl else al, if ltP (hiP bh) (hiP ah) then bh else ah)) := rfl
  rw [← hk1, ← hk2] at he H
  clear hk1 hk2
  simp only [encE] at hc1 hc2
  generalize cmpE (bl, false, 1, 0) (al, false, 1, 0) = r1 at *
  generalize cmpE (bh, bh.isEmpty, -1, 0) (ah, ah.isEmpty, -1, 0) = r2 at *
  generalize emptyB (if decide (0 < r1) then bl else al, if decide (r2 < 0) then bh else ah) = em at *
  generalize bh.isEmpty = tb at *
  generalize ah.isEmpty = ta at *
  have mixed := mixedA
  have S0 := MeetSt.start w al ah bl bh
  have a0 := S0.a.c 0 _ rfl
  have a1 := S0.a.c 1 _ rfl
  have b0 := S0.b.c 0 _ rfl
  have b1 := S0.b.c 1 _ rfl
  have HS := Lib.hid S0
  clear S0
  go_enter Tryz.func121, Tryz.ntmps121
  go_wp2
  go_cut [12] (fun s12 wx => s12 = .bool (decide (0 < r1)) ∧ MeetSt w al ah bl bh al ah wx)
  case first =>
    go_quiet_grown (first
      | (go_at_call_of 110 (Value.string (Str bl)); refine calls_grown (hlb _))
      | (go_at_call 110; refine calls_grown (hla _))
      | (go_at_call 105; refine calls_grown (hc1 _)))
    go_wp2_with fail
    go_meet
    exact ⟨by first | rfl | simp, HS.out.grown _ _⟩
  case rest =>
    clear a0 a1 b0 b1 hc1
    obtain ⟨rfl, S1⟩ := hcut
    have aA := S1.a.c0 0 _ rfl
    have aB := S1.b.c0 0 _ rfl
    have aM := S1.m.c0 0 _ rfl
    have fM := S1.m.free 0
    by_cases h1 : 0 < r1
    · have hd1 : decide (0 < r1) = true := by simp; omega
      have S2 := S1.lo bl
      have a0 := S2.a.c 0 _ rfl
      have a1 := S2.a.c 1 _ rfl
      have b0 := S2.b.c 0 _ rfl
      have b1 := S2.b.c 1 _ rfl
      have HS2 := Lib.hid S2
      have Hd1 := Lib.hid hd1
      clear S1 S2 hd1
      go_wp2
      go_cut [21] (fun s21 wy => s21 = .bool (decide (r2 < 0)) ∧ MeetSt w al ah bl bh bl ah wy)
      case first =>
        go_quiet_grown (first
          | (go_at_call_of 111 (Value.string (Str bl)); refine calls_grown (hhb _))
          | (go_at_call 111; refine calls_grown (hha _))
          | (go_at_call 105; refine calls_grown (hc2 _)))
        go_wp2_with fail
        go_meet
        exact ⟨by first | rfl | simp, HS2.out.grown _ _⟩
      case rest =>
        clear a0 a1 b0 b1 hc2 aA aB aM fM
        obtain ⟨rfl, S1⟩ := hcut
        have aB := S1.b.c0 1 _ rfl
        have aM := S1.m.c0 0 _ rfl
        have aM1 := S1.m.c0 1 _ rfl
        have fM := S1.m.free 1
        by_cases h2 : r2 < 0
        · have hd2 : decide (r2 < 0) = true := by simp; omega
          rw [Hd1.out, hd2] at he H
          simp only [↓reduceIte] at he H
          have HS3 := Lib.hid (S1.hi bh)
          clear S1 hd2
          cases em
          all_goals
            go_wp2_with (go_at_call 109; refine (he _).mono ?_; rintro e w1 ⟨rfl, n, os, rfl⟩; have S4 := HS3.out.grown n os; have r0 := S4.r.c0 0 _ rfl; have r1' := S4.r.c0 1 _ rfl; have f0 := S4.r.free 0; have f1 := S4.r.free 1; have m0 := S4.m.c0 0 _ rfl; have m1 := S4.m.c0 1 _ rfl; have G4 := Lib.hid S4.g; clear S4)
          · refine bodyPost_ret (v := .agg #[.string (Str bl), .string (Str bh)]) (by simp [results, Tryz.results121, go_sem, r0, r1']) rfl ⟨by rw [H.out]; rfl, ?_⟩
            repeat (first | exact G4.out | refine Grown.setCell ?_ _ _ _ (by omega))
          · refine bodyPost_ret (v := .agg #[.string (Str [97]), .string (Str [97])]) (by simp [results, Tryz.results121, go_sem, r0, r1']; try rfl) rfl ⟨by rw [H.out]; rfl, ?_⟩
            repeat (first | exact G4.out | refine Grown.setCell ?_ _ _ _ (by omega))
        · have hd2 : decide (r2 < 0) = false := by simp; omega
          rw [Hd1.out, hd2] at he H
          simp only [↓reduceIte, Bool.false_eq_true] at he H
          have HS3 := Lib.hid (S1)
          clear S1 hd2
          cases em
          all_goals
            go_wp2_with (go_at_call 109; refine (he _).mono ?_; rintro e w1 ⟨rfl, n, os, rfl⟩; have S4 := HS3.out.grown n os; have r0 := S4.r.c0 0 _ rfl; have r1' := S4.r.c0 1 _ rfl; have f0 := S4.r.free 0; have f1 := S4.r.free 1; have m0 := S4.m.c0 0 _ rfl; have m1 := S4.m.c0 1 _ rfl; have G4 := Lib.hid S4.g; clear S4)
          · refine bodyPost_ret (v := .agg #[.string (Str bl), .string (Str ah)]) (by simp [results, Tryz.results121, go_sem, r0, r1']) rfl ⟨by rw [H.out]; rfl, ?_⟩
            repeat (first | exact G4.out | refine Grown.setCell ?_ _ _ _ (by omega))
          · refine bodyPost_ret (v := .agg #[.string (Str [97]), .string (Str [97])]) (by simp [results, Tryz.results121, go_sem, r0, r1']; try rfl) rfl ⟨by rw [H.out]; rfl, ?_⟩
            repeat (first | exact G4.out | refine Grown.setCell ?_ _ _ _ (by omega))
    · have hd1 : decide (0 < r1) = false := by simp; omega
      have S2 := S1
      have a0 := S2.a.c 0 _ rfl
      have a1 := S2.a.c 1 _ rfl
      have b0 := S2.b.c 0 _ rfl
      have b1 := S2.b.c 1 _ rfl
      have HS2 := Lib.hid S2
      have Hd1 := Lib.hid hd1
      clear S1 S2 hd1
      go_wp2
      go_cut [21] (fun s21 wy => s21 = .bool (decide (r2 < 0)) ∧ MeetSt w al ah bl bh al ah wy)
      case first =>
        go_quiet_grown (first
          | (go_at_call_of 111 (Value.string (Str bl)); refine calls_grown (hhb _))
          | (go_at_call 111; refine calls_grown (hha _))
          | (go_at_call 105; refine calls_grown (hc2 _)))
        go_wp2_with fail
        go_meet
        exact ⟨by first | rfl | simp, HS2.out.grown _ _⟩
      case rest =>
        clear a0 a1 b0 b1 hc2 aA aB aM fM
        obtain ⟨rfl, S1⟩ := hcut
        have aB := S1.b.c0 1 _ rfl
        have aM := S1.m.c0 0 _ rfl
        have aM1 := S1.m.c0 1 _ rfl
        have fM := S1.m.free 1
        by_cases h2 : r2 < 0
        · have hd2 : decide (r2 < 0) = true := by simp; omega
          rw [Hd1.out, hd2] at he H
          simp only [↓reduceIte, Bool.false_eq_true] at he H
          have HS3 := Lib.hid (S1.hi bh)
          clear S1 hd2
          cases em
          all_goals
            go_wp2_with (go_at_call 109; refine (he _).mono ?_; rintro e w1 ⟨rfl, n, os, rfl⟩; have S4 := HS3.out.grown n os; have r0 := S4.r.c0 0 _ rfl; have r1' := S4.r.c0 1 _ rfl; have f0 := S4.r.free 0; have f1 := S4.r.free 1; have m0 := S4.m.c0 0 _ rfl; have m1 := S4.m.c0 1 _ rfl; have G4 := Lib.hid S4.g; clear S4)
          · refine bodyPost_ret (v := .agg #[.string (Str al), .string (Str bh)]) (by simp [results, Tryz.results121, go_sem, r0, r1']) rfl ⟨by rw [H.out]; rfl, ?_⟩
            repeat (first | exact G4.out | refine Grown.setCell ?_ _ _ _ (by omega))
          · refine bodyPost_ret (v := .agg #[.string (Str [97]), .string (Str [97])]) (by simp [results, Tryz.results121, go_sem, r0, r1']; try rfl) rfl ⟨by rw [H.out]; rfl, ?_⟩
            repeat (first | exact G4.out | refine Grown.setCell ?_ _ _ _ (by omega))
        · have hd2 : decide (r2 < 0) = false := by simp; omega
          rw [Hd1.out, hd2] at he H
          simp only [↓reduceIte, Bool.false_eq_true] at he H
          have HS3 := Lib.hid (S1)
          clear S1 hd2
          cases em
          all_goals
            go_wp2_with (go_at_call 109; refine (he _).mono ?_; rintro e w1 ⟨rfl, n, os, rfl⟩; have S4 := HS3.out.grown n os; have r0 := S4.r.c0 0 _ rfl; have r1' := S4.r.c0 1 _ rfl; have f0 := S4.r.free 0; have f1 := S4.r.free 1; have m0 := S4.m.c0 0 _ rfl; have m1 := S4.m.c0 1 _ rfl; have G4 := Lib.hid S4.g; clear S4)
          · refine bodyPost_ret (v := .agg #[.string (Str al), .string (Str ah)]) (by simp [results, Tryz.results121, go_sem, r0, r1']) rfl ⟨by rw [H.out]; rfl, ?_⟩
            repeat (first | exact G4.out | refine Grown.setCell ?_ _ _ _ (by omega))
          · refine bodyPost_ret (v := .agg #[.string (Str [97]), .string (Str [97])]) (by simp [results, Tryz.results121, go_sem, r0, r1']; try rfl) rfl ⟨by rw [H.out]; rfl, ?_⟩
            repeat (first | exact G4.out | refine Grown.setCell ?_ _ _ _ (by omega))
theorem leq_eq (a b : Bs) : (Op.bytesLess a b || a == b) = !Op.bytesLess b a := by
  rw [Bool.eq_iff_iff, Bool.or_eq_true, beq_iff_eq, Bool.not_eq_true']
  constructor
  · rintro (h | rfl)
    · cases h2 : Op.bytesLess b a with
      | false => rfl
      | true => have := less_trans a b a h h2; rw [less_irrefl] at this; cases this
    · exact less_irrefl _
  · intro h
    cases h2 : Op.bytesLess a b with
    | true => exact .inl rfl
    | false => exact .inr (less_total a b h2 h)
theorem emptyB_eq (lo hi : Bs) : emptyB (lo, hi) = (!hi.isEmpty && (Op.bytesLess hi lo || hi == lo)) := by
  unfold emptyB
  cases h : hi with
  | nil => rfl
  | cons a r =>
    rw [← h]
    have hne : hi ≠ [] := by rw [h]; simp
    show (!ltP (keyP lo) (hiP hi)) = _
    rw [hiP_ne hne, leq_eq]
    have : hi.isEmpty = false := by simpa using hne
    rw [this]; rfl
set_option maxHeartbeats 1000000 in
theorem rempty_w (lo hi : Bs) (w : World) : Calls Tryz.prog 84 #[.agg #[.string (Str lo), .string (Str hi)]] w fun e w' => e = .returned (.bool (emptyB (lo, hi))) ∧ Grown w w' := by
  have H := Lib.hid (emptyB_eq lo hi)
  cases h1 : hi.isEmpty <;> cases h2 : Op.bytesLess hi lo <;> cases h3 : hi == lo
  all_goals
    rw [h1, h2, h3] at H
    go_enter Tryz.func84, Tryz.ntmps84
    go_wp2
    go_ret
    exact ⟨ret_bool (by rw [H.out]; rfl), (Grown.refl w).alloc _⟩
theorem lessP_eq (a b : Bs) : ltP (hiP a) (hiP b) = (!a.isEmpty && (b.isEmpty || Op.bytesLess a b)) := by
  cases ha : a with
  | nil => rfl
  | cons x r =>
    rw [← ha]
    have hne : a ≠ [] := by rw [ha]; simp
    have h1 : a.isEmpty = false := by simpa using hne
    cases hb : b with
    | nil => rw [hiP_ne hne, h1]; rfl
    | cons y s =>
      rw [← hb]
      have hne2 : b ≠ [] := by rw [hb]; simp
      have h2 : b.isEmpty = false := by simpa using hne2
      rw [hiP_ne hne, hiP_ne hne2, h1, h2]; rfl
set_option maxHeartbeats 1000000 in
theorem rless_w (a b : Bs) (w : World) : Calls Tryz.prog 97 #[.string (Str a), .string (Str b)] w fun e w' => e = .returned (.bool (ltP (hiP a) (hiP b))) ∧ Grown w w' := by
  have H := Lib.hid (lessP_eq a b)
  cases h1 : a.isEmpty <;> cases h2 : b.isEmpty <;> cases h3 : Op.bytesLess a b
  all_goals
    rw [h1, h2, h3] at H
    go_enter Tryz.func97, Tryz.ntmps97
    go_wp2
    go_ret
    exact ⟨ret_bool (by rw [H.out]; rfl), Grown.refl w⟩
@[go_sem] theorem run_max_str {P : Program} {w : World} (ts : Array TypeId) (t : TypeId) (a b : Bs) : (Builtin.max_ ts t #[.string (Str a), .string (Str b)]).run P w = .ok (.string (Str (if Op.bytesLess a b then b else a))) w := by
  cases h : Op.bytesLess a b <;> simp [Builtin.max_, Builtin.max2, Op.stringOp, toList_Str, h, asBool]
/-- Where the reference's Meet stands. -/
theorem MeetSt.rm {w wx : World} {al ah bl bh ml mh : Bs} (h : MeetSt w al ah bl bh ml mh wx) : Blk wx (w.heap.size + 1 + 1 + 1) 45 #[.string (Str ml), .string (Str mh)] := h.m
set_option maxRecDepth 100000 in
set_option maxHeartbeats 4000000 in
theorem rmeet_w (a b : Sp) (w : World) : Calls Tryz.prog 85 #[strS a, strS b] w fun e w' => e = .returned (strS (meetS a b)) ∧ Grown w w' := by
  obtain ⟨al, ah⟩ := a
  obtain ⟨bl, bh⟩ := b
  simp only [strS]
  have H : Hid (meetS (al, ah) (bl, bh) = if emptyB (if Op.bytesLess al bl then bl else al, if ltP (hiP bh) (hiP ah) then bh else ah) then ([97], [97]) else (if Op.bytesLess al bl then bl else al, if ltP (hiP bh) (hiP ah) then bh else ah)) := Lib.hid rfl
  have hl := fun wx => rless_w bh ah wx
  have he := fun wx => rempty_w (if Op.bytesLess al bl then bl else al) (if ltP (hiP bh) (hiP ah) then bh else ah) wx
  have hn := fun wx => rnone_w wx
  have S0 : Hid (∀ ml, MeetSt w al ah bl bh ml ah ((((w.alloc (.cells #[.string (Str al), .string (Str ah)] 45)).alloc (.cells #[.string (Str bl), .string (Str bh)] 45)).alloc (.cells #[.string ⟨#[]⟩, .string ⟨#[]⟩] 45)).alloc (.cells #[.string (Str ml), .string (Str ah)] 45))) := Lib.hid (fun ml => ⟨(((Blk.new _ _ _).alloc _).alloc _).alloc _, ((Blk.new' _ _ _ (by simp)).alloc _).alloc _, (Blk.new' _ _ _ (by simp)).alloc _, Blk.new' _ _ _ (by simp), ((((Grown.refl w).alloc _).alloc _).alloc _).alloc _⟩)
  cases h1 : Op.bytesLess al bl
  · cases h2 : ltP (hiP bh) (hiP ah)
    · rw [h1, h2] at he H
      rw [h2] at hl
      simp only [↓reduceIte, Bool.false_eq_true] at he H
      go_enter Tryz.func85, Tryz.ntmps85
      go_wp2_with fail
      refine (hl _).mono ?_
      rintro e w1 ⟨rfl, n, os, rfl⟩
      have S1 := (S0.out al).grown n os
      have bB := S1.b.c0 1 _ rfl
      have m0 := S1.m.c0 0 _ rfl
      have m1 := S1.m.c0 1 _ rfl
      have f1 := S1.m.free 1
      have HS2 := Lib.hid (S1)
      clear S1 hl h1 h2
      cases em : emptyB (al, ah) with
      | false =>
        rw [em] at he H
        clear em
        go_wp2_with (go_at_call 84; refine (he _).mono ?_; rintro e w2 ⟨rfl, n2, os2, rfl⟩; have S4 := HS2.out.grown n2 os2; have r0 := S4.r.c0 0 _ rfl; have r1' := S4.r.c0 1 _ rfl; have g0 := S4.r.free 0; have g1 := S4.r.free 1; have k0 := S4.m.c0 0 _ rfl; have k1 := S4.m.c0 1 _ rfl; have HS4 := Lib.hid S4; clear S4)
        refine bodyPost_ret (v := .agg #[.string (Str al), .string (Str ah)]) (by simp [results, Tryz.results85, go_sem, r0, r1']) rfl ⟨by rw [H.out]; rfl, ?_⟩
        repeat (first | exact HS4.out.g | refine Grown.setCell ?_ _ _ _ (by omega))
      | true =>
        rw [em] at he H
        clear em
        go_wp2_with (go_at_call 84; refine (he _).mono ?_; rintro e w2 ⟨rfl, n2, os2, rfl⟩; have S4 := HS2.out.grown n2 os2; have r0 := S4.r.c0 0 _ rfl; have r1' := S4.r.c0 1 _ rfl; have g0 := S4.r.free 0; have g1 := S4.r.free 1; have k0 := S4.m.c0 0 _ rfl; have k1 := S4.m.c0 1 _ rfl; have HS4 := Lib.hid S4; clear S4)
        refine (hn _).mono ?_
        rintro e w3 ⟨rfl, n3, os3, rfl⟩
        have S5 := HS4.out.grown n3 os3
        have r0 := S5.r.c0 0 _ rfl
        have r1' := S5.r.c0 1 _ rfl
        have g0 := S5.r.free 0
        have g1 := S5.r.free 1
        have HS5 := Lib.hid S5
        clear S5
        go_wp2
        refine bodyPost_ret (v := .agg #[.string (Str [97]), .string (Str [97])]) (by simp [results, Tryz.results85, go_sem, r0, r1']; try rfl) rfl ⟨by rw [H.out]; rfl, ?_⟩
        repeat (first | exact HS5.out.g | refine Grown.setCell ?_ _ _ _ (by omega))
    · rw [h1, h2] at he H
      rw [h2] at hl
      simp only [↓reduceIte, Bool.false_eq_true] at he H
      go_enter Tryz.func85, Tryz.ntmps85
      go_wp2_with fail
      refine (hl _).mono ?_
      rintro e w1 ⟨rfl, n, os, rfl⟩
      have S1 := (S0.out al).grown n os
      have bB := S1.b.c0 1 _ rfl
      have m0 := S1.m.c0 0 _ rfl
      have m1 := S1.m.c0 1 _ rfl
      have f1 := S1.m.free 1
      have HS2 := Lib.hid (S1.hi bh)
      clear S1 hl h1 h2
      cases em : emptyB (al, bh) with
      | false =>
        rw [em] at he H
        clear em
        go_wp2_with (go_at_call 84; refine (he _).mono ?_; rintro e w2 ⟨rfl, n2, os2, rfl⟩; have S4 := HS2.out.grown n2 os2; have r0 := S4.r.c0 0 _ rfl; have r1' := S4.r.c0 1 _ rfl; have g0 := S4.r.free 0; have g1 := S4.r.free 1; have k0 := S4.m.c0 0 _ rfl; have k1 := S4.m.c0 1 _ rfl; have HS4 := Lib.hid S4; clear S4)
        refine bodyPost_ret (v := .agg #[.string (Str al), .string (Str bh)]) (by simp [results, Tryz.results85, go_sem, r0, r1']) rfl ⟨by rw [H.out]; rfl, ?_⟩
        repeat (first | exact HS4.out.g | refine Grown.setCell ?_ _ _ _ (by omega))
      | true =>
        rw [em] at he H
        clear em
        go_wp2_with (go_at_call 84; refine (he _).mono ?_; rintro e w2 ⟨rfl, n2, os2, rfl⟩; have S4 := HS2.out.grown n2 os2; have r0 := S4.r.c0 0 _ rfl; have r1' := S4.r.c0 1 _ rfl; have g0 := S4.r.free 0; have g1 := S4.r.free 1; have k0 := S4.m.c0 0 _ rfl; have k1 := S4.m.c0 1 _ rfl; have HS4 := Lib.hid S4; clear S4)
        refine (hn _).mono ?_
        rintro e w3 ⟨rfl, n3, os3, rfl⟩
        have S5 := HS4.out.grown n3 os3
        have r0 := S5.r.c0 0 _ rfl
        have r1' := S5.r.c0 1 _ rfl
        have g0 := S5.r.free 0
        have g1 := S5.r.free 1
        have HS5 := Lib.hid S5
        clear S5
        go_wp2
        refine bodyPost_ret (v := .agg #[.string (Str [97]), .string (Str [97])]) (by simp [results, Tryz.results85, go_sem, r0, r1']; try rfl) rfl ⟨by rw [H.out]; rfl, ?_⟩
        repeat (first | exact HS5.out.g | refine Grown.setCell ?_ _ _ _ (by omega))
  · cases h2 : ltP (hiP bh) (hiP ah)
    · rw [h1, h2] at he H
      rw [h2] at hl
      simp only [↓reduceIte, Bool.false_eq_true] at he H
      go_enter Tryz.func85, Tryz.ntmps85
      go_wp2_with fail
      refine (hl _).mono ?_
      rintro e w1 ⟨rfl, n, os, rfl⟩
      have S1 := (S0.out bl).grown n os
      have bB := S1.b.c0 1 _ rfl
      have m0 := S1.m.c0 0 _ rfl
      have m1 := S1.m.c0 1 _ rfl
      have f1 := S1.m.free 1
      have HS2 := Lib.hid (S1)
      clear S1 hl h1 h2
      cases em : emptyB (bl, ah) with
      | false =>
        rw [em] at he H
        clear em
        go_wp2_with (go_at_call 84; refine (he _).mono ?_; rintro e w2 ⟨rfl, n2, os2, rfl⟩; have S4 := HS2.out.grown n2 os2; have r0 := S4.r.c0 0 _ rfl; have r1' := S4.r.c0 1 _ rfl; have g0 := S4.r.free 0; have g1 := S4.r.free 1; have k0 := S4.m.c0 0 _ rfl; have k1 := S4.m.c0 1 _ rfl; have HS4 := Lib.hid S4; clear S4)
        refine bodyPost_ret (v := .agg #[.string (Str bl), .string (Str ah)]) (by simp [results, Tryz.results85, go_sem, r0, r1']) rfl ⟨by rw [H.out]; rfl, ?_⟩
        repeat (first | exact HS4.out.g | refine Grown.setCell ?_ _ _ _ (by omega))
      | true =>
        rw [em] at he H
        clear em
        go_wp2_with (go_at_call 84; refine (he _).mono ?_; rintro e w2 ⟨rfl, n2, os2, rfl⟩; have S4 := HS2.out.grown n2 os2; have r0 := S4.r.c0 0 _ rfl; have r1' := S4.r.c0 1 _ rfl; have g0 := S4.r.free 0; have g1 := S4.r.free 1; have k0 := S4.m.c0 0 _ rfl; have k1 := S4.m.c0 1 _ rfl; have HS4 := Lib.hid S4; clear S4)
        refine (hn _).mono ?_
        rintro e w3 ⟨rfl, n3, os3, rfl⟩
        have S5 := HS4.out.grown n3 os3
        have r0 := S5.r.c0 0 _ rfl
        have r1' := S5.r.c0 1 _ rfl
        have g0 := S5.r.free 0
        have g1 := S5.r.free 1
        have HS5 := Lib.hid S5
        clear S5
        go_wp2
        refine bodyPost_ret (v := .agg #[.string (Str [97]), .string (Str [97])]) (by simp [results, Tryz.results85, go_sem, r0, r1']; try rfl) rfl ⟨by rw [H.out]; rfl, ?_⟩
        repeat (first | exact HS5.out.g | refine Grown.setCell ?_ _ _ _ (by omega))
    · rw [h1, h2] at he H
      rw [h2] at hl
      simp only [↓reduceIte] at he H
      go_enter Tryz.func85, Tryz.ntmps85
      go_wp2_with fail
      refine (hl _).mono ?_
      rintro e w1 ⟨rfl, n, os, rfl⟩
      have S1 := (S0.out bl).grown n os
      have bB := S1.b.c0 1 _ rfl
      have m0 := S1.m.c0 0 _ rfl
      have m1 := S1.m.c0 1 _ rfl
      have f1 := S1.m.free 1
      have HS2 := Lib.hid (S1.hi bh)
      clear S1 hl h1 h2
      cases em : emptyB (bl, bh) with
      | false =>
        rw [em] at he H
        clear em
        go_wp2_with (go_at_call 84; refine (he _).mono ?_; rintro e w2 ⟨rfl, n2, os2, rfl⟩; have S4 := HS2.out.grown n2 os2; have r0 := S4.r.c0 0 _ rfl; have r1' := S4.r.c0 1 _ rfl; have g0 := S4.r.free 0; have g1 := S4.r.free 1; have k0 := S4.m.c0 0 _ rfl; have k1 := S4.m.c0 1 _ rfl; have HS4 := Lib.hid S4; clear S4)
        refine bodyPost_ret (v := .agg #[.string (Str bl), .string (Str bh)]) (by simp [results, Tryz.results85, go_sem, r0, r1']) rfl ⟨by rw [H.out]; rfl, ?_⟩
        repeat (first | exact HS4.out.g | refine Grown.setCell ?_ _ _ _ (by omega))
      | true =>
        rw [em] at he H
        clear em
        go_wp2_with (go_at_call 84; refine (he _).mono ?_; rintro e w2 ⟨rfl, n2, os2, rfl⟩; have S4 := HS2.out.grown n2 os2; have r0 := S4.r.c0 0 _ rfl; have r1' := S4.r.c0 1 _ rfl; have g0 := S4.r.free 0; have g1 := S4.r.free 1; have k0 := S4.m.c0 0 _ rfl; have k1 := S4.m.c0 1 _ rfl; have HS4 := Lib.hid S4; clear S4)
        refine (hn _).mono ?_
        rintro e w3 ⟨rfl, n3, os3, rfl⟩
        have S5 := HS4.out.grown n3 os3
        have r0 := S5.r.c0 0 _ rfl
        have r1' := S5.r.c0 1 _ rfl
        have g0 := S5.r.free 0
        have g1 := S5.r.free 1
        have HS5 := Lib.hid S5
        clear S5
        go_wp2
        refine bodyPost_ret (v := .agg #[.string (Str [97]), .string (Str [97])]) (by simp [results, Tryz.results85, go_sem, r0, r1']; try rfl) rfl ⟨by rw [H.out]; rfl, ?_⟩
        repeat (first | exact HS5.out.g | refine Grown.setCell ?_ _ _ _ (by omega))
set_option maxRecDepth 100000 in
set_option maxHeartbeats 2000000 in
theorem rprefix_w (p : Bs) (w : World) (hp : p.length ≤ 140737488355328) : Calls Tryz.prog 49 #[.string (Str p)] w fun e w' => e = .returned (.agg #[.string (Str p), .string (Str (preT p))]) ∧ Grown w w' := by
  have hsz := size_Str p
  go_enter Tryz.func49, Tryz.ntmps49
  go_wp2
  go_loop [3] (fun i => ∃ k : Nat, k ≤ p.length ∧ i = .int .i64 (k : Int) ∧ Hid (p.drop k = List.replicate (p.length - k) 255)) (fun i => (intOf i).toNat)
  case atStart => exact ⟨p.length, Nat.le_refl _, by first | rfl | go_num, Lib.hid (by simp)⟩
  case round =>
    obtain ⟨k, hk, rfl, HD⟩ := hrel
    by_cases hk0 : k = 0
    · subst hk0
      have H := Lib.hid (preT_full p HD.out)
      go_wp2
      refine bodyPost_ret (v := .agg #[.string (Str p), .string (Str [])]) (by simp [results, Tryz.results49, go_sem]; try rfl) rfl ⟨by rw [H.out], ?_⟩
      repeat (first | exact Grown.refl _ | refine Grown.setCell ?_ _ _ _ (by simp) | refine Grown.alloc ?_ _)
    · obtain ⟨j, rfl⟩ : ∃ j, k = j + 1 := ⟨k - 1, by omega⟩
      have hj : j < p.length := by omega
      have hjz : (j : Int) < (p.length : Int) := by omega
      have hpos : (0 : Int) < (j : Int) + 1 := by omega
      have hsub : (j : Int) + 1 - 1 = (j : Int) := by omega
      have hwr0 : IntKind.i64.wrap (j : Int) = (j : Int) := by rw [IntKind.wrap_i64]; omega
      by_cases hc : p[j] = 255
      · have HD' := Lib.hid (drop_full p j hj HD.out hc)
        have hcn : (p[j].toNat : Int) = 255 := by rw [hc]; rfl
        have hcb : ((p[j].toNat : Int) == 255) = true := by rw [hcn]; rfl
        clear hc hcn
        go_wp2
        go_round
        case rel => exact ⟨j, by omega, by go_num, HD'⟩
        case measure => simp [intOf]
      · have H := Lib.hid (preT_at p j hj HD.out hc)
        have hcn : (p[j].toNat : Int) < 255 := by
          have h0 : p[j].toNat ≠ 255 := fun h' => hc (UInt8.toNat_inj.1 (by rw [h']; rfl))
          have h1 := p[j].toNat_lt
          omega
        have hcb : ((p[j].toNat : Int) == 255) = false := by simp; omega
        have Hi := Lib.hid (u8_inc p[j] hc)
        have hwr : IntKind.u8.wrap ((p[j].toNat : Int) + 1) = (p[j].toNat : Int) + 1 := by simp [IntKind.wrap, IntKind.bits, IntKind.signed]; omega
        have hjl : j ≤ p.length := by omega
        have hjlz : (j : Int) ≤ (p.length : Int) := by omega
        clear hc
        go_wp2
        go_region
        all_goals go_wp2
        all_goals
          refine bodyPost_ret (v := .agg #[.string (Str p), .string (Str (p.take j ++ [p[j] + 1]))]) (by simp [results, Tryz.results49, go_sem, Str_add]) rfl ⟨by rw [H.out], ?_⟩
          repeat (first | exact Grown.refl _ | refine Grown.setCell ?_ _ _ _ (by simp) | refine Grown.alloc ?_ _ | refine Grown.draw ?_)

end Go.Proofs.YtaafckefeejjpaaGreat
