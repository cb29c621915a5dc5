/-
  Walks: the functions of package span without lists, and those of the reference that are like them.
-/
import Derived.Test.YtenhjpopdmiekaaZW1
import Derived.Test.YtenhjpopdmiekaaZS2
namespace Go.Proofs.Ytenhjpopdmiekaa
open Go.RowKit Go.Sort
set_option linter.unusedVariables false

set_option maxHeartbeats 1000000 in
theorem has_w (lo hi k : Bs) (w : World) : Calls Try.prog 17 #[.agg #[.string (Str lo), .string (Str hi)], .string (Str k)] w fun e w' => e = .returned (.bool (hasB (lo, hi) k)) ∧ Grown w w' := by
  have H : Hid (hasB (lo, hi) k = (!Op.bytesLess k lo && (hi.isEmpty || Op.bytesLess k hi))) := rfl
  cases h1 : Op.bytesLess k lo <;> cases h2 : hi.isEmpty <;> cases h3 : Op.bytesLess k hi
  all_goals
    rw [h1, h2, h3] at H
    go_enter Try.func17, Try.ntmps17
    go_wp2
    go_ret
    exact ⟨ret_bool (by rw [H.out]; rfl), (Grown.refl w).alloc _⟩

set_option maxHeartbeats 1000000 in
theorem rhas_w (lo hi k : Bs) (w : World) : Calls Try.prog 18 #[.agg #[.string (Str lo), .string (Str hi)], .string (Str k)] w fun e w' => e = .returned (.bool (hasB (lo, hi) k)) ∧ Grown w w' := by
  have H : Hid (hasB (lo, hi) k = (!Op.bytesLess k lo && (hi.isEmpty || Op.bytesLess k hi))) := rfl
  cases h1 : Op.bytesLess k lo <;> cases h2 : hi.isEmpty <;> cases h3 : Op.bytesLess k hi
  all_goals
    rw [h1, h2, h3] at H
    go_enter Try.func18, Try.ntmps18
    go_wp2
    go_ret
    exact ⟨ret_bool (by rw [H.out]; rfl), (Grown.refl w).alloc _⟩

theorem add_Str (a b : Bs) : (Str a ++ Str b : ByteArray) = Str (a ++ b) := Str_add a b
set_option maxHeartbeats 1000000 in
theorem sp_w (lo hi : Bs) (w : World) : Calls Try.prog 15 #[.string (Str lo), .string (Str hi)] w fun e w' => e = .returned (.agg #[.string (Str lo), .string (Str hi)]) ∧ Grown w w' := by
  go_enter Try.func15, Try.ntmps15
  go_wp2
  refine bodyPost_ret (v := .agg #[.string (Str lo), .string (Str hi)]) (by simp [results, Try.results15, go_sem]) rfl ⟨rfl, ?_⟩
  repeat (first | exact Grown.refl _ | refine Grown.setCell ?_ _ _ _ (by simp) | refine Grown.alloc ?_ _)
set_option maxHeartbeats 1000000 in
theorem rnone_w (w : World) : Calls Try.prog 40 #[] w fun e w' => e = .returned (.agg #[.string (Str [97]), .string (Str [97])]) ∧ Grown w w' := by
  go_enter Try.func40, Try.ntmps40
  go_wp2
  refine bodyPost_ret (v := .agg #[.string (Str [97]), .string (Str [97])]) (by simp [results, Try.results40, go_sem]; rfl) rfl ⟨rfl, ?_⟩
  repeat (first | exact Grown.refl _ | refine Grown.setCell ?_ _ _ _ (by simp) | refine Grown.alloc ?_ _)
set_option maxHeartbeats 1000000 in
theorem one_w (k : Bs) (w : World) (hk : k.length ≤ 140737488355328) : Calls Try.prog 13 #[.string (Str k)] w fun e w' => e = .returned (.agg #[.string (Str k), .string (Str (k ++ [0]))]) ∧ Grown w w' := by
  go_enter Try.func13, Try.ntmps13
  go_wp2
  refine bodyPost_ret (v := .agg #[.string (Str k), .string (Str (k ++ [0]))]) (by simp [results, Try.results13, go_sem]; exact Str_add k [0]) rfl ⟨rfl, ?_⟩
  repeat (first | exact Grown.refl _ | refine Grown.setCell ?_ _ _ _ (by simp) | refine Grown.alloc ?_ _)
set_option maxHeartbeats 1000000 in
theorem rone_w (k : Bs) (w : World) (hk : k.length ≤ 140737488355328) : Calls Try.prog 14 #[.string (Str k)] w fun e w' => e = .returned (.agg #[.string (Str k), .string (Str (k ++ [0]))]) ∧ Grown w w' := by
  go_enter Try.func14, Try.ntmps14
  go_wp2
  refine bodyPost_ret (v := .agg #[.string (Str k), .string (Str (k ++ [0]))]) (by simp [results, Try.results14, go_sem]; exact Str_add k [0]) rfl ⟨rfl, ?_⟩
  repeat (first | exact Grown.refl _ | refine Grown.setCell ?_ _ _ _ (by simp) | refine Grown.alloc ?_ _)

theorem cut_yes (k a : Bs) (w : World) (h : a.isPrefixOf k = true) : Calls Try.prog 34 #[.string (Str k), .string (Str a)] w fun e w' => e = .returned (.tuple #[.string (Str (k.drop a.length)), .bool true]) ∧ w = w' := by
  refine (Try.strings_CutPrefix (Str k) (Str a) w).mono fun e w' ⟨he, hw⟩ => ⟨?_, hw.symm⟩
  rw [he]
  show Ending.returned (.tuple #[.string ⟨(Lib.trimPrefix k a).toArray⟩, .bool (Lib.hasPrefix k a)]) = _
  unfold Lib.trimPrefix Lib.hasPrefix
  rw [h]; rfl
theorem cut_no (k a : Bs) (w : World) (h : a.isPrefixOf k = false) : Calls Try.prog 34 #[.string (Str k), .string (Str a)] w fun e w' => e = .returned (.tuple #[.string (Str k), .bool false]) ∧ w = w' := by
  refine (Try.strings_CutPrefix (Str k) (Str a) w).mono fun e w' ⟨he, hw⟩ => ⟨?_, hw.symm⟩
  rw [he]
  show Ending.returned (.tuple #[.string ⟨(Lib.trimPrefix k a).toArray⟩, .bool (Lib.hasPrefix k a)]) = _
  unfold Lib.trimPrefix Lib.hasPrefix
  rw [h]; rfl

/-- What Moved hands back. -/
def movedV (k a b : Bs) : Value := match movedS k a b with
  | some m => .tuple #[.string (Str m), .bool true]
  | none => .tuple #[.string (Str []), .bool false]
theorem movedV_yes {k a b : Bs} (h : a.isPrefixOf k = true) : movedV k a b = .tuple #[.string (Str (b ++ k.drop a.length)), .bool true] := by unfold movedV movedS; rw [if_pos h]
theorem movedV_no {k a b : Bs} (h : a.isPrefixOf k = false) : movedV k a b = .tuple #[.string (Str []), .bool false] := by unfold movedV movedS; rw [if_neg (by rw [h]; simp)]
set_option maxHeartbeats 1000000 in
theorem moved_w (k a b : Bs) (w : World) (hk : k.length ≤ 140737488355328) (hb : b.length ≤ 140737488355328) :
    Calls Try.prog 9 #[.string (Str k), .string (Str a), .string (Str b)] w fun e w' => e = .returned (movedV k a b) ∧ Grown w w' := by
  cases h : a.isPrefixOf k with
  | true =>
    have hc := fun wx => cut_yes k a wx h
    have hl : (k.drop a.length).length ≤ 140737488355328 := by rw [List.length_drop]; omega
    rw [movedV_yes h]
    clear h hk
    generalize k.drop a.length = r at *
    go_enter Try.func9, Try.ntmps9
    go_wp2_with (go_at_call 34; refine (hc _).mono ?_; rintro e w' ⟨rfl, rfl⟩)
    go_ret2
    refine ⟨?_, Grown.refl _⟩
    show Ending.returned (.tuple #[.string (Str b ++ Str r), .bool true]) = _
    rw [Str_add]
  | false =>
    have hc := fun wx => cut_no k a wx h
    rw [movedV_no h]
    clear h
    go_enter Try.func9, Try.ntmps9
    go_wp2_with (go_at_call 34; refine (hc _).mono ?_; rintro e w' ⟨rfl, rfl⟩)
    go_ret2
    exact ⟨rfl, Grown.refl _⟩

/-- The compared beginnings, the compared ends of two spans. -/
theorem cmp_low (a b : Bs) (s i t j : Int) : decide (0 < cmpE (a, false, s, i) (b, false, t, j)) = ltP (keyP b) (keyP a) :=
  cmpE_pos (a := (a, false, s, i)) (b := (b, false, t, j)) (fun h => by cases h) (fun h => by cases h)
theorem cmp_high (a b : Bs) (s i t j : Int) : decide (cmpE (a, a.isEmpty, s, i) (b, b.isEmpty, t, j) < 0) = ltP (hiP a) (hiP b) := by
  have h := ltE_wf (a := (a, a.isEmpty, s, i)) (b := (b, b.isEmpty, t, j)) (fun h => by simpa using h) (fun h => by simpa using h)
  rw [ptE_hi, ptE_hi] at h
  exact h
def strS (s : Sp) : Value := .agg #[.string (Str s.1), .string (Str s.2)]

/-- Where Meet stands: its two spans, its result, and what it makes. -/
structure MeetSt (w : World) (al ah bl bh ml mh : Bs) (wx : World) : Prop where
  a : Blk wx w.heap.size 29 #[.string (Str al), .string (Str ah)]
  b : Blk wx (w.heap.size + 1) 29 #[.string (Str bl), .string (Str bh)]
  r : Blk wx (w.heap.size + 1 + 1) 29 #[.string (Str []), .string (Str [])]
  m : Blk wx (w.heap.size + 1 + 1 + 1) 29 #[.string (Str ml), .string (Str mh)]
  g : Grown w wx
theorem MeetSt.start (w : World) (al ah bl bh : Bs) : MeetSt w al ah bl bh al ah ((((w.alloc (.cells #[.string (Str al), .string (Str ah)] 29)).alloc (.cells #[.string (Str bl), .string (Str bh)] 29)).alloc (.cells #[.string ⟨#[]⟩, .string ⟨#[]⟩] 29)).alloc (.cells #[.string (Str al), .string (Str ah)] 29)) where
  a := (((Blk.new _ _ _).alloc _).alloc _).alloc _
  b := ((Blk.new' _ _ _ (by simp)).alloc _).alloc _
  r := (Blk.new' _ _ _ (by simp)).alloc _
  m := Blk.new' _ _ _ (by simp)
  g := ((((Grown.refl w).alloc _).alloc _).alloc _).alloc _
theorem MeetSt.grown {w wx : World} {al ah bl bh ml mh : Bs} (h : MeetSt w al ah bl bh ml mh wx) (n : Nat) (os : Array Obj) : MeetSt w al ah bl bh ml mh (grow (wx.drewN n) os) where
  a := h.a.grown n os
  b := h.b.grown n os
  r := h.r.grown n os
  m := h.m.grown n os
  g := h.g.trans ⟨n, os, rfl⟩
theorem MeetSt.lo {w wx : World} {al ah bl bh ml mh : Bs} (h : MeetSt w al ah bl bh ml mh wx) (x : Bs) : MeetSt w al ah bl bh x mh (wx.setCell ⟨w.heap.size + 1 + 1 + 1, 0, none⟩ (.string (Str x))) where
  a := h.a.setCell_other (by omega) _ _
  b := h.b.setCell_other (by omega) _ _
  r := h.r.setCell_other (by omega) _ _
  m := h.m.setCell 0 _
  g := h.g.setCell _ _ _ (by omega)
theorem MeetSt.hi {w wx : World} {al ah bl bh ml mh : Bs} (h : MeetSt w al ah bl bh ml mh wx) (x : Bs) : MeetSt w al ah bl bh ml x (wx.setCell ⟨w.heap.size + 1 + 1 + 1, 1, none⟩ (.string (Str x))) where
  a := h.a.setCell_other (by omega) _ _
  b := h.b.setCell_other (by omega) _ _
  r := h.r.setCell_other (by omega) _ _
  m := h.m.setCell 1 _
  g := h.g.setCell _ _ _ (by omega)

set_option maxRecDepth 100000 in
set_option maxHeartbeats 4000000 in
theorem meet_w (a b : Sp) (w : World) : Calls Try.prog 21 #[strS a, strS b] w fun e w' => e = .returned (strS (meetS a b)) ∧ Grown w w' := by
  obtain ⟨al, ah⟩ := a
  obtain ⟨bl, bh⟩ := b
  simp only [strS]
  have hc1 := fun wx => compare_w (bl, false, 1, 0) (al, false, 1, 0) wx
  have hk1 := cmp_low bl al 1 0 1 0
  have hc2 := fun wx => compare_w (bh, bh.isEmpty, -1, 0) (ah, ah.isEmpty, -1, 0) wx
  have hk2 := cmp_high bh ah (-1) 0 (-1) 0
  have hla := fun wx => low_w al ah wx
  have hlb := fun wx => low_w bl bh wx
  have hha := fun wx => high_w al ah wx
  have hhb := fun wx => high_w bl bh wx
  have he := fun wx => empty_w (if ltP (keyP al) (keyP bl) then bl else al) (if ltP (hiP bh) (hiP ah) then bh else ah) wx
  have H : Hid (meetS (al, ah) (bl, bh) = if emptyB (if ltP (keyP al) (keyP bl) then bl else al, if ltP (hiP bh) (hiP ah) then bh else ah) then ([97], [97]) else (if ltP (keyP al) (keyP bl) then bl else al, if ltP (hiP bh) (hiP ah) then bh else ah)) := rfl
  rw [← hk1, ← hk2] at he H
  clear hk1 hk2
  simp only [encE] at hc1 hc2
  generalize cmpE (bl, false, 1, 0) (al, false, 1, 0) = r1 at *
  generalize cmpE (bh, bh.isEmpty, -1, 0) (ah, ah.isEmpty, -1, 0) = r2 at *
  generalize emptyB (if decide (0 < r1) then bl else al, if decide (r2 < 0) then bh else ah) = em at *
  generalize bh.isEmpty = tb at *
  generalize ah.isEmpty = ta at *
  have mixed := mixedA
  have S0 := MeetSt.start w al ah bl bh
  have a0 := S0.a.c 0 _ rfl
  have a1 := S0.a.c 1 _ rfl
  have b0 := S0.b.c 0 _ rfl
  have b1 := S0.b.c 1 _ rfl
  have HS := Lib.hid S0
  clear S0
  go_enter Try.func21, Try.ntmps21
  go_wp2
  go_cut [12] (fun s12 wx => s12 = .bool (decide (0 < r1)) ∧ MeetSt w al ah bl bh al ah wx)
  case first =>
    go_quiet_grown (first
      | (go_at_call_of 38 (Value.string (Str bl)); refine calls_grown (hlb _))
      | (go_at_call 38; refine calls_grown (hla _))
      | (go_at_call 37; refine calls_grown (hc1 _)))
    go_wp2_with fail
    go_meet
    exact ⟨by first | rfl | simp, HS.out.grown _ _⟩
  case rest =>
    clear a0 a1 b0 b1 hc1
    obtain ⟨rfl, S1⟩ := hcut
    have aA := S1.a.c0 0 _ rfl
    have aB := S1.b.c0 0 _ rfl
    have aM := S1.m.c0 0 _ rfl
    have fM := S1.m.free 0
    by_cases h1 : 0 < r1
    · have hd1 : decide (0 < r1) = true := by simp; omega
      have S2 := S1.lo bl
      have a0 := S2.a.c 0 _ rfl
      have a1 := S2.a.c 1 _ rfl
      have b0 := S2.b.c 0 _ rfl
      have b1 := S2.b.c 1 _ rfl
      have HS2 := Lib.hid S2
      have Hd1 := Lib.hid hd1
      clear S1 S2 hd1
      go_wp2
      go_cut [21] (fun s21 wy => s21 = .bool (decide (r2 < 0)) ∧ MeetSt w al ah bl bh bl ah wy)
      case first =>
        go_quiet_grown (first
          | (go_at_call_of 36 (Value.string (Str bl)); refine calls_grown (hhb _))
          | (go_at_call 36; refine calls_grown (hha _))
          | (go_at_call 37; refine calls_grown (hc2 _)))
        go_wp2_with fail
        go_meet
        exact ⟨by first | rfl | simp, HS2.out.grown _ _⟩
      case rest =>
        clear a0 a1 b0 b1 hc2 aA aB aM fM
        obtain ⟨rfl, S1⟩ := hcut
        have aB := S1.b.c0 1 _ rfl
        have aM := S1.m.c0 0 _ rfl
        have aM1 := S1.m.c0 1 _ rfl
        have fM := S1.m.free 1
        by_cases h2 : r2 < 0
        · have hd2 : decide (r2 < 0) = true := by simp; omega
          rw [Hd1.out, hd2] at he H
          simp only [↓reduceIte, Bool.false_eq_true] at he H
          have HS3 := Lib.hid (S1.hi bh)
          clear S1 hd2
          cases em
          all_goals
            go_wp2_with (go_at_call 19; refine (he _).mono ?_; rintro e w1 ⟨rfl, n, os, rfl⟩; have S4 := HS3.out.grown n os; have r0 := S4.r.c0 0 _ rfl; have r1' := S4.r.c0 1 _ rfl; have f0 := S4.r.free 0; have f1 := S4.r.free 1; have m0 := S4.m.c0 0 _ rfl; have m1 := S4.m.c0 1 _ rfl; have G4 := Lib.hid S4.g; clear S4)
          · refine bodyPost_ret (v := .agg #[.string (Str bl), .string (Str bh)]) (by simp [results, Try.results21, go_sem, r0, r1', m0, m1]) rfl ⟨by rw [H.out]; rfl, ?_⟩
            repeat (first | exact G4.out | refine Grown.setCell ?_ _ _ _ (by omega))
          · refine bodyPost_ret (v := .agg #[.string (Str [97]), .string (Str [97])]) (by simp [results, Try.results21, go_sem, r0, r1', m0, m1]; try rfl) rfl ⟨by rw [H.out]; rfl, ?_⟩
            repeat (first | exact G4.out | refine Grown.setCell ?_ _ _ _ (by omega))
        · have hd2 : decide (r2 < 0) = false := by simp; omega
          rw [Hd1.out, hd2] at he H
          simp only [↓reduceIte, Bool.false_eq_true] at he H
          have HS3 := Lib.hid (S1)
          clear S1 hd2
          cases em
          all_goals
            go_wp2_with (go_at_call 19; refine (he _).mono ?_; rintro e w1 ⟨rfl, n, os, rfl⟩; have S4 := HS3.out.grown n os; have r0 := S4.r.c0 0 _ rfl; have r1' := S4.r.c0 1 _ rfl; have f0 := S4.r.free 0; have f1 := S4.r.free 1; have m0 := S4.m.c0 0 _ rfl; have m1 := S4.m.c0 1 _ rfl; have G4 := Lib.hid S4.g; clear S4)
          · refine bodyPost_ret (v := .agg #[.string (Str bl), .string (Str ah)]) (by simp [results, Try.results21, go_sem, r0, r1', m0, m1]) rfl ⟨by rw [H.out]; rfl, ?_⟩
            repeat (first | exact G4.out | refine Grown.setCell ?_ _ _ _ (by omega))
          · refine bodyPost_ret (v := .agg #[.string (Str [97]), .string (Str [97])]) (by simp [results, Try.results21, go_sem, r0, r1', m0, m1]; try rfl) rfl ⟨by rw [H.out]; rfl, ?_⟩
            repeat (first | exact G4.out | refine Grown.setCell ?_ _ _ _ (by omega))
    · have hd1 : decide (0 < r1) = false := by simp; omega
      have S2 := S1
      have a0 := S2.a.c 0 _ rfl
      have a1 := S2.a.c 1 _ rfl
      have b0 := S2.b.c 0 _ rfl
      have b1 := S2.b.c 1 _ rfl
      have HS2 := Lib.hid S2
      have Hd1 := Lib.hid hd1
      clear S1 S2 hd1
      go_wp2
      go_cut [21] (fun s21 wy => s21 = .bool (decide (r2 < 0)) ∧ MeetSt w al ah bl bh al ah wy)
      case first =>
        go_quiet_grown (first
          | (go_at_call_of 36 (Value.string (Str bl)); refine calls_grown (hhb _))
          | (go_at_call 36; refine calls_grown (hha _))
          | (go_at_call 37; refine calls_grown (hc2 _)))
        go_wp2_with fail
        go_meet
        exact ⟨by first | rfl | simp, HS2.out.grown _ _⟩
      case rest =>
        clear a0 a1 b0 b1 hc2 aA aB aM fM
        obtain ⟨rfl, S1⟩ := hcut
        have aB := S1.b.c0 1 _ rfl
        have aM := S1.m.c0 0 _ rfl
        have aM1 := S1.m.c0 1 _ rfl
        have fM := S1.m.free 1
        by_cases h2 : r2 < 0
        · have hd2 : decide (r2 < 0) = true := by simp; omega
          rw [Hd1.out, hd2] at he H
          simp only [↓reduceIte, Bool.false_eq_true] at he H
          have HS3 := Lib.hid (S1.hi bh)
          clear S1 hd2
          cases em
          all_goals
            go_wp2_with (go_at_call 19; refine (he _).mono ?_; rintro e w1 ⟨rfl, n, os, rfl⟩; have S4 := HS3.out.grown n os; have r0 := S4.r.c0 0 _ rfl; have r1' := S4.r.c0 1 _ rfl; have f0 := S4.r.free 0; have f1 := S4.r.free 1; have m0 := S4.m.c0 0 _ rfl; have m1 := S4.m.c0 1 _ rfl; have G4 := Lib.hid S4.g; clear S4)
          · refine bodyPost_ret (v := .agg #[.string (Str al), .string (Str bh)]) (by simp [results, Try.results21, go_sem, r0, r1', m0, m1]) rfl ⟨by rw [H.out]; rfl, ?_⟩
            repeat (first | exact G4.out | refine Grown.setCell ?_ _ _ _ (by omega))
          · refine bodyPost_ret (v := .agg #[.string (Str [97]), .string (Str [97])]) (by simp [results, Try.results21, go_sem, r0, r1', m0, m1]; try rfl) rfl ⟨by rw [H.out]; rfl, ?_⟩
            repeat (first | exact G4.out | refine Grown.setCell ?_ _ _ _ (by omega))
        · have hd2 : decide (r2 < 0) = false := by simp; omega
          rw [Hd1.out, hd2] at he H
          simp only [↓reduceIte, Bool.false_eq_true] at he H
          have HS3 := Lib.hid (S1)
          clear S1 hd2
          cases em
          all_goals
            go_wp2_with (go_at_call 19; refine (he _).mono ?_; rintro e w1 ⟨rfl, n, os, rfl⟩; have S4 := HS3.out.grown n os; have r0 := S4.r.c0 0 _ rfl; have r1' := S4.r.c0 1 _ rfl; have f0 := S4.r.free 0; have f1 := S4.r.free 1; have m0 := S4.m.c0 0 _ rfl; have m1 := S4.m.c0 1 _ rfl; have G4 := Lib.hid S4.g; clear S4)
          · refine bodyPost_ret (v := .agg #[.string (Str al), .string (Str ah)]) (by simp [results, Try.results21, go_sem, r0, r1', m0, m1]) rfl ⟨by rw [H.out]; rfl, ?_⟩
            repeat (first | exact G4.out | refine Grown.setCell ?_ _ _ _ (by omega))
          · refine bodyPost_ret (v := .agg #[.string (Str [97]), .string (Str [97])]) (by simp [results, Try.results21, go_sem, r0, r1', m0, m1]; try rfl) rfl ⟨by rw [H.out]; rfl, ?_⟩
            repeat (first | exact G4.out | refine Grown.setCell ?_ _ _ _ (by omega))

end Go.Proofs.Ytenhjpopdmiekaa
