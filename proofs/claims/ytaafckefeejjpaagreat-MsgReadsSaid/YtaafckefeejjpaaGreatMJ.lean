/-
  Walks: lists of spans that meet, messages that disturb each other, Free.
-/
import Derived.Test.YtaafckefeejjpaaGreatMG
namespace Go.Proofs.YtaafckefeejjpaaGreat
open Go.RowKit Go.Sort
set_option linter.unusedVariables false

def touch1 (s : Sp) (m : List Sp) : Bool := m.any fun o => !emptyB (meetS s o)
theorem touchB_eq (l m : List Sp) : touchB l m = l.any fun s => touch1 s m := rfl
theorem any_take {α : Type} (f : α → Bool) (l : List α) (k : Nat) (h : k < l.length) : (l.take (k + 1)).any f = ((l.take k).any f || f l[k]) := by
  rw [List.take_add_one, List.getElem?_eq_getElem h, List.any_append]; simp
theorem any_hit {α : Type} (f : α → Bool) (l : List α) (k : Nat) (h : k < l.length) (hh : f l[k] = true) : l.any f = true := by
  rw [List.any_eq_true]; exact ⟨l[k], List.getElem_mem h, hh⟩

set_option maxRecDepth 100000 in
set_option maxHeartbeats 4000000 in
theorem meets_w (v0 v1 : Value) (a b : List Sp) (w : World) (h0 : IsSpans w v0 a) (h1 : IsSpans w v1 b) :
    Calls Tryz.prog 117 #[v0, v1] w fun e w' => e = .returned (.bool (touchB a b)) ∧ Grown w w' := by
  obtain ⟨g0, o0, cap0, p0, rfl, hl0, hm0, hp0, hc0⟩ := h0.form
  obtain ⟨g1, o1, cap1, p1, rfl, hl1, hm1, hp1, hc1⟩ := h1.form
  unfold maxLen at hm0 hm1
  have HC0 := Lib.hid hc0
  have HC1 := Lib.hid hc1
  have HP0 := Lib.hid hp0
  have HP1 := Lib.hid hp1
  clear h0 h1 hp0 hp1 hc0 hc1
  go_enter Tryz.func117, Tryz.ntmps117
  go_wp2
  go_loopw [11] (fun i wr => ∃ k : Nat, k ≤ a.length ∧ i = .int .i64 k ∧ Hid ((a.take k).any (fun s => touch1 s b) = false) ∧ Grown w wr) (fun i _ => a.length - (intOf i).toNat)
  case atStart => exact ⟨0, Nat.zero_le _, rfl, Lib.hid rfl, Grown.refl _⟩
  case round =>
    obtain ⟨k, hk, rfl, hin, hgr⟩ := hrel
    by_cases hlt : k < a.length
    · obtain ⟨rfl, c0, c1⟩ := HC0.out k hlt
      have hgl := (HP0.out (by rintro rfl; simp at hlt)).2
      have hb := hgr.below (B := w.heap.size) (Nat.le_refl _)
      have c0 := (hb.cell (p := ⟨g0, o0 + k * 2, none⟩) (by exact hgl)).trans c0
      have c1 := (hb.cell (p := ⟨g0, o0 + k * 2 + 1, none⟩) (by exact hgl)).trans c1
      have Ht := Lib.hid (any_take (fun s => touch1 s b) a k hlt)
      have Hh := Lib.hid (any_hit (fun s => touch1 s b) a k hlt)
      have Hg := Lib.hid hgr
      have hltz : (k : Int) < (a.length : Int) := by omega
      clear hb hgr
      generalize a[k] = s at *
      obtain ⟨s1, s2⟩ := s
      simp only at c0 c1
      obtain ⟨wo, rfl⟩ : ∃ wo : World, wo = wr := ⟨_, rfl⟩
      have HB : Hid (Blk (wo.alloc (.cells #[.string (Str s1), .string (Str s2)] 45)) wo.heap.size 45 #[.string (Str s1), .string (Str s2)]) := Lib.hid (Blk.new _ _ _)
      have Hg1 : Hid (Grown w (wo.alloc (.cells #[.string (Str s1), .string (Str s2)] 45))) := Lib.hid (Hg.out.alloc _)
      go_wp2
      go_loopw [17] (fun i wr => ∃ j : Nat, j ≤ b.length ∧ i = .int .i64 j ∧ Hid ((b.take j).any (fun o => !emptyB (meetS (s1, s2) o)) = false) ∧ Grown w wr ∧ Blk wr wo.heap.size 45 #[.string (Str s1), .string (Str s2)]) (fun i _ => b.length - (intOf i).toNat)
      case atStart => exact ⟨0, Nat.zero_le _, rfl, Lib.hid rfl, Hg1.out, HB.out⟩
      case round =>
        obtain ⟨j, hj, rfl, hin2, hgr2, hblk⟩ := hrel
        clear HB Hg1
        by_cases hlt2 : j < b.length
        · obtain ⟨rfl, d0, d1⟩ := HC1.out j hlt2
          have hgl2 := (HP1.out (by rintro rfl; simp at hlt2)).2
          have hb := hgr2.below (B := w.heap.size) (Nat.le_refl _)
          have d0 := (hb.cell (p := ⟨g1, o1 + j * 2, none⟩) (by exact hgl2)).trans d0
          have d1 := (hb.cell (p := ⟨g1, o1 + j * 2 + 1, none⟩) (by exact hgl2)).trans d1
          have e0 : wr.cell? ⟨wo.heap.size, 0, none⟩ = some (.string (Str s1)) := hblk.c0 0 _ rfl
          have e1 : wr.cell? ⟨wo.heap.size, 1, none⟩ = some (.string (Str s2)) := hblk.c0 1 _ rfl
          have hlt3 : wo.heap.size < wr.heap.size := hblk.lt
          have Ht2 := Lib.hid (any_take (fun o => !emptyB (meetS (s1, s2) o)) b j hlt2)
          have Hh2 := Lib.hid (any_hit (fun o => !emptyB (meetS (s1, s2) o)) b j hlt2)
          have Hg2 := Lib.hid hgr2
          have Hblk := Lib.hid hblk
          have hltz2 : (j : Int) < (b.length : Int) := by omega
          have hne : wo.heap.size ≠ wr.heap.size := Nat.ne_of_lt hblk.lt
          clear hb hgr2 hblk
          generalize b[j] = o at *
          obtain ⟨t1, t2⟩ := o
          simp only at d0 d1
          have HMt := Lib.hid (fun wx => meet_w (s1, s2) (t1, t2) wx)
          have HE := Lib.hid (fun wx => empty_w (meetS (s1, s2) (t1, t2)).1 (meetS (s1, s2) (t1, t2)).2 wx)
          have Hm : Hid ((!emptyB (meetS (s1, s2) (t1, t2))) = (!emptyB ((meetS (s1, s2) (t1, t2)).1, (meetS (s1, s2) (t1, t2)).2))) := Lib.hid rfl
          generalize hx1 : meetS (s1, s2) (t1, t2) = x at *
          obtain ⟨x1, x2⟩ := x
          clear hx1
          simp only [strS] at HMt
          simp only at HE Hm
          have HBx := Lib.hid (Blk.alloc Hblk.out (.cells #[.string (Str t1), .string (Str t2)] 45))
          cases hem : emptyB (x1, x2) with
          | false =>
            rw [hem] at HE
            have Hr : Hid (touchB a b = true) := Lib.hid (by
              rw [touchB_eq]; refine Hh.out ?_; unfold touch1; refine Hh2.out ?_; rw [hem]; rfl)
            clear hem
            go_wp2_with fail
            refine (HMt.out _).mono ?_
            rintro e w3 ⟨rfl, hg3⟩
            have Hg3 : Hid (Grown w w3) := Lib.hid ((Hg2.out.alloc _).trans hg3)
            clear hg3
            go_wp2_with fail
            refine (HE.out _).mono ?_
            rintro e w4 ⟨rfl, hg4⟩
            have Hg4 : Hid (Grown w w4) := Lib.hid (Hg3.out.trans hg4)
            clear hg4
            go_wp2
            go_ret
            exact ⟨ret_bool Hr.out.symm, Hg4.out⟩
          | true =>
            rw [hem] at HE
            have Hr : Hid ((b.take (j + 1)).any (fun o => !emptyB (meetS (s1, s2) o)) = false) := Lib.hid (by
              rw [Ht2.out, hin2.out, hem]; rfl)
            clear hem
            go_wp2_with fail
            refine (HMt.out _).mono ?_
            rintro e w3 ⟨rfl, hg3⟩
            have Hg3 : Hid (Grown w w3) := Lib.hid ((Hg2.out.alloc _).trans hg3)
            have HB3 := Lib.hid (Grown.blk hg3 HBx.out)
            clear hg3
            go_wp2_with fail
            refine (HE.out _).mono ?_
            rintro e w4 ⟨rfl, hg4⟩
            have Hg4 : Hid (Grown w w4) := Lib.hid (Hg3.out.trans hg4)
            have HB4 := Lib.hid (Grown.blk hg4 HB3.out)
            clear hg4
            go_wp2
            go_roundw
            case rel => exact ⟨j + 1, by omega, by go_num, Hr, Hg4.out, HB4.out⟩
            case measure => simp [intOf]; omega
        · have Hr : Hid ((a.take (k + 1)).any (fun s => touch1 s b) = false) := Lib.hid (by
            have := hin2.out
            rw [List.take_of_length_le (by omega)] at this
            rw [Ht.out, hin.out]; exact this)
          have Hg2 := Lib.hid hgr2
          clear hgr2 hblk
          go_wp2
          go_roundw
          case rel => exact ⟨k + 1, by omega, by go_num, Hr, Hg2.out⟩
          case measure => simp [intOf]; omega
    · have H : Hid (touchB a b = false) := Lib.hid (by have := hin.out; rw [List.take_of_length_le (by omega)] at this; rw [touchB_eq]; exact this)
      go_wp2
      go_ret
      exact ⟨ret_bool H.out.symm, hgr⟩

theorem isSpans_grown {w w' : World} {v : Value} {l : List Sp} (h : IsSpans w v l) (hg : Grown w w') : IsSpans w' v l := h.below (hg.below (Nat.le_refl _))
set_option maxRecDepth 100000 in
set_option maxHeartbeats 2000000 in
theorem disturbs_w (m o : Ms) (w : World) (hz : SizeM m) (hy : SizeM o) : Calls Tryz.prog 100 #[msgV m, msgV o] w fun e w' => e = .returned (.bool (distB m o)) ∧ Grown w w' := by
  have W1 := Lib.hid (fun wx => writes_w m wx hz)
  have R2 := Lib.hid (fun wx => reads_w o wx hy)
  have W2 := Lib.hid (fun wx => writes_w o wx hy)
  have H : Hid (distB m o = (touchB (writesS m) (readsS o) || touchB (writesS m) (writesS o))) := Lib.hid rfl
  have B2 : Hid (MBlk ((w.alloc (.cells (encM m) 47)).alloc (.cells (encM o) 47)) (w.heap.size + 1) o) := Lib.hid (Blk.new' _ _ _ (by simp))
  clear hz hy
  generalize writesS m = A at *
  generalize writesS o = B at *
  generalize readsS o = C at *
  generalize distB m o = r at *
  go_enter Tryz.func100, Tryz.ntmps100
  go_wp2_with fail
  refine (W1.out _).mono ?_
  rintro e w1 ⟨v1, rfl, p1, g1⟩
  have G1 : Hid (Grown w w1) := Lib.hid ((((Grown.refl w).alloc _).alloc _).trans g1)
  have P1 := Lib.hid p1
  have B3 := Lib.hid (Grown.blk g1 B2.out)
  obtain ⟨d0, d1, d2, d3, d4, d5, d6, d7⟩ := MBlk.plain B3.out
  clear p1 g1 W1 B2
  go_wp2_with fail
  refine (R2.out _).mono ?_
  rintro e w2 ⟨v2, rfl, p2, g2⟩
  have G2 : Hid (Grown w w2) := Lib.hid (G1.out.trans g2)
  have P2 := Lib.hid p2
  have P1b := Lib.hid (isSpans_grown P1.out g2)
  have B4 := Lib.hid (Grown.blk g2 B3.out)
  clear p2 g2 R2 B3 d0 d1 d2 d3 d4 d5 d6 d7 P1
  cases ht : touchB A C with
  | true =>
    rw [ht] at H
    have HT := Lib.hid ht
    clear ht
    go_wp2_with fail
    refine (meets_w _ _ A C _ P1b.out P2.out).mono ?_
    rw [HT.out]
    rintro e w3 ⟨rfl, g3⟩
    have G3 : Hid (Grown w w3) := Lib.hid (G2.out.trans g3)
    clear g3
    go_wp2
    go_ret
    exact ⟨ret_bool (by rw [H.out]; rfl), G3.out⟩
  | false =>
    rw [ht] at H
    have HT := Lib.hid ht
    clear ht
    go_wp2_with fail
    refine (meets_w _ _ A C _ P1b.out P2.out).mono ?_
    rw [HT.out]
    rintro e w3 ⟨rfl, g3⟩
    have G3 : Hid (Grown w w3) := Lib.hid (G2.out.trans g3)
    have P1c := Lib.hid (isSpans_grown P1b.out g3)
    have B5 := Lib.hid (Grown.blk g3 B4.out)
    obtain ⟨d0, d1, d2, d3, d4, d5, d6, d7⟩ := MBlk.plain B5.out
    clear g3
    go_wp2_with fail
    refine (W2.out _).mono ?_
    rintro e w4 ⟨v4, rfl, p4, g4⟩
    have G4 : Hid (Grown w w4) := Lib.hid (G3.out.trans g4)
    have P4 := Lib.hid p4
    have P1d := Lib.hid (isSpans_grown P1c.out g4)
    clear p4 g4 d0 d1 d2 d3 d4 d5 d6 d7
    go_wp2_with fail
    refine (meets_w _ _ A B _ P1d.out P4.out).mono ?_
    rintro e w5 ⟨rfl, g5⟩
    have G5 : Hid (Grown w w5) := Lib.hid (G4.out.trans g5)
    clear g5
    go_wp2
    go_ret
    exact ⟨ret_bool (by rw [H.out]; rfl), G5.out⟩
set_option maxRecDepth 100000 in
set_option maxHeartbeats 2000000 in
theorem free_w (m o : Ms) (w : World) (hz : SizeM m) (hy : SizeM o) : Calls Tryz.prog 74 #[msgV m, msgV o] w fun e w' => e = .returned (.bool (freeB m o)) ∧ Grown w w' := by
  have D1 := Lib.hid (fun wx => disturbs_w m o wx hz hy)
  have D2 := Lib.hid (fun wx => disturbs_w o m wx hy hz)
  have H : Hid (freeB m o = (!distB m o && !distB o m)) := Lib.hid rfl
  have B1 : Hid (MBlk ((w.alloc (.cells (encM m) 47)).alloc (.cells (encM o) 47)) w.heap.size m) := Lib.hid ((Blk.new _ _ _).alloc _)
  have B2 : Hid (MBlk ((w.alloc (.cells (encM m) 47)).alloc (.cells (encM o) 47)) (w.heap.size + 1) o) := Lib.hid (Blk.new' _ _ _ (by simp))
  clear hz hy
  generalize freeB m o = r at *
  cases hd : distB m o with
  | true =>
    rw [hd] at D1 H
    clear hd
    go_enter Tryz.func74, Tryz.ntmps74
    go_wp2_with fail
    refine (D1.out _).mono ?_
    rintro e w1 ⟨rfl, g1⟩
    have G1 : Hid (Grown w w1) := Lib.hid ((((Grown.refl w).alloc _).alloc _).trans g1)
    clear g1
    go_wp2
    go_ret
    exact ⟨ret_bool (by rw [H.out]; rfl), G1.out⟩
  | false =>
    rw [hd] at D1 H
    clear hd
    go_enter Tryz.func74, Tryz.ntmps74
    go_wp2_with fail
    refine (D1.out _).mono ?_
    rintro e w1 ⟨rfl, g1⟩
    have G1 : Hid (Grown w w1) := Lib.hid ((((Grown.refl w).alloc _).alloc _).trans g1)
    have B3 := Lib.hid (Grown.blk g1 B1.out)
    have B4 := Lib.hid (Grown.blk g1 B2.out)
    obtain ⟨c0, c1, c2, c3, c4, c5, c6, c7⟩ := MBlk.plain B3.out
    obtain ⟨d0, d1, d2, d3, d4, d5, d6, d7⟩ := MBlk.plain B4.out
    clear g1
    go_wp2_with fail
    refine (D2.out _).mono ?_
    rintro e w2 ⟨rfl, g2⟩
    have G2 : Hid (Grown w w2) := Lib.hid (G1.out.trans g2)
    clear g2 c0 c1 c2 c3 c4 c5 c6 c7 d0 d1 d2 d3 d4 d5 d6 d7
    go_wp2
    go_ret
    exact ⟨ret_bool (by rw [H.out]; rfl), G2.out⟩

end Go.Proofs.YtaafckefeejjpaaGreat
