/-
  Walks of package route: the part of a message for a span.
-/
import Derived.Test.YtjncehkldhkobaaGreatRR
namespace Go.Proofs.YtjncehkldhkobaaGreat
open Go.RowKit Go.Sort
set_option linter.unusedVariables false

/-- A list of messages handed back. -/
def MsR (w : World) (l : List Ms) (e : Ending) (w' : World) : Prop := ∃ v', e = .returned v' ∧ IsMsgs w' v' l ∧ Grown w w'
theorem no_msgs (w : World) : IsMsgs w (.slice none 0 0) [] := ⟨none, 0, rfl, Nat.le_refl _, Nat.zero_le _, fun h => absurd rfl h⟩

set_option maxRecDepth 100000 in
set_option maxHeartbeats 4000000 in
theorem part_w (m : Ms) (s : Sp) (w : World) (hz : SizeM m) :
    Calls Tryz.prog 23 #[msgV m, strS s] w (MsR w (partR m s)) := by
  have mixed := mixedA
  have hsp := fun wx => hasSp_w m wx
  have hwr := fun wx => writes_w m wx hz
  have hmt := fun wx => meet_w (m.lo, m.hi) s wx
  obtain ⟨W0, hW0⟩ : ∃ W0, W0 = (w.alloc (.cells (encM m) 40)).alloc (.cells #[.string (Str s.1), .string (Str s.2)] 38) := ⟨_, rfl⟩
  have hg0 : Grown w W0 := by rw [hW0]; exact ((Grown.refl w).alloc _).alloc _
  have b1 : Blk W0 w.heap.size 40 (encM m) := by rw [hW0]; exact (Blk.new _ _ _).alloc _
  have b2 : Blk W0 (w.heap.size + 1) 38 #[.string (Str s.1), .string (Str s.2)] := by rw [hW0]; exact Blk.new' _ _ _ (by simp)
  have hct := fun v wx (h : IsSpans wx v (writesS m)) (hg : Grown W0 wx) => containsP_w v (writesS m) (w.heap.size + 1) s wx h ⟨(hg.blk b2).c0 0 _ rfl, (hg.blk b2).c0 1 _ rfl⟩
  have em : ((writesS m).any fun x => !emptyB (meetS x s)) = meetB s (writesS m) := rfl
  simp only [em] at hct
  have hP : partR m s = if meetB s (writesS m) then [onlyS m s] else [] := rfl
  rw [hP]
  have hO : onlyS m s = if hasSpB m then setSp m (meetS (m.lo, m.hi) s) else m := rfl
  rw [hO]
  generalize meetB s (writesS m) = mb at *
  generalize writesS m = Wr at *
  generalize meetS (m.lo, m.hi) s = y at *
  generalize hasSpB m = hb at *
  have HSP := Lib.hid hsp
  have HWR := Lib.hid hwr
  have HMT := Lib.hid hmt
  have HCT := Lib.hid hct
  have HG0 := Lib.hid hg0
  have HB1 := Lib.hid b1
  have HB2 := Lib.hid b2
  have HW0 := Lib.hid hW0
  clear hsp hwr hmt hct hg0 em hP hO b1 b2 hW0
  simp only [strS] at HMT ⊢
  cases mb with
  | false =>
    rw [if_neg (by simp)]
    go_enter Tryz.func23, Tryz.ntmps23
    go_wp2_with (first
      | (go_at_call 58; rw [← HW0.out]; (refine (HWR.out _).mono ?_); rintro e w2 ⟨v2, rfl, hp2, hg2⟩; have HP2 := Lib.hid hp2; have HG2 : Hid (Grown W0 w2) := Lib.hid hg2; clear hp2 hg2)
      | (go_at_call 57; (refine (HCT.out _ _ HP2.out HG2.out).mono ?_); rintro e w3 ⟨rfl, hg3⟩; have HG3 := Lib.hid hg3; clear hg3))
    go_ret
    exact ⟨_, rfl, no_msgs _, (HG0.out.trans HG2.out).trans HG3.out⟩
  | true =>
    rw [if_pos rfl]
    cases hb with
    | false =>
      rw [if_neg (by simp)]
      go_enter Tryz.func23, Tryz.ntmps23
      go_wp2_with (first
        | (go_at_call 58; rw [← HW0.out]; (refine (HWR.out _).mono ?_); rintro e w2 ⟨v2, rfl, hp2, hg2⟩; have HP2 := Lib.hid hp2; have HG2 : Hid (Grown W0 w2) := Lib.hid hg2; clear hp2 hg2)
        | (go_at_call 57; (refine (HCT.out _ _ HP2.out HG2.out).mono ?_); rintro e w3 ⟨rfl, hg3⟩; have HG3 : Hid (Grown W0 w3) := Lib.hid (HG2.out.trans hg3); clear hg3; have hb3 := HG3.out.blk HB1.out; have c0 := hb3.c0 0 _ rfl; have c1 := hb3.c0 1 _ rfl; have c2 := hb3.c0 2 _ rfl; have c3 := hb3.c0 3 _ rfl; have c4 := hb3.c0 4 _ rfl; have c5 := hb3.c0 5 _ rfl; have c6 := hb3.c0 6 _ rfl; have c7 := hb3.c0 7 _ rfl; clear hb3)
        | (go_at_call 59; (refine (HSP.out _).mono ?_); rintro e w4 ⟨rfl, hg4⟩; have HG4 : Hid (Grown W0 w4) := Lib.hid (HG3.out.trans hg4); clear hg4; have hb3 := HG4.out.blk HB1.out; have d0 := hb3.c0 0 _ rfl; have d1 := hb3.c0 1 _ rfl; have d2 := hb3.c0 2 _ rfl; have d3 := hb3.c0 3 _ rfl; have d4 := hb3.c0 4 _ rfl; have d5 := hb3.c0 5 _ rfl; have d6 := hb3.c0 6 _ rfl; have d7 := hb3.c0 7 _ rfl; clear hb3))
      go_ret
      exact ⟨_, rfl, one_msgs m _ (by first | rfl | simp), (HG0.out.trans HG4.out).alloc _⟩
    | true =>
      rw [if_pos rfl]
      go_enter Tryz.func23, Tryz.ntmps23
      go_wp2_with (first
        | (go_at_call 58; rw [← HW0.out]; (refine (HWR.out _).mono ?_); rintro e w2 ⟨v2, rfl, hp2, hg2⟩; have HP2 := Lib.hid hp2; have HG2 : Hid (Grown W0 w2) := Lib.hid hg2; clear hp2 hg2)
        | (go_at_call 57; (refine (HCT.out _ _ HP2.out HG2.out).mono ?_); rintro e w3 ⟨rfl, hg3⟩; have HG3 : Hid (Grown W0 w3) := Lib.hid (HG2.out.trans hg3); clear hg3; have hb3 := HG3.out.blk HB1.out; have c0 := hb3.c0 0 _ rfl; have c1 := hb3.c0 1 _ rfl; have c2 := hb3.c0 2 _ rfl; have c3 := hb3.c0 3 _ rfl; have c4 := hb3.c0 4 _ rfl; have c5 := hb3.c0 5 _ rfl; have c6 := hb3.c0 6 _ rfl; have c7 := hb3.c0 7 _ rfl; clear hb3)
        | (go_at_call 59; (refine (HSP.out _).mono ?_); rintro e w4 ⟨rfl, hg4⟩; have HG4 : Hid (Grown W0 w4) := Lib.hid (HG3.out.trans hg4); clear hg4; have hb3 := HG4.out.blk HB1.out; have hb4 := HG4.out.blk HB2.out; have d3 := hb3.c0 3 _ rfl; have d4 := hb3.c0 4 _ rfl; have e0 := hb4.c0 0 _ rfl; have e1 := hb4.c0 1 _ rfl; clear hb3 hb4)
        | (go_at_call 56; (refine (HMT.out _).mono ?_); rintro e w5 ⟨rfl, hg5⟩; have HG5 : Hid (Grown W0 w5) := Lib.hid (HG4.out.trans hg5); clear hg5; have hb5 := HG5.out.blk HB1.out; have f3 := hb5.c0 3 _ rfl; have f4 := hb5.c0 4 _ rfl; have g3 := hb5.free 3; have g4 := hb5.free 4; have hb6 : Blk ((w5.setCell ⟨w.heap.size, 3, none⟩ (.string (Str y.1))).setCell ⟨w.heap.size, 4, none⟩ (.string (Str y.2))) w.heap.size 40 (encM (setSp m y)) := (hb5.setCell 3 _).setCell 4 _; have h0 := hb6.c0 0 _ rfl; have h1 := hb6.c0 1 _ rfl; have h2 := hb6.c0 2 _ rfl; have h3 := hb6.c0 3 _ rfl; have h4 := hb6.c0 4 _ rfl; have h5 := hb6.c0 5 _ rfl; have h6 := hb6.c0 6 _ rfl; have h7 := hb6.c0 7 _ rfl; clear hb6 hb5))
      go_ret
      exact ⟨_, rfl, one_msgs (setSp m y) _ (by first | rfl | simp), (((HG0.out.trans HG5.out).setCell _ _ _ (Nat.le_refl _)).setCell _ _ _ (Nat.le_refl _)).alloc _⟩

end Go.Proofs.YtjncehkldhkobaaGreat
