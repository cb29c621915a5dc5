/-
  Walks: what is known of a key, followed back through a Drop and through a Stamp.
-/
import Derived.Test.YthncnijkgkeohaaGreatHQ
namespace Go.Proofs.YthncnijkgkeohaaGreat
open Go.RowKit Go.Sort
set_option linter.unusedVariables false

theorem grown_drew {w w' : World} (h : Grown w.drew w') : Grown w w' := Grown.trans ⟨1, #[], rfl⟩ h

/-- What a function that looks at a message has laid: the message, what is known, and room for the result. -/
@[reducible] def lookW (m : Ms) (f : Fd) (w : World) : World := ((w.alloc (.cells (encM m) 63)).alloc (.cells (encF f) 35)).alloc (.cells #[.bool false, .bool false, .string ⟨#[]⟩, .string ⟨#[]⟩, .int .i64 0, .string ⟨#[]⟩, .bool false, .int .i64 0] 35)
theorem lookW_grown (m : Ms) (f : Fd) (w : World) : Grown w (lookW m f w) := (((Grown.refl w).alloc _).alloc _).alloc _
theorem lookW_known (m : Ms) (f : Fd) (w : World) : Blk (lookW m f w) (w.heap.size + 1) 35 (encF f) := (Blk.new' _ _ _ (by simp)).alloc _
theorem lookW_room (m : Ms) (f : Fd) (w : World) : Blk (lookW m f w) (w.heap.size + 1 + 1) 35 #[.bool false, .bool false, .string ⟨#[]⟩, .string ⟨#[]⟩, .int .i64 0, .string ⟨#[]⟩, .bool false, .int .i64 0] := Blk.new' _ _ _ (by simp)
set_option maxHeartbeats 1000000 in
theorem look4_w (m : Ms) (f : Fd) (w : World) : Calls Tryz.prog 87 #[msgV m, fdV f] w fun e w' => e = .returned (fdV (endF (hasB (m.lo, m.hi) f.key) f)) ∧ Grown w w' := by
  have HH := Lib.hid (fun wx => has_w m.lo m.hi f.key wx)
  have HE := Lib.hid (fun wx => endIf_w (hasB (m.lo, m.hi) f.key) f wx)
  have HK := Lib.hid (lookW_known m f w)
  have HR := Lib.hid (lookW_room m f w)
  have HW := Lib.hid (lookW_grown m f w)
  generalize hasB (m.lo, m.hi) f.key = bb at *
  generalize endF bb f = g at *
  obtain ⟨g1, g2, ⟨g3, g4, g5⟩, g6, g7, g8⟩ := g
  obtain ⟨f1, f2, ⟨f3, f4, f5⟩, f6, f7, f8⟩ := f
  obtain ⟨k, m1, m2, m3, m4, m5, m6, m7⟩ := m
  dsimp only at HE HH ⊢
  go_enter Tryz.func87, Tryz.ntmps87
  go_wp2_with fail
  go_region_with (first
    | (go_at_call 88; refine (HH.out _).mono ?_; rintro e w1 ⟨rfl, hg1⟩; have HG1 : Hid (Grown _ w1) := Lib.hid (grown_drew hg1); obtain ⟨a0, a1, a2, a3, a4, a5, a6, a7⟩ := (HG1.out.blk HK.out).eightC; have HR1 := Lib.hid (HG1.out.blk HR.out); clear hg1)
    | (go_at_call 86; refine (HE.out _).mono ?_; rintro e w2 ⟨rfl, hg2⟩; have HG2 := Lib.hid hg2; obtain ⟨c0, c1, c2, c3, c4, c5, c6, c7⟩ := (hg2.blk HR1.out).eightC; obtain ⟨e0, e1, e2, e3, e4, e5, e6, e7⟩ := (hg2.blk HR1.out).eightF; clear hg2))
  all_goals go_wp2
  all_goals
    refine bodyPost_ret (v := fdV ⟨g1, g2, (g3, g4, g5), g6, g7, g8⟩) (by simp [results, Tryz.results87, go_sem, c0, c1, c2, c3, c4, c5, c6, c7]; try rfl) rfl ⟨rfl, ?_⟩
    repeat (with_reducible refine Grown.setCell ?_ _ _ _ (by omega))
    exact HW.out.trans (HG1.out.trans HG2.out)
set_option maxHeartbeats 1000000 in
theorem look6_w (m : Ms) (f : Fd) (w : World) : Calls Tryz.prog 91 #[msgV m, fdV f] w fun e w' => e = .returned (fdV (if !f.stamped && hasB (m.lo, m.hi) f.key then { f with stamped := true, stamp := m.n } else f)) ∧ Grown w w' := by
  have HH := Lib.hid (fun wx => has_w m.lo m.hi f.key wx)
  have HK := Lib.hid (lookW_known m f w)
  have HR := Lib.hid (lookW_room m f w)
  have HM : Hid (Blk (lookW m f w) w.heap.size 63 (encM m)) := Lib.hid (((Blk.new _ _ _).alloc _).alloc _)
  have HW := Lib.hid (lookW_grown m f w)
  obtain ⟨f1, f2, ⟨f3, f4, f5⟩, f6, f7, f8⟩ := f
  obtain ⟨k, m1, m2, m3, m4, m5, m6, m7⟩ := m
  dsimp only at HH ⊢
  generalize hasB (m3, m4) f6 = bb at *
  cases f7
  · cases bb
    · go_enter Tryz.func91, Tryz.ntmps91
      go_wp2_with (go_at_call 88; refine (HH.out _).mono ?_; rintro e w2 ⟨rfl, hg2⟩; have HG2 := Lib.hid hg2; obtain ⟨a0, a1, a2, a3, a4, a5, a6, a7⟩ := (hg2.blk HK.out).eightC; obtain ⟨c0, c1, c2, c3, c4, c5, c6, c7⟩ := (hg2.blk HR.out).eightC; obtain ⟨e0, e1, e2, e3, e4, e5, e6, e7⟩ := (hg2.blk HR.out).eightF; clear hg2)
      refine bodyPost_ret (v := fdV ⟨f1, f2, (f3, f4, f5), f6, false, f8⟩) (by simp [results, Tryz.results91, go_sem, c0, c1, c2, c3, c4, c5, c6, c7]; try rfl) rfl ⟨rfl, ?_⟩
      repeat (with_reducible refine Grown.setCell ?_ _ _ _ (by omega))
      exact HW.out.trans HG2.out
    · go_enter Tryz.func91, Tryz.ntmps91
      go_wp2_with (go_at_call 88; refine (HH.out _).mono ?_; rintro e w2 ⟨rfl, hg2⟩; have HG2 := Lib.hid hg2; obtain ⟨a0, a1, a2, a3, a4, a5, a6, a7⟩ := (hg2.blk HK.out).eightC; obtain ⟨b0, b1, b2, b3, b4, b5, b6, b7⟩ := (hg2.blk HK.out).eightF; obtain ⟨c0, c1, c2, c3, c4, c5, c6, c7⟩ := (hg2.blk HR.out).eightC; obtain ⟨e0, e1, e2, e3, e4, e5, e6, e7⟩ := (hg2.blk HR.out).eightF; obtain ⟨d0, d1, d2, d3, d4, d5, d6, d7⟩ := (hg2.blk HM.out).eightC; clear d0 d1 d2 d3 d4 d5 d6 hg2)
      go_region
      all_goals go_wp2
      all_goals
        refine bodyPost_ret (v := fdV ⟨f1, f2, (f3, f4, f5), f6, true, m7⟩) (by simp [results, Tryz.results91, go_sem, c0, c1, c2, c3, c4, c5, c6, c7]; try rfl) rfl ⟨rfl, ?_⟩
        repeat (first | with_reducible refine Grown.setCell ?_ _ _ _ (by omega) | with_reducible refine Grown.draw ?_)
        exact HW.out.trans HG2.out
  · go_enter Tryz.func91, Tryz.ntmps91
    go_wp2
    refine bodyPost_ret (v := fdV ⟨f1, f2, (f3, f4, f5), f6, true, f8⟩) (by simp [results, Tryz.results91, go_sem]; try rfl) rfl ⟨rfl, ?_⟩
    repeat (first | exact Grown.refl _ | refine Grown.setCell ?_ _ _ _ (by simp) | refine Grown.alloc ?_ _ | refine Grown.draw ?_)

end Go.Proofs.YthncnijkgkeohaaGreat
