/-
  Walks: what is known of a key, followed back through any message.
-/
import Derived.Test.YthncnijkgkeohaaGreatHQ3
namespace Go.Proofs.YthncnijkgkeohaaGreat
open Go.RowKit Go.Sort
set_option linter.unusedVariables false

/-- The functions that look at messages, by their kinds. -/
@[reducible] def looksV (b : Nat) : Value := .agg #[.nilFunc, .func (.func 84) #[] #[], .func (.func 85) #[] #[], .func (.func 87) #[] #[], .func (.func 89) #[] #[.pointer (some ⟨b, 0, none⟩)], fn1V, .func (.func 91) #[] #[]]
/-- What the choice of such a function has laid. -/
@[reducible] def befW (b : Nat) (m : Ms) (f : Fd) (w : World) : World := (((w.alloc (.cells #[.nilFunc, .func (.func 84) #[] #[], .func (.func 85) #[] #[], .func (.func 87) #[] #[], .func (.func 89) #[] #[.pointer (some ⟨b, 0, none⟩)], fn1V, .func (.func 91) #[] #[]] 85)).alloc (.cells (encM m) 63)).alloc (.cells (encF f) 35)).alloc (.cells #[.bool false, .bool false, .string ⟨#[]⟩, .string ⟨#[]⟩, .int .i64 0, .string ⟨#[]⟩, .bool false, .int .i64 0] 35)
theorem befW_grown (b : Nat) (m : Ms) (f : Fd) (w : World) : Grown w (befW b m f w) := ((((Grown.refl w).alloc _).alloc _).alloc _).alloc _
theorem befW_looks (b : Nat) (m : Ms) (f : Fd) (w : World) : Blk (befW b m f w) w.heap.size 85 #[.nilFunc, .func (.func 84) #[] #[], .func (.func 85) #[] #[], .func (.func 87) #[] #[], .func (.func 89) #[] #[.pointer (some ⟨b, 0, none⟩)], fn1V, .func (.func 91) #[] #[]] := (((Blk.new _ _ _).alloc _).alloc _).alloc _
theorem befW_msg (b : Nat) (m : Ms) (f : Fd) (w : World) : Blk (befW b m f w) (w.heap.size + 1) 63 (encM m) := ((Blk.new' _ _ _ (by simp)).alloc _).alloc _
theorem befW_known (b : Nat) (m : Ms) (f : Fd) (w : World) : Blk (befW b m f w) (w.heap.size + 1 + 1) 35 (encF f) := (Blk.new' _ _ _ (by simp)).alloc _
theorem befW_room (b : Nat) (m : Ms) (f : Fd) (w : World) : Blk (befW b m f w) (w.heap.size + 1 + 1 + 1) 35 #[.bool false, .bool false, .string ⟨#[]⟩, .string ⟨#[]⟩, .int .i64 0, .string ⟨#[]⟩, .bool false, .int .i64 0] := Blk.new' _ _ _ (by simp)
/-- What the choice keeps. -/
structure BefS (b : Nat) (m : Ms) (f : Fd) (w wx : World) : Prop where
  looks : Blk wx w.heap.size 85 #[.nilFunc, .func (.func 84) #[] #[], .func (.func 85) #[] #[], .func (.func 87) #[] #[], .func (.func 89) #[] #[.pointer (some ⟨b, 0, none⟩)], fn1V, .func (.func 91) #[] #[]]
  msg : Blk wx (w.heap.size + 1) 63 (encM m)
  known : Blk wx (w.heap.size + 1 + 1) 35 (encF f)
  gr : Grown w wx
theorem BefS.init (b : Nat) (m : Ms) (f : Fd) (w : World) : BefS b m f w (befW b m f w) := ⟨befW_looks b m f w, befW_msg b m f w, befW_known b m f w, befW_grown b m f w⟩
theorem BefS.draw {b : Nat} {m : Ms} {f : Fd} {w wx : World} (h : BefS b m f w wx) : BefS b m f w wx.drew := ⟨h.looks, h.msg, h.known, h.gr.draw⟩
theorem BefS.grown {b : Nat} {m : Ms} {f : Fd} {w wx wy : World} (h : BefS b m f w wx) (hg : Grown wx wy) : BefS b m f w wy := ⟨hg.blk h.looks, hg.blk h.msg, hg.blk h.known, h.gr.trans hg⟩
theorem BefS.room {b : Nat} {m : Ms} {f : Fd} {w wx : World} (h : BefS b m f w wx) (i : Nat) (v : Value) : BefS b m f w (wx.setCell ⟨w.heap.size + 1 + 1 + 1, i, none⟩ v) :=
  ⟨h.looks.setCell_other (by omega) i v, h.msg.setCell_other (by omega) i v, h.known.setCell_other (by omega) i v, h.gr.setCell _ _ _ (by omega)⟩
theorem BefS.msg8 {b : Nat} {m : Ms} {f : Fd} {w : World} : (∀ wr, BefS b m f w wr → wr.cell? ⟨w.heap.size + 1, 0, none⟩ = some (.int .i64 m.kind)) ∧ (∀ wr, BefS b m f w wr → wr.cell? ⟨w.heap.size + 1, 1, none⟩ = some (.string (Str m.key))) ∧ (∀ wr, BefS b m f w wr → wr.cell? ⟨w.heap.size + 1, 2, none⟩ = some (.string (Str m.val))) ∧ (∀ wr, BefS b m f w wr → wr.cell? ⟨w.heap.size + 1, 3, none⟩ = some (.string (Str m.lo))) ∧
    (∀ wr, BefS b m f w wr → wr.cell? ⟨w.heap.size + 1, 4, none⟩ = some (.string (Str m.hi))) ∧ (∀ wr, BefS b m f w wr → wr.cell? ⟨w.heap.size + 1, 5, none⟩ = some (.string (Str m.src))) ∧ (∀ wr, BefS b m f w wr → wr.cell? ⟨w.heap.size + 1, 6, none⟩ = some (.string (Str m.dst))) ∧ (∀ wr, BefS b m f w wr → wr.cell? ⟨w.heap.size + 1, 7, none⟩ = some (.int .i64 m.n)) :=
  ⟨fun _ h => h.msg.c0 0 _ rfl, fun _ h => h.msg.c0 1 _ rfl, fun _ h => h.msg.c0 2 _ rfl, fun _ h => h.msg.c0 3 _ rfl, fun _ h => h.msg.c0 4 _ rfl, fun _ h => h.msg.c0 5 _ rfl, fun _ h => h.msg.c0 6 _ rfl, fun _ h => h.msg.c0 7 _ rfl⟩
theorem BefS.known8 {b : Nat} {m : Ms} {f : Fd} {w : World} : (∀ wr, BefS b m f w wr → wr.cell? ⟨w.heap.size + 1 + 1, 0, none⟩ = some (.bool f.known)) ∧ (∀ wr, BefS b m f w wr → wr.cell? ⟨w.heap.size + 1 + 1, 1, none⟩ = some (.bool f.has)) ∧ (∀ wr, BefS b m f w wr → wr.cell? ⟨w.heap.size + 1 + 1, 2, none⟩ = some (.string (Str f.pair.1))) ∧ (∀ wr, BefS b m f w wr → wr.cell? ⟨w.heap.size + 1 + 1, 3, none⟩ = some (.string (Str f.pair.2.1))) ∧
    (∀ wr, BefS b m f w wr → wr.cell? ⟨w.heap.size + 1 + 1, 4, none⟩ = some (.int .i64 f.pair.2.2)) ∧ (∀ wr, BefS b m f w wr → wr.cell? ⟨w.heap.size + 1 + 1, 5, none⟩ = some (.string (Str f.key))) ∧ (∀ wr, BefS b m f w wr → wr.cell? ⟨w.heap.size + 1 + 1, 6, none⟩ = some (.bool f.stamped)) ∧ (∀ wr, BefS b m f w wr → wr.cell? ⟨w.heap.size + 1 + 1, 7, none⟩ = some (.int .i64 f.stamp)) :=
  ⟨fun _ h => h.known.c0 0 _ rfl, fun _ h => h.known.c0 1 _ rfl, fun _ h => h.known.c0 2 _ rfl, fun _ h => h.known.c0 3 _ rfl, fun _ h => h.known.c0 4 _ rfl, fun _ h => h.known.c0 5 _ rfl, fun _ h => h.known.c0 6 _ rfl, fun _ h => h.known.c0 7 _ rfl⟩
set_option maxHeartbeats 1000000 in
theorem fbefore1_w (b : Nat) (m : Ms) (f : Fd) (w : World) (hk : m.kind = 1) (g : Fd) (HC : ∀ wx, Grown w wx → Calls Tryz.prog 84 #[msgV m, fdV f] wx fun e w' => e = .returned (fdV g) ∧ Grown wx w') :
    Calls Tryz.prog 46 #[looksV b, msgV m, fdV f] w fun e w' => e = .returned (fdV g) ∧ Grown w w' := by
  have HC := Lib.hid (fun wx (h : Grown (befW b m f w).drew wx) => HC wx ((befW_grown b m f w).trans (grown_drew h)))
  have HC0 := Lib.hid (HC.out _ (Grown.refl _))
  clear HC
  have HL := Lib.hid (fun wr (h : BefS b m f w wr) => h.looks.c0 1 _ rfl)
  obtain ⟨n0, n1, n2, n3, n4, n5, n6, n7⟩ := (BefS.msg8 (b := b) (m := m) (f := f) (w := w))
  obtain ⟨a0, a1, a2, a3, a4, a5, a6, a7⟩ := (BefS.known8 (b := b) (m := m) (f := f) (w := w))
  have HR := Lib.hid (befW_room b m f w)
  have HW := Lib.hid (befW_grown b m f w)
  have HS0 := Lib.hid (BefS.init b m f w)
  have hl := HL.out
  clear HL
  obtain ⟨f1, f2, ⟨f3, f4, f5⟩, f6, f7, f8⟩ := f
  obtain ⟨k, m1, m2, m3, m4, m5, m6, m7⟩ := m
  obtain ⟨g1, g2, ⟨g3, g4, g5⟩, g6, g7, g8⟩ := g
  have eg : ∀ args w, (callFunc 84 args).run Tryz.prog w = .ok (.enter 84 args) w := enters_of Tryz.func84 (by kernel_rfl) rfl
  dsimp only at hk
  subst hk
  dsimp only at n0 n1 n2 n3 n4 n5 n6 n7 a0 a1 a2 a3 a4 a5 a6 a7 hl
  go_enter Tryz.func46, Tryz.ntmps46
  go_wp2_with fail
  go_region_held3 (fun wx => BefS b ⟨1, m1, m2, m3, m4, m5, m6, m7⟩ ⟨f1, f2, (f3, f4, f5), f6, f7, f8⟩ w wx)
    (repeat (first | with_reducible assumption | with_reducible exact HS0.out | with_reducible refine BefS.draw ?_ | with_reducible refine BefS.room ?_ _ _))
    (first
      | (go_at_call 84; refine HC0.out.mono ?_; rintro e w2 ⟨rfl, hg2⟩; have hg3 := grown_drew hg2; have hS2 := HS0.out.grown hg3; obtain ⟨c0, c1, c2, c3, c4, c5, c6, c7⟩ := (hg3.blk HR.out).eightC; obtain ⟨e0, e1, e2, e3, e4, e5, e6, e7⟩ := (hg3.blk HR.out).eightF; have HG2 := Lib.hid hg3)
      | fail "no arm")
  all_goals clear n0 n1 n2 n3 n4 n5 n6 n7 a0 a1 a2 a3 a4 a5 a6 a7 hl
  all_goals go_wp2
  all_goals
    refine bodyPost_ret (v := fdV ⟨g1, g2, (g3, g4, g5), g6, g7, g8⟩) (by simp [results, Tryz.results46, go_sem, c0, c1, c2, c3, c4, c5, c6, c7]; try rfl) rfl ⟨rfl, ?_⟩
    repeat (with_reducible refine Grown.setCell ?_ _ _ _ (by omega))
    exact HW.out.trans HG2.out
set_option maxHeartbeats 1000000 in
theorem fbefore2_w (b : Nat) (m : Ms) (f : Fd) (w : World) (hk : m.kind = 2) (g : Fd) (HC : ∀ wx, Grown w wx → Calls Tryz.prog 85 #[msgV m, fdV f] wx fun e w' => e = .returned (fdV g) ∧ Grown wx w') :
    Calls Tryz.prog 46 #[looksV b, msgV m, fdV f] w fun e w' => e = .returned (fdV g) ∧ Grown w w' := by
  have HC := Lib.hid (fun wx (h : Grown (befW b m f w).drew wx) => HC wx ((befW_grown b m f w).trans (grown_drew h)))
  have HC0 := Lib.hid (HC.out _ (Grown.refl _))
  clear HC
  have HL := Lib.hid (fun wr (h : BefS b m f w wr) => h.looks.c0 2 _ rfl)
  obtain ⟨n0, n1, n2, n3, n4, n5, n6, n7⟩ := (BefS.msg8 (b := b) (m := m) (f := f) (w := w))
  obtain ⟨a0, a1, a2, a3, a4, a5, a6, a7⟩ := (BefS.known8 (b := b) (m := m) (f := f) (w := w))
  have HR := Lib.hid (befW_room b m f w)
  have HW := Lib.hid (befW_grown b m f w)
  have HS0 := Lib.hid (BefS.init b m f w)
  have hl := HL.out
  clear HL
  obtain ⟨f1, f2, ⟨f3, f4, f5⟩, f6, f7, f8⟩ := f
  obtain ⟨k, m1, m2, m3, m4, m5, m6, m7⟩ := m
  obtain ⟨g1, g2, ⟨g3, g4, g5⟩, g6, g7, g8⟩ := g
  have eg : ∀ args w, (callFunc 85 args).run Tryz.prog w = .ok (.enter 85 args) w := enters_of Tryz.func85 (by kernel_rfl) rfl
  dsimp only at hk
  subst hk
  dsimp only at n0 n1 n2 n3 n4 n5 n6 n7 a0 a1 a2 a3 a4 a5 a6 a7 hl
  go_enter Tryz.func46, Tryz.ntmps46
  go_wp2_with fail
  go_region_held3 (fun wx => BefS b ⟨2, m1, m2, m3, m4, m5, m6, m7⟩ ⟨f1, f2, (f3, f4, f5), f6, f7, f8⟩ w wx)
    (repeat (first | with_reducible assumption | with_reducible exact HS0.out | with_reducible refine BefS.draw ?_ | with_reducible refine BefS.room ?_ _ _))
    (first
      | (go_at_call 85; refine HC0.out.mono ?_; rintro e w2 ⟨rfl, hg2⟩; have hg3 := grown_drew hg2; have hS2 := HS0.out.grown hg3; obtain ⟨c0, c1, c2, c3, c4, c5, c6, c7⟩ := (hg3.blk HR.out).eightC; obtain ⟨e0, e1, e2, e3, e4, e5, e6, e7⟩ := (hg3.blk HR.out).eightF; have HG2 := Lib.hid hg3)
      | fail "no arm")
  all_goals clear n0 n1 n2 n3 n4 n5 n6 n7 a0 a1 a2 a3 a4 a5 a6 a7 hl
  all_goals go_wp2
  all_goals
    refine bodyPost_ret (v := fdV ⟨g1, g2, (g3, g4, g5), g6, g7, g8⟩) (by simp [results, Tryz.results46, go_sem, c0, c1, c2, c3, c4, c5, c6, c7]; try rfl) rfl ⟨rfl, ?_⟩
    repeat (with_reducible refine Grown.setCell ?_ _ _ _ (by omega))
    exact HW.out.trans HG2.out
set_option maxHeartbeats 1000000 in
theorem fbefore3_w (b : Nat) (m : Ms) (f : Fd) (w : World) (hk : m.kind = 3) (g : Fd) (HC : ∀ wx, Grown w wx → Calls Tryz.prog 87 #[msgV m, fdV f] wx fun e w' => e = .returned (fdV g) ∧ Grown wx w') :
    Calls Tryz.prog 46 #[looksV b, msgV m, fdV f] w fun e w' => e = .returned (fdV g) ∧ Grown w w' := by
  have HC := Lib.hid (fun wx (h : Grown (befW b m f w).drew wx) => HC wx ((befW_grown b m f w).trans (grown_drew h)))
  have HC0 := Lib.hid (HC.out _ (Grown.refl _))
  clear HC
  have HL := Lib.hid (fun wr (h : BefS b m f w wr) => h.looks.c0 3 _ rfl)
  obtain ⟨n0, n1, n2, n3, n4, n5, n6, n7⟩ := (BefS.msg8 (b := b) (m := m) (f := f) (w := w))
  obtain ⟨a0, a1, a2, a3, a4, a5, a6, a7⟩ := (BefS.known8 (b := b) (m := m) (f := f) (w := w))
  have HR := Lib.hid (befW_room b m f w)
  have HW := Lib.hid (befW_grown b m f w)
  have HS0 := Lib.hid (BefS.init b m f w)
  have hl := HL.out
  clear HL
  obtain ⟨f1, f2, ⟨f3, f4, f5⟩, f6, f7, f8⟩ := f
  obtain ⟨k, m1, m2, m3, m4, m5, m6, m7⟩ := m
  obtain ⟨g1, g2, ⟨g3, g4, g5⟩, g6, g7, g8⟩ := g
  have eg : ∀ args w, (callFunc 87 args).run Tryz.prog w = .ok (.enter 87 args) w := enters_of Tryz.func87 (by kernel_rfl) rfl
  dsimp only at hk
  subst hk
  dsimp only at n0 n1 n2 n3 n4 n5 n6 n7 a0 a1 a2 a3 a4 a5 a6 a7 hl
  go_enter Tryz.func46, Tryz.ntmps46
  go_wp2_with fail
  go_region_held3 (fun wx => BefS b ⟨3, m1, m2, m3, m4, m5, m6, m7⟩ ⟨f1, f2, (f3, f4, f5), f6, f7, f8⟩ w wx)
    (repeat (first | with_reducible assumption | with_reducible exact HS0.out | with_reducible refine BefS.draw ?_ | with_reducible refine BefS.room ?_ _ _))
    (first
      | (go_at_call 87; refine HC0.out.mono ?_; rintro e w2 ⟨rfl, hg2⟩; have hg3 := grown_drew hg2; have hS2 := HS0.out.grown hg3; obtain ⟨c0, c1, c2, c3, c4, c5, c6, c7⟩ := (hg3.blk HR.out).eightC; obtain ⟨e0, e1, e2, e3, e4, e5, e6, e7⟩ := (hg3.blk HR.out).eightF; have HG2 := Lib.hid hg3)
      | fail "no arm")
  all_goals clear n0 n1 n2 n3 n4 n5 n6 n7 a0 a1 a2 a3 a4 a5 a6 a7 hl
  all_goals go_wp2
  all_goals
    refine bodyPost_ret (v := fdV ⟨g1, g2, (g3, g4, g5), g6, g7, g8⟩) (by simp [results, Tryz.results46, go_sem, c0, c1, c2, c3, c4, c5, c6, c7]; try rfl) rfl ⟨rfl, ?_⟩
    repeat (with_reducible refine Grown.setCell ?_ _ _ _ (by omega))
    exact HW.out.trans HG2.out
set_option maxHeartbeats 1000000 in
theorem fbefore4_w (b : Nat) (m : Ms) (f : Fd) (w : World) (hk : m.kind = 4) (g : Fd) (HC : ∀ wx, Grown w wx → Calls Tryz.prog 89 (#[msgV m, fdV f] ++ #[.pointer (some ⟨b, 0, none⟩)]) wx fun e w' => e = .returned (fdV g) ∧ Grown wx w') :
    Calls Tryz.prog 46 #[looksV b, msgV m, fdV f] w fun e w' => e = .returned (fdV g) ∧ Grown w w' := by
  have HC := Lib.hid (fun wx (h : Grown (befW b m f w).drew wx) => HC wx ((befW_grown b m f w).trans (grown_drew h)))
  have HC0 := Lib.hid (HC.out _ (Grown.refl _))
  clear HC
  have HL := Lib.hid (fun wr (h : BefS b m f w wr) => h.looks.c0 4 _ rfl)
  obtain ⟨n0, n1, n2, n3, n4, n5, n6, n7⟩ := (BefS.msg8 (b := b) (m := m) (f := f) (w := w))
  obtain ⟨a0, a1, a2, a3, a4, a5, a6, a7⟩ := (BefS.known8 (b := b) (m := m) (f := f) (w := w))
  have HR := Lib.hid (befW_room b m f w)
  have HW := Lib.hid (befW_grown b m f w)
  have HS0 := Lib.hid (BefS.init b m f w)
  have hl := HL.out
  clear HL
  obtain ⟨f1, f2, ⟨f3, f4, f5⟩, f6, f7, f8⟩ := f
  obtain ⟨k, m1, m2, m3, m4, m5, m6, m7⟩ := m
  obtain ⟨g1, g2, ⟨g3, g4, g5⟩, g6, g7, g8⟩ := g
  have eg : ∀ args w, (callFunc 89 args).run Tryz.prog w = .ok (.enter 89 args) w := enters_of Tryz.func89 (by kernel_rfl) rfl
  dsimp only at hk
  subst hk
  dsimp only at n0 n1 n2 n3 n4 n5 n6 n7 a0 a1 a2 a3 a4 a5 a6 a7 hl
  go_enter Tryz.func46, Tryz.ntmps46
  go_wp2_with fail
  go_region_held3 (fun wx => BefS b ⟨4, m1, m2, m3, m4, m5, m6, m7⟩ ⟨f1, f2, (f3, f4, f5), f6, f7, f8⟩ w wx)
    (repeat (first | with_reducible assumption | with_reducible exact HS0.out | with_reducible refine BefS.draw ?_ | with_reducible refine BefS.room ?_ _ _))
    (first
      | (go_at_call 89; refine HC0.out.mono ?_; rintro e w2 ⟨rfl, hg2⟩; have hg3 := grown_drew hg2; have hS2 := HS0.out.grown hg3; obtain ⟨c0, c1, c2, c3, c4, c5, c6, c7⟩ := (hg3.blk HR.out).eightC; obtain ⟨e0, e1, e2, e3, e4, e5, e6, e7⟩ := (hg3.blk HR.out).eightF; have HG2 := Lib.hid hg3)
      | fail "no arm")
  all_goals clear n0 n1 n2 n3 n4 n5 n6 n7 a0 a1 a2 a3 a4 a5 a6 a7 hl
  all_goals go_wp2
  all_goals
    refine bodyPost_ret (v := fdV ⟨g1, g2, (g3, g4, g5), g6, g7, g8⟩) (by simp [results, Tryz.results46, go_sem, c0, c1, c2, c3, c4, c5, c6, c7]; try rfl) rfl ⟨rfl, ?_⟩
    repeat (with_reducible refine Grown.setCell ?_ _ _ _ (by omega))
    exact HW.out.trans HG2.out
set_option maxHeartbeats 1000000 in
theorem fbefore5_w (b : Nat) (m : Ms) (f : Fd) (w : World) (hk : m.kind = 5) (g : Fd) (HC : ∀ wx, Grown w wx → Calls Tryz.prog 82 #[msgV m, fdV f] wx fun e w' => e = .returned (fdV g) ∧ Grown wx w') :
    Calls Tryz.prog 46 #[looksV b, msgV m, fdV f] w fun e w' => e = .returned (fdV g) ∧ Grown w w' := by
  have HC := Lib.hid (fun wx (h : Grown (befW b m f w).drew wx) => HC wx ((befW_grown b m f w).trans (grown_drew h)))
  have HC0 := Lib.hid (HC.out _ (Grown.refl _))
  clear HC
  have HL := Lib.hid (fun wr (h : BefS b m f w wr) => h.looks.c0 5 _ rfl)
  obtain ⟨n0, n1, n2, n3, n4, n5, n6, n7⟩ := (BefS.msg8 (b := b) (m := m) (f := f) (w := w))
  obtain ⟨a0, a1, a2, a3, a4, a5, a6, a7⟩ := (BefS.known8 (b := b) (m := m) (f := f) (w := w))
  have HR := Lib.hid (befW_room b m f w)
  have HW := Lib.hid (befW_grown b m f w)
  have HS0 := Lib.hid (BefS.init b m f w)
  have hl := HL.out
  clear HL
  obtain ⟨f1, f2, ⟨f3, f4, f5⟩, f6, f7, f8⟩ := f
  obtain ⟨k, m1, m2, m3, m4, m5, m6, m7⟩ := m
  obtain ⟨g1, g2, ⟨g3, g4, g5⟩, g6, g7, g8⟩ := g
  have eg : ∀ args w, (callFunc 82 args).run Tryz.prog w = .ok (.enter 82 args) w := enters_of Tryz.func82 (by kernel_rfl) rfl
  dsimp only at hk
  subst hk
  dsimp only at n0 n1 n2 n3 n4 n5 n6 n7 a0 a1 a2 a3 a4 a5 a6 a7 hl
  go_enter Tryz.func46, Tryz.ntmps46
  go_wp2_with fail
  go_region_held3 (fun wx => BefS b ⟨5, m1, m2, m3, m4, m5, m6, m7⟩ ⟨f1, f2, (f3, f4, f5), f6, f7, f8⟩ w wx)
    (repeat (first | with_reducible assumption | with_reducible exact HS0.out | with_reducible refine BefS.draw ?_ | with_reducible refine BefS.room ?_ _ _))
    (first
      | (go_at_call 82; refine HC0.out.mono ?_; rintro e w2 ⟨rfl, hg2⟩; have hg3 := grown_drew hg2; have hS2 := HS0.out.grown hg3; obtain ⟨c0, c1, c2, c3, c4, c5, c6, c7⟩ := (hg3.blk HR.out).eightC; obtain ⟨e0, e1, e2, e3, e4, e5, e6, e7⟩ := (hg3.blk HR.out).eightF; have HG2 := Lib.hid hg3)
      | fail "no arm")
  all_goals clear n0 n1 n2 n3 n4 n5 n6 n7 a0 a1 a2 a3 a4 a5 a6 a7 hl
  all_goals go_wp2
  all_goals
    refine bodyPost_ret (v := fdV ⟨g1, g2, (g3, g4, g5), g6, g7, g8⟩) (by simp [results, Tryz.results46, go_sem, c0, c1, c2, c3, c4, c5, c6, c7]; try rfl) rfl ⟨rfl, ?_⟩
    repeat (with_reducible refine Grown.setCell ?_ _ _ _ (by omega))
    exact HW.out.trans HG2.out
set_option maxHeartbeats 1000000 in
theorem fbefore6_w (b : Nat) (m : Ms) (f : Fd) (w : World) (hk : m.kind = 6) (g : Fd) (HC : ∀ wx, Grown w wx → Calls Tryz.prog 91 #[msgV m, fdV f] wx fun e w' => e = .returned (fdV g) ∧ Grown wx w') :
    Calls Tryz.prog 46 #[looksV b, msgV m, fdV f] w fun e w' => e = .returned (fdV g) ∧ Grown w w' := by
  have HC := Lib.hid (fun wx (h : Grown (befW b m f w).drew wx) => HC wx ((befW_grown b m f w).trans (grown_drew h)))
  have HC0 := Lib.hid (HC.out _ (Grown.refl _))
  clear HC
  have HL := Lib.hid (fun wr (h : BefS b m f w wr) => h.looks.c0 6 _ rfl)
  obtain ⟨n0, n1, n2, n3, n4, n5, n6, n7⟩ := (BefS.msg8 (b := b) (m := m) (f := f) (w := w))
  obtain ⟨a0, a1, a2, a3, a4, a5, a6, a7⟩ := (BefS.known8 (b := b) (m := m) (f := f) (w := w))
  have HR := Lib.hid (befW_room b m f w)
  have HW := Lib.hid (befW_grown b m f w)
  have HS0 := Lib.hid (BefS.init b m f w)
  have hl := HL.out
  clear HL
  obtain ⟨f1, f2, ⟨f3, f4, f5⟩, f6, f7, f8⟩ := f
  obtain ⟨k, m1, m2, m3, m4, m5, m6, m7⟩ := m
  obtain ⟨g1, g2, ⟨g3, g4, g5⟩, g6, g7, g8⟩ := g
  have eg : ∀ args w, (callFunc 91 args).run Tryz.prog w = .ok (.enter 91 args) w := enters_of Tryz.func91 (by kernel_rfl) rfl
  dsimp only at hk
  subst hk
  dsimp only at n0 n1 n2 n3 n4 n5 n6 n7 a0 a1 a2 a3 a4 a5 a6 a7 hl
  go_enter Tryz.func46, Tryz.ntmps46
  go_wp2_with fail
  go_region_held3 (fun wx => BefS b ⟨6, m1, m2, m3, m4, m5, m6, m7⟩ ⟨f1, f2, (f3, f4, f5), f6, f7, f8⟩ w wx)
    (repeat (first | with_reducible assumption | with_reducible exact HS0.out | with_reducible refine BefS.draw ?_ | with_reducible refine BefS.room ?_ _ _))
    (first
      | (go_at_call 91; refine HC0.out.mono ?_; rintro e w2 ⟨rfl, hg2⟩; have hg3 := grown_drew hg2; have hS2 := HS0.out.grown hg3; obtain ⟨c0, c1, c2, c3, c4, c5, c6, c7⟩ := (hg3.blk HR.out).eightC; obtain ⟨e0, e1, e2, e3, e4, e5, e6, e7⟩ := (hg3.blk HR.out).eightF; have HG2 := Lib.hid hg3)
      | fail "no arm")
  all_goals clear n0 n1 n2 n3 n4 n5 n6 n7 a0 a1 a2 a3 a4 a5 a6 a7 hl
  all_goals go_wp2
  all_goals
    refine bodyPost_ret (v := fdV ⟨g1, g2, (g3, g4, g5), g6, g7, g8⟩) (by simp [results, Tryz.results46, go_sem, c0, c1, c2, c3, c4, c5, c6, c7]; try rfl) rfl ⟨rfl, ?_⟩
    repeat (with_reducible refine Grown.setCell ?_ _ _ _ (by omega))
    exact HW.out.trans HG2.out

theorem fbefore_w (b : Nat) (m : Ms) (f : Fd) (w : World) (hb : w.cell? ⟨b, 0, none⟩ = some fn1V) (hk : f.key.length ≤ 140737488355328) (hs : m.src.length ≤ 140737488355328) (hv : validM m = true) :
    Calls Tryz.prog 46 #[looksV b, msgV m, fdV f] w fun e w' => e = .returned (fdV (lookK m f)) ∧ Grown w w' := by
  have hb' : ∀ wx, Grown w wx → wx.cell? ⟨b, 0, none⟩ = some fn1V := fun wx hg => ((hg.below (Nat.le_refl _)).cell (p := ⟨b, 0, none⟩) (cell_lt hb)).trans hb
  rcases kind_cases m hv with h | h | h | h | h | h
  · refine fbefore1_w b m f w h (lookK m f) fun wx _ => ?_
    have e : lookK m f = (if f.key == m.key then ⟨true, true, pairF f m.val m.n, [], false, 0⟩ else f) := by unfold lookK; rw [if_pos h]
    rw [e]; exact look2_w m f wx
  · refine fbefore2_w b m f w h (lookK m f) fun wx _ => ?_
    have e : lookK m f = endF (f.key == m.key) f := by unfold lookK; rw [if_neg (by omega), if_pos h]
    rw [e]; exact look3_w m f wx
  · refine fbefore3_w b m f w h (lookK m f) fun wx _ => ?_
    have e : lookK m f = endF (hasB (m.lo, m.hi) f.key) f := by unfold lookK; rw [if_neg (by omega), if_neg (by omega), if_pos h]
    rw [e]; exact look4_w m f wx
  · refine fbefore4_w b m f w h (lookK m f) fun wx hg => ?_
    have e : lookK m f = (if m.dst.isPrefixOf f.key then backF m f else endF (m.src.isPrefixOf f.key) f) := by unfold lookK; rw [if_neg (by omega), if_neg (by omega), if_neg (by omega), if_pos h]
    rw [e]; exact look5_w b m f wx (hb' wx hg) hk hs
  · refine fbefore5_w b m f w h (lookK m f) fun wx _ => ?_
    have e : lookK m f = backF m f := by unfold lookK; rw [if_neg (by omega), if_neg (by omega), if_neg (by omega), if_neg (by omega), if_pos h]
    rw [e]; exact look1_w m f wx hk hs
  · refine fbefore6_w b m f w h (lookK m f) fun wx _ => ?_
    have e : lookK m f = (if !f.stamped && hasB (m.lo, m.hi) f.key then { f with stamped := true, stamp := m.n } else f) := by unfold lookK; rw [if_neg (by omega), if_neg (by omega), if_neg (by omega), if_neg (by omega), if_neg (by omega), if_pos h]
    rw [e]; exact look6_w m f wx

end Go.Proofs.YthncnijkgkeohaaGreat
