/-
  Walks of package route: the span of a kid, messages that lie in a span, and messages that cross.
-/
import Derived.Test.YtfpcaoacbjhkgaaGreatRQ
namespace Go.Proofs.YtfpcaoacbjhkgaaGreat
open Go.RowKit Go.Sort
set_option linter.unusedVariables false

theorem one_msgs {w : World} {n : Nat} (m : Ms) (T : TypeId) (hn : n = w.heap.size) : IsMsgs (w.alloc (.cells (encM m) T)) (.slice (some ⟨n, 0, none⟩) 1 1) [m] := by
  subst hn
  have hB : Blk (w.alloc (.cells (encM m) T)) w.heap.size T (encM m) := Blk.new _ _ _
  refine ⟨_, 1, rfl, Nat.le_refl _, by unfold maxLen; omega, fun _ => ⟨w.heap.size, 0, rfl, by simp, fun i hi => ?_⟩⟩
  obtain rfl : i = 0 := by simpa using hi
  exact ⟨hB.c0 0 _ rfl, hB.c0 1 _ rfl, hB.c0 2 _ rfl, hB.c0 3 _ rfl, hB.c0 4 _ rfl, hB.c0 5 _ rfl, hB.c0 6 _ rfl, hB.c0 7 _ rfl⟩
theorem keepB {W wx wy : World} (h : Below W.heap.size W wx) (g : Below wx.heap.size wx wy) : Below W.heap.size W wy := h.trans (g.mono h.size)
theorem lies_any (m : Ms) (s : Sp) : liesB m s = !((touchS m).any fun x => !coversB s x) := by
  unfold liesB; rw [List.all_eq_not_any_not]

set_option maxRecDepth 100000 in
set_option maxHeartbeats 2000000 in
theorem liesIn_w (m : Ms) (s : Sp) (w : World) (hz : SizeM m) :
    Calls Tryz.prog 54 #[msgV m, strS s] w fun e w' => e = .returned (.bool (liesB m s)) ∧ Below w.heap.size w w' := by
  have mixed := mixedA
  obtain ⟨W0, hW0⟩ : ∃ W0, W0 = (w.alloc (.cells (encM m) 40)).alloc (.cells #[.string (Str s.1), .string (Str s.2)] 38) := ⟨_, rfl⟩
  have hg0 : Below w.heap.size w W0 := by rw [hW0]; exact ((Below.refl _ _).alloc (Nat.le_refl _) _).alloc (by simp) _
  have b2 : Blk W0 (w.heap.size + 1) 38 #[.string (Str s.1), .string (Str s.2)] := by rw [hW0]; exact Blk.new' _ _ _ (by simp)
  have hs0 : W0.heap.size = w.heap.size + 2 := by rw [hW0]; simp
  have HT := Lib.hid (fun (W : World) (n : Nat) (T : TypeId) (hn : n = W.heap.size) => touched_w (.slice (some ⟨n, 0, none⟩) 1 1) [m] (W.alloc (.cells (encM m) T)) (one_msgs m T hn) (by intro x hx; obtain rfl := List.mem_singleton.1 hx; exact hz) (by simp))
  have e1 : [m].flatMap touchS = touchS m := by simp
  rw [e1] at HT
  rw [lies_any]
  have HCN := Lib.hid (fun v wx (h : IsSpans wx v (touchS m)) (hc : wx.cell? ⟨w.heap.size + 1, 0, none⟩ = some (.string (Str s.1)) ∧ wx.cell? ⟨w.heap.size + 1, 1, none⟩ = some (.string (Str s.2))) => containsL_w v (touchS m) (w.heap.size + 1) s wx h hc)
  clear e1
  generalize hA : ((touchS m).any fun x => !coversB s x) = A at *
  generalize touchS m = R at *
  clear hA
  have HG0 := Lib.hid hg0
  have HB2 := Lib.hid b2
  have HS0 := Lib.hid hs0
  clear hg0 b2 hs0 hz
  simp only [strS]
  cases A
  all_goals
    go_enter Tryz.func54, Tryz.ntmps54
    go_wp2_with (first
      | (go_at_call 91; (with_reducible refine (HT.out _ _ _ (by simp)).mono ?_); rw [← hW0]; rintro e w2 ⟨v2, rfl, ho2, hb2⟩; have HO2 := Lib.hid (IsSpans.owned ho2); have HB : Hid (Below W0.heap.size W0 w2) := Lib.hid ((below_box _).trans (hb2.mono (by simp))); clear ho2 hb2)
      | (go_at_call 61; (refine (HCN.out _ _ HO2.out ⟨(HB2.out.below HB.out HB2.out.lt).c0 0 _ rfl, (HB2.out.below HB.out HB2.out.lt).c0 1 _ rfl⟩).mono ?_); rintro e w3 ⟨rfl, hg3⟩; have HG3 := Lib.hid hg3; clear hg3))
    go_ret
    exact ⟨by first | rfl | simp, (HG0.out.trans (HB.out.mono HG0.out.size)).trans (HG3.out.below (Nat.le_trans HG0.out.size HB.out.size))⟩

set_option maxRecDepth 100000 in
set_option maxHeartbeats 2000000 in
theorem spanOf_w (i : Nat) (v : Value) (ps : List Bs) (w : World) (h : IsStrs w v ps) (hl : ps.length ≤ 1000) (hi : i ≤ ps.length) :
    Calls Tryz.prog 55 #[.int .i64 i, v] w fun e w' => e = .returned (strS (kidSp ps i)) ∧ Below w.heap.size w w' := by
  have mixed := mixedA
  have hk := kidSp_at (show i < ps.length + 1 by omega)
  have hkl := kids_len ps
  obtain ⟨a, cap, rfl, hlc, hcm, hcc⟩ := id h
  unfold maxLen at hcm
  have hB : Blk (w.alloc (.cells #[.string ⟨#[]⟩, .string ⟨#[]⟩] 38)) w.heap.size 38 #[.string ⟨#[]⟩, .string ⟨#[]⟩] := Blk.new _ _ _
  have hbx := below_box (w := w) (.cells #[.string ⟨#[]⟩, .string ⟨#[]⟩] 38)
  have HP := Lib.hid (parts_w [] [] _ ps _ (h.below hbx) hl)
  have HB := Lib.hid hB
  have HBX := Lib.hid hbx
  clear hB hbx h hcc
  change Hid (Calls _ _ #[.agg #[.string ⟨#[]⟩, .string ⟨#[]⟩], _] _ fun e w' => ∃ v', e = .returned v' ∧ w'.ownsRow _ _ 2 v' (kidsS ps).length ((kidsS ps).flatMap encS) ∧ _) at HP
  have hik : i < (kidsS ps).length := by omega
  have HIK : Hid (i < (kidsS ps).length) := Lib.hid hik
  have HK := Lib.hid hk
  have hkl2 : ((kidsS ps).length : Int) = (ps.length : Int) + 1 := by omega
  have HKL := Lib.hid hkl
  clear hk hik hkl hkl2
  generalize kidSp ps i = y at *
  have n1 : ¬ ((i : Int) < 0) := by omega
  have n2 : decide ((i : Int) < 0) = false := decide_eq_false n1
  have n3 : decide ((ps.length : Int) < (i : Int)) = false := decide_eq_false (by omega)
  have n4 : decide (ps.length < i) = false := decide_eq_false (by omega)
  go_enter Tryz.func55, Tryz.ntmps55
  go_wp2_with fail
  refine HP.out.mono ?_
  rintro e w2 ⟨v2, rfl, ho2, hb2⟩
  have HB2 := Lib.hid hb2
  obtain ⟨b, off, cap', rfl, hbl, hlz, x0, x1⟩ := span_cells (IsSpans.owned ho2) i HIK.out
  rw [← HK.out] at x0 x1
  have hik : i < (kidsS ps).length := HIK.out
  have hikz : (i : Int) < ((kidsS ps).length : Int) := by omega
  have hBw := (Blk.below HB.out hb2 HB.out.lt)
  clear ho2 hb2
  have f0 := hBw.c0 0 _ rfl
  have f1 := hBw.c0 1 _ rfl
  have g0 := hBw.free 0
  have g1 := hBw.free 1
  go_wp2
  have hR : Blk ((w2.setCell ⟨w.heap.size, 0, none⟩ (.string (Str y.1))).setCell ⟨w.heap.size, 1, none⟩ (.string (Str y.2))) w.heap.size 38 #[.string (Str y.1), .string (Str y.2)] := (hBw.setCell 0 _).setCell 1 _
  have r0 := hR.c0 0 _ rfl
  have r1 := hR.c0 1 _ rfl
  refine bodyPost_ret (v := strS y) (by simp [results, Tryz.results55, go_sem, r0, r1, strS]) rfl ⟨rfl, ?_⟩
  exact ((HBX.out.trans (HB2.out.mono (by simp))).setCell (Nat.le_refl _) _).setCell (Nat.le_refl _) _

set_option maxRecDepth 100000 in
set_option maxHeartbeats 4000000 in
theorem crosses_w (m : Ms) (v : Value) (ps : List Bs) (w : World) (hz : SizeM m) (h : IsStrs w v ps) (hs : SrtP ps) (hl : ps.length ≤ 1000) :
    Calls Tryz.prog 19 #[msgV m, v] w fun e w' => e = .returned (.bool (crossB m ps)) ∧ Below w.heap.size w w' := by
  have mixed := mixedA
  have hmv := fun wx => moves_w m wx
  obtain ⟨W1, hW1⟩ : ∃ W1, W1 = w.alloc (.cells (encM m) 40) := ⟨_, rfl⟩
  have hB1 : Blk W1 w.heap.size 40 (encM m) := by rw [hW1]; exact Blk.new _ _ _
  have hg1 : Below w.heap.size w W1 := by rw [hW1]; exact below_box _
  have hkd := fun wx (hx : Below W1.heap.size W1 wx) => kid_w v ps m.src wx ((h.below hg1).below hx) hs (by omega)
  have hso := fun wx (hx : Below W1.heap.size W1 wx) => spanOf_w (kidN m.src ps) v ps wx ((h.below hg1).below hx) hl (kidN_le _ _)
  have hli := fun wx => liesIn_w m (kidSp ps (kidN m.src ps)) wx hz
  unfold crossB
  generalize kidSp ps (kidN m.src ps) = y at *
  generalize kidN m.src ps = kn at *
  cases hmb : movesB m with
  | false =>
    rw [hmb] at hmv
    have HMV := Lib.hid hmv
    have c0 : ∀ n os, (grow (W1.drewN n) os).cell? ⟨w.heap.size, 0, none⟩ = some (.int .i64 m.kind) := hB1.c 0 _ rfl
    have c1 : ∀ n os, (grow (W1.drewN n) os).cell? ⟨w.heap.size, 1, none⟩ = some (.string (Str m.key)) := hB1.c 1 _ rfl
    have c2 : ∀ n os, (grow (W1.drewN n) os).cell? ⟨w.heap.size, 2, none⟩ = some (.string (Str m.val)) := hB1.c 2 _ rfl
    have c3 : ∀ n os, (grow (W1.drewN n) os).cell? ⟨w.heap.size, 3, none⟩ = some (.string (Str m.lo)) := hB1.c 3 _ rfl
    have c4 : ∀ n os, (grow (W1.drewN n) os).cell? ⟨w.heap.size, 4, none⟩ = some (.string (Str m.hi)) := hB1.c 4 _ rfl
    have c5 : ∀ n os, (grow (W1.drewN n) os).cell? ⟨w.heap.size, 5, none⟩ = some (.string (Str m.src)) := hB1.c 5 _ rfl
    have c6 : ∀ n os, (grow (W1.drewN n) os).cell? ⟨w.heap.size, 6, none⟩ = some (.string (Str m.dst)) := hB1.c 6 _ rfl
    have c7 : ∀ n os, (grow (W1.drewN n) os).cell? ⟨w.heap.size, 7, none⟩ = some (.int .i64 m.n) := hB1.c 7 _ rfl
    have HG1 := Lib.hid hg1
    have HW1 := Lib.hid hW1
    clear hmv hkd hso hli hB1 hg1 hW1 hmb hz
    rw [Bool.false_and]
    go_enter Tryz.func19, Tryz.ntmps19
    go_wp2_with fail
    rw [← HW1.out]
    refine wp_region_quiet_grown mixed (by kernel_rfl) ?_
    repeat (first | go_big_quiet_skip | (refine wpQuiet_step (fun K hK => ?_); have HK := Lib.hid hK; clear hK; go_simp; first | (refine HK.out _ ?_; clear HK K) | (apply Exists.intro; refine ⟨fun _ => ?_, HK.out _ ?_⟩; (go_at_call 53; refine calls_grown (HMV.out _)); clear HK K)))
    refine wpQuiet_nil ?_
    intro _ hw'
    obtain ⟨⟨nq, osq⟩, hw''⟩ := hw'
    subst hw''
    have HGG : Hid (Grown W1 (grow (W1.drewN nq) osq)) := Lib.hid ⟨nq, osq, rfl⟩
    clear c0 c1 c2 c3 c4 c5 c6 c7
    generalize grow (W1.drewN nq) osq = wz at *
    go_wp2
    go_ret
    exact ⟨rfl, HG1.out.trans (HGG.out.below HG1.out.size)⟩
  | true =>
    rw [hmb] at hmv
    have HMV := Lib.hid hmv
    have HKD := Lib.hid hkd
    have HSO := Lib.hid hso
    have hx : ∀ i x, (encM m)[i]? = some x → ∀ wx, Below W1.heap.size W1 wx → wx.cell? ⟨w.heap.size, i, none⟩ = some x := fun i x hi wx hg => (Blk.below hB1 hg hB1.lt).c0 i x hi
    have x0 : ∀ wx, Below W1.heap.size W1 wx → wx.cell? ⟨w.heap.size, 0, none⟩ = some (.int .i64 m.kind) := hx 0 _ rfl
    have x1 : ∀ wx, Below W1.heap.size W1 wx → wx.cell? ⟨w.heap.size, 1, none⟩ = some (.string (Str m.key)) := hx 1 _ rfl
    have x2 : ∀ wx, Below W1.heap.size W1 wx → wx.cell? ⟨w.heap.size, 2, none⟩ = some (.string (Str m.val)) := hx 2 _ rfl
    have x3 : ∀ wx, Below W1.heap.size W1 wx → wx.cell? ⟨w.heap.size, 3, none⟩ = some (.string (Str m.lo)) := hx 3 _ rfl
    have x4 : ∀ wx, Below W1.heap.size W1 wx → wx.cell? ⟨w.heap.size, 4, none⟩ = some (.string (Str m.hi)) := hx 4 _ rfl
    have x5 : ∀ wx, Below W1.heap.size W1 wx → wx.cell? ⟨w.heap.size, 5, none⟩ = some (.string (Str m.src)) := hx 5 _ rfl
    have x6 : ∀ wx, Below W1.heap.size W1 wx → wx.cell? ⟨w.heap.size, 6, none⟩ = some (.string (Str m.dst)) := hx 6 _ rfl
    have x7 : ∀ wx, Below W1.heap.size W1 wx → wx.cell? ⟨w.heap.size, 7, none⟩ = some (.int .i64 m.n) := hx 7 _ rfl
    have HG1 := Lib.hid hg1
    have HW1 := Lib.hid hW1
    have HS0 : Hid (Below W1.heap.size W1 W1) := Lib.hid (Below.refl _ _)
    rw [Bool.true_and]
    generalize liesB m y = lb at *
    have HLI := Lib.hid hli
    clear hmv hkd hso hli hB1 hg1 hW1 hmb hz hx
    simp only [strS] at HSO HLI
    cases lb
    all_goals
      go_enter Tryz.func19, Tryz.ntmps19
      go_wp2_with fail
      rw [← HW1.out]
      go_region_held3 (fun wx => Below W1.heap.size W1 wx)
        (repeat (first | with_reducible assumption | with_reducible exact HS0.out | with_reducible refine Below.drew ?_ | with_reducible refine keepA ?_ _))
        (first
          | (go_at_call 53; (refine (HMV.out _).mono ?_); rintro e2 w2 ⟨rfl, hG2⟩; have hS2 : Below W1.heap.size W1 w2 := keepG (by repeat (first | with_reducible assumption | with_reducible exact HS0.out | with_reducible refine Below.drew ?_)) hG2)
          | (go_at_call 14; (refine (HKD.out _ (by repeat (first | with_reducible assumption | with_reducible exact HS0.out | with_reducible refine Below.drew ?_))).mono ?_); rintro e3 w3 ⟨rfl, hG3⟩; have hS3 : Below W1.heap.size W1 w3 := keepG (by repeat (first | with_reducible assumption | with_reducible exact HS0.out | with_reducible refine Below.drew ?_)) hG3)
          | (go_at_call 55; (refine (HSO.out _ (by repeat (first | with_reducible assumption | with_reducible exact HS0.out | with_reducible refine Below.drew ?_))).mono ?_); rintro e4 w4 ⟨rfl, hG4⟩; have hS4 : Below W1.heap.size W1 w4 := keepB hS3 hG4)
          | (go_at_call 54; (refine (HLI.out _).mono ?_); rintro e5 w5 ⟨rfl, hG5⟩; have hS5 : Below W1.heap.size W1 w5 := keepB hS4 hG5)
          | fail "no arm")
      all_goals
        have HF : Hid (Below w.heap.size w w5) := Lib.hid (HG1.out.trans (hS5.mono HG1.out.size))
        clear hS2 hS3 hS4 hS5 hG2 hG3 hG4 hG5 x0 x1 x2 x3 x4 x5 x6 x7
        go_wp2
        go_ret
        exact ⟨by first | rfl | simp, HF.out⟩

end Go.Proofs.YtfpcaoacbjhkgaaGreat
