/-
  Walks of reference 05: what Valid says of right messages of the kinds 1, 2, 3 and 6.
-/
import Derived.Test.YtfpcaoacbjhkgaaGreatUG
namespace Go.Proofs.YtfpcaoacbjhkgaaGreat
open Go.RowKit Go.Sort
set_option linter.unusedVariables false

theorem keepGU {W wx wy : World} (h : Below W.heap.size W wx) (g : Grown wx wy) : Below W.heap.size W wy := h.trans (g.below h.size)
set_option maxHeartbeats 1000000 in
theorem r5in_w (n lo hi : Int) (w : World) (h1 : lo ≤ n) (h2 : n ≤ hi) : Calls Tryz.prog 80 #[.int .i64 n, .int .i64 lo, .int .i64 hi] w fun e w' => e = .returned (.bool true) ∧ Grown w w' := by
  go_enter Tryz.func80, Tryz.ntmps80
  go_wp2
  go_ret
  exact ⟨by first | rfl | simp, Grown.refl _⟩

set_option maxHeartbeats 1000000 in
theorem r5in_no (n lo hi : Int) (w : World) (h1 : n < lo) : Calls Tryz.prog 80 #[.int .i64 n, .int .i64 lo, .int .i64 hi] w fun e w' => e = .returned (.bool false) ∧ Grown w w' := by
  go_enter Tryz.func80, Tryz.ntmps80
  go_wp2
  go_ret
  exact ⟨by first | rfl | simp, Grown.refl _⟩

set_option maxRecDepth 100000 in
set_option maxHeartbeats 2000000 in
theorem r5span_w (lo hi : Bs) (w : World) (h : spanB lo hi = true) : Calls Tryz.prog 81 #[.agg #[.string (Str lo), .string (Str hi)]] w fun e w' => e = .returned (.bool true) ∧ Grown w w' := by
  have mixed := mixedA
  unfold spanB at h
  simp only [Bool.and_eq_true, Bool.not_eq_true', decide_eq_true_eq] at h
  obtain ⟨he, h1, h2⟩ := h
  have d1 : decide ((lo.length : Int) ≤ 65535) = true := by simp; omega
  have d2 : decide ((hi.length : Int) ≤ 65535) = true := by simp; omega
  have z1 : (lo.length : Int) ≤ 65535 := by omega
  have z2 : (hi.length : Int) ≤ 65535 := by omega
  by_cases hh : hi = []
  · subst hh
    clear he
    go_enter Tryz.func81, Tryz.ntmps81
    go_wp2
    go_ret
    exact ⟨by first | rfl | simp, ((Grown.refl w).alloc _).alloc _⟩
  · have hlt : Op.bytesLess lo hi = true := span_le he hh
    have e1 : hi.isEmpty = false := by cases hi with
      | nil => exact absurd rfl hh
      | cons a r => rfl
    have e2 : Op.bytesLess hi lo = false := less_asymm hlt
    have e3 : (hi == lo) = false := by
      cases h : hi == lo with
      | false => rfl
      | true =>
        have h2 : hi = lo := by simpa using h
        rw [h2, less_irrefl] at hlt; cases hlt
    clear he hh hlt
    go_enter Tryz.func81, Tryz.ntmps81
    go_wp2
    go_ret
    exact ⟨by first | rfl | simp, ((Grown.refl w).alloc _).alloc _⟩

set_option maxRecDepth 100000 in
set_option maxHeartbeats 4000000 in
theorem rvalid_one (k v : Bs) (n : Int) (w : World) (hk : keyB k = true) (hv : v.length ≤ 64) (hn : stampB n = true) : Calls Tryz.prog 38 #[msgV ⟨1, k, v, [], [], [], [], n⟩] w fun e w' => e = .returned (.bool true) ∧ Below w.heap.size w w' := by
  have mixed := mixedA
  unfold keyB at hk
  rw [decide_eq_true_eq] at hk
  unfold stampB at hn
  rw [decide_eq_true_eq] at hn
  have hB : Blk (w.alloc (.cells (encM ⟨1, k, v, [], [], [], [], n⟩) 40)) w.heap.size 40 (encM ⟨1, k, v, [], [], [], [], n⟩) := Blk.new _ _ _
  have H1 := Lib.hid (fun wx => r5in_w (k.length : Int) 1 65535 wx (by omega) (by omega))
  have H2 := Lib.hid (fun wx => r5in_w n 0 1000000000 wx hn.1 hn.2)
  have HQ := fun wx => eql_msg ⟨1, k, v, [], [], [], [], n⟩ ⟨1, k, v, [], [], [], [], n⟩ wx
  rw [decide_eq_true rfl] at HQ
  have HQ2 : ∀ wx, (binOp .eql 40 (.agg #[.int .i64 1, .string (Str k), .string (Str v), .string ⟨#[]⟩, .string ⟨#[]⟩, .string ⟨#[]⟩, .string ⟨#[]⟩, .int .i64 n]) (.agg #[.int .i64 1, .string (Str k), .string (Str v), .string ⟨#[]⟩, .string ⟨#[]⟩, .string ⟨#[]⟩, .string ⟨#[]⟩, .int .i64 n])).run Tryz.prog wx = .ok (.bool true) wx := HQ
  obtain ⟨W1, hW1⟩ : ∃ W1, W1 = w.alloc (.cells (encM ⟨1, k, v, [], [], [], [], n⟩) 40) := ⟨_, rfl⟩
  rw [← hW1] at hB
  have hg1 : Below w.heap.size w W1 := by rw [hW1]; exact below_box _
  have HB := Lib.hid hB
  have HG1 := Lib.hid hg1
  have HW1 := Lib.hid hW1
  have HS0 : Hid (Below W1.heap.size W1 W1) := Lib.hid (Below.refl _ _)
  have hlt1 := hB.lt
  have vz : (v.length : Int) ≤ 64 := by omega
  have vd : decide ((v.length : Int) ≤ 64) = true := by simp; omega
  clear hk hv hn HQ hB hg1 hW1
  go_enter Tryz.func38, Tryz.ntmps38
  go_wp2_with fail
  rw [← HW1.out]
  have x1 : ∀ wx, Below W1.heap.size W1 wx → wx.cell? ⟨w.heap.size, 1, none⟩ = some (.string (Str k)) := fun wx hx => (Blk.below HB.out hx HB.out.lt).c0 1 _ rfl
  have x7 : ∀ wx, Below W1.heap.size W1 wx → wx.cell? ⟨w.heap.size, 7, none⟩ = some (.int .i64 n) := fun wx hx => (Blk.below HB.out hx HB.out.lt).c0 7 _ rfl
  go_cut [3, 4] (fun s3 s4 wx => s3 = .bool true ∧ s4 = .bool true ∧ Hid (Below W1.heap.size W1 wx))
  case first =>
    go_region_held3 (fun wx => Below W1.heap.size W1 wx)
      (repeat (first | with_reducible assumption | with_reducible exact HS0.out | with_reducible refine Below.drew ?_ | with_reducible refine keepAU ?_ _))
      (first
        | (go_at_call_of 80 (Value.int .i64 65535); (refine (H1.out _).mono ?_); rintro e2 y2 ⟨rfl, hG2⟩; have hS2 : Below W1.heap.size W1 y2 := keepGU (by repeat (first | with_reducible assumption | with_reducible exact HS0.out | with_reducible refine Below.drew ?_)) hG2)
        | (go_at_call 80; (refine (H2.out _).mono ?_); rintro e3 y3 ⟨rfl, hG3⟩; have hS3 : Below W1.heap.size W1 y3 := keepGU (by repeat (first | with_reducible assumption | with_reducible exact HS0.out | with_reducible refine Below.drew ?_)) hG3)
        | fail "no arm")
    all_goals (go_wp2_with fail; go_meet)
    all_goals exact ⟨rfl, rfl, Lib.hid hS3⟩
  case rest =>
    obtain ⟨rfl, rfl, hcut⟩ := hcut
    clear x1 x7
    have HBc := Lib.hid (Blk.below HB.out hcut.out HB.out.lt)
    have hBL := Lib.hid (HG1.out.trans (hcut.out.mono HG1.out.size))
    obtain ⟨c0, c1, c2, c3, c4, c5, c6, c7⟩ := HBc.out.eightCU
    clear H1 H2
    go_wp2
    go_ret
    exact ⟨by first | rfl | simp, hBL.out⟩

set_option maxRecDepth 100000 in
set_option maxHeartbeats 4000000 in
theorem rvalid_two (k : Bs) (w : World) (hk : keyB k = true) : Calls Tryz.prog 38 #[msgV ⟨2, k, [], [], [], [], [], 0⟩] w fun e w' => e = .returned (.bool true) ∧ Below w.heap.size w w' := by
  have mixed := mixedA
  unfold keyB at hk
  rw [decide_eq_true_eq] at hk
  have hB : Blk (w.alloc (.cells (encM ⟨2, k, [], [], [], [], [], 0⟩) 40)) w.heap.size 40 (encM ⟨2, k, [], [], [], [], [], 0⟩) := Blk.new _ _ _
  have H1 := Lib.hid (fun wx => r5in_w (k.length : Int) 1 65535 wx (by omega) (by omega))
  have H2 := Lib.hid (fun wx => r5in_w 0 0 1000000000 wx (by omega) (by omega))
  have HQ := fun wx => eql_msg ⟨2, k, [], [], [], [], [], 0⟩ ⟨2, k, [], [], [], [], [], 0⟩ wx
  rw [decide_eq_true rfl] at HQ
  have HQ2 : ∀ wx, (binOp .eql 40 (.agg #[.int .i64 2, .string (Str k), .string ⟨#[]⟩, .string ⟨#[]⟩, .string ⟨#[]⟩, .string ⟨#[]⟩, .string ⟨#[]⟩, .int .i64 0]) (.agg #[.int .i64 2, .string (Str k), .string ⟨#[]⟩, .string ⟨#[]⟩, .string ⟨#[]⟩, .string ⟨#[]⟩, .string ⟨#[]⟩, .int .i64 0])).run Tryz.prog wx = .ok (.bool true) wx := HQ
  obtain ⟨W1, hW1⟩ : ∃ W1, W1 = w.alloc (.cells (encM ⟨2, k, [], [], [], [], [], 0⟩) 40) := ⟨_, rfl⟩
  rw [← hW1] at hB
  have hg1 : Below w.heap.size w W1 := by rw [hW1]; exact below_box _
  have HB := Lib.hid hB
  have HG1 := Lib.hid hg1
  have HW1 := Lib.hid hW1
  have HS0 : Hid (Below W1.heap.size W1 W1) := Lib.hid (Below.refl _ _)
  have hlt1 := hB.lt
  clear hk HQ hB hg1 hW1
  go_enter Tryz.func38, Tryz.ntmps38
  go_wp2_with fail
  rw [← HW1.out]
  have x1 : ∀ wx, Below W1.heap.size W1 wx → wx.cell? ⟨w.heap.size, 1, none⟩ = some (.string (Str k)) := fun wx hx => (Blk.below HB.out hx HB.out.lt).c0 1 _ rfl
  have x7 : ∀ wx, Below W1.heap.size W1 wx → wx.cell? ⟨w.heap.size, 7, none⟩ = some (.int .i64 0) := fun wx hx => (Blk.below HB.out hx HB.out.lt).c0 7 _ rfl
  go_cut [3, 4] (fun s3 s4 wx => s3 = .bool true ∧ s4 = .bool true ∧ Hid (Below W1.heap.size W1 wx))
  case first =>
    go_region_held3 (fun wx => Below W1.heap.size W1 wx)
      (repeat (first | with_reducible assumption | with_reducible exact HS0.out | with_reducible refine Below.drew ?_ | with_reducible refine keepAU ?_ _))
      (first
        | (go_at_call_of 80 (Value.int .i64 65535); (refine (H1.out _).mono ?_); rintro e2 y2 ⟨rfl, hG2⟩; have hS2 : Below W1.heap.size W1 y2 := keepGU (by repeat (first | with_reducible assumption | with_reducible exact HS0.out | with_reducible refine Below.drew ?_)) hG2)
        | (go_at_call 80; (refine (H2.out _).mono ?_); rintro e3 y3 ⟨rfl, hG3⟩; have hS3 : Below W1.heap.size W1 y3 := keepGU (by repeat (first | with_reducible assumption | with_reducible exact HS0.out | with_reducible refine Below.drew ?_)) hG3)
        | fail "no arm")
    all_goals (go_wp2_with fail; go_meet)
    all_goals exact ⟨rfl, rfl, Lib.hid hS3⟩
  case rest =>
    obtain ⟨rfl, rfl, hcut⟩ := hcut
    clear x1 x7
    have HBc := Lib.hid (Blk.below HB.out hcut.out HB.out.lt)
    have hBL := Lib.hid (HG1.out.trans (hcut.out.mono HG1.out.size))
    obtain ⟨c0, c1, c2, c3, c4, c5, c6, c7⟩ := HBc.out.eightCU
    clear H1 H2
    go_wp2
    go_ret
    exact ⟨by first | rfl | simp, hBL.out⟩

set_option maxRecDepth 100000 in
set_option maxHeartbeats 4000000 in
theorem rvalid_three (lo hi : Bs) (w : World) (hs : spanB lo hi = true) : Calls Tryz.prog 38 #[msgV ⟨3, [], [], lo, hi, [], [], 0⟩] w fun e w' => e = .returned (.bool true) ∧ Below w.heap.size w w' := by
  have mixed := mixedA
  have hB : Blk (w.alloc (.cells (encM ⟨3, [], [], lo, hi, [], [], 0⟩) 40)) w.heap.size 40 (encM ⟨3, [], [], lo, hi, [], [], 0⟩) := Blk.new _ _ _
  have H1 := Lib.hid (fun wx => r5in_no 0 1 65535 wx (by omega))
  have H2 := Lib.hid (fun wx => r5in_w 0 0 1000000000 wx (by omega) (by omega))
  have HSP := Lib.hid (fun wx => r5span_w lo hi wx hs)
  have HQ := fun wx => eql_msg ⟨3, [], [], lo, hi, [], [], 0⟩ ⟨3, [], [], lo, hi, [], [], 0⟩ wx
  rw [decide_eq_true rfl] at HQ
  have HQ2 : ∀ wx, (binOp .eql 40 (.agg #[.int .i64 3, .string ⟨#[]⟩, .string ⟨#[]⟩, .string (Str lo), .string (Str hi), .string ⟨#[]⟩, .string ⟨#[]⟩, .int .i64 0]) (.agg #[.int .i64 3, .string ⟨#[]⟩, .string ⟨#[]⟩, .string (Str lo), .string (Str hi), .string ⟨#[]⟩, .string ⟨#[]⟩, .int .i64 0])).run Tryz.prog wx = .ok (.bool true) wx := HQ
  obtain ⟨W1, hW1⟩ : ∃ W1, W1 = w.alloc (.cells (encM ⟨3, [], [], lo, hi, [], [], 0⟩) 40) := ⟨_, rfl⟩
  rw [← hW1] at hB
  have hg1 : Below w.heap.size w W1 := by rw [hW1]; exact below_box _
  have HB := Lib.hid hB
  have HG1 := Lib.hid hg1
  have HW1 := Lib.hid hW1
  have HS0 : Hid (Below W1.heap.size W1 W1) := Lib.hid (Below.refl _ _)
  have hlt1 := hB.lt
  clear hs HQ hB hg1 hW1
  go_enter Tryz.func38, Tryz.ntmps38
  go_wp2_with fail
  rw [← HW1.out]
  have x1 : ∀ wx, Below W1.heap.size W1 wx → wx.cell? ⟨w.heap.size, 1, none⟩ = some (.string (Str [])) := fun wx hx => (Blk.below HB.out hx HB.out.lt).c0 1 _ rfl
  have x7 : ∀ wx, Below W1.heap.size W1 wx → wx.cell? ⟨w.heap.size, 7, none⟩ = some (.int .i64 0) := fun wx hx => (Blk.below HB.out hx HB.out.lt).c0 7 _ rfl
  go_cut [3, 4] (fun s3 s4 wx => s3 = .bool false ∧ s4 = .bool true ∧ Hid (Below W1.heap.size W1 wx))
  case first =>
    go_region_held3 (fun wx => Below W1.heap.size W1 wx)
      (repeat (first | with_reducible assumption | with_reducible exact HS0.out | with_reducible refine Below.drew ?_ | with_reducible refine keepAU ?_ _))
      (first
        | (go_at_call_of 80 (Value.int .i64 65535); (refine (H1.out _).mono ?_); rintro e2 y2 ⟨rfl, hG2⟩; have hS2 : Below W1.heap.size W1 y2 := keepGU (by repeat (first | with_reducible assumption | with_reducible exact HS0.out | with_reducible refine Below.drew ?_)) hG2)
        | (go_at_call 80; (refine (H2.out _).mono ?_); rintro e3 y3 ⟨rfl, hG3⟩; have hS3 : Below W1.heap.size W1 y3 := keepGU (by repeat (first | with_reducible assumption | with_reducible exact HS0.out | with_reducible refine Below.drew ?_)) hG3)
        | fail "no arm")
    all_goals (go_wp2_with fail; go_meet)
    all_goals exact ⟨rfl, rfl, Lib.hid hS3⟩
  case rest =>
    obtain ⟨rfl, rfl, hcut⟩ := hcut
    clear x1 x7
    have HBc := Lib.hid (Blk.below HB.out hcut.out HB.out.lt)
    have hBL := Lib.hid (HG1.out.trans (hcut.out.mono HG1.out.size))
    obtain ⟨c0, c1, c2, c3, c4, c5, c6, c7⟩ := HBc.out.eightCU
    clear H1 H2
    go_wp2_with (go_at_call 81; refine (HSP.out _).mono ?_; rintro e w5 ⟨rfl, hg5⟩; have HBd := Lib.hid (hg5.blk HBc.out); have hBM := Lib.hid (hBL.out.trans (hg5.below hBL.out.size)); obtain ⟨d0, d1, d2, d3, d4, d5, d6, d7⟩ := HBd.out.eightCU; clear hg5)
    go_ret
    exact ⟨by first | rfl | simp, hBM.out⟩

set_option maxRecDepth 100000 in
set_option maxHeartbeats 4000000 in
theorem rvalid_six (lo hi : Bs) (n : Int) (w : World) (hs : spanB lo hi = true) (hn : stampB n = true) : Calls Tryz.prog 38 #[msgV ⟨6, [], [], lo, hi, [], [], n⟩] w fun e w' => e = .returned (.bool true) ∧ Below w.heap.size w w' := by
  have mixed := mixedA
  unfold stampB at hn
  rw [decide_eq_true_eq] at hn
  have hB : Blk (w.alloc (.cells (encM ⟨6, [], [], lo, hi, [], [], n⟩) 40)) w.heap.size 40 (encM ⟨6, [], [], lo, hi, [], [], n⟩) := Blk.new _ _ _
  have H1 := Lib.hid (fun wx => r5in_no 0 1 65535 wx (by omega))
  have H2 := Lib.hid (fun wx => r5in_w n 0 1000000000 wx hn.1 hn.2)
  have HSP := Lib.hid (fun wx => r5span_w lo hi wx hs)
  have HQ := fun wx => eql_msg ⟨6, [], [], lo, hi, [], [], n⟩ ⟨6, [], [], lo, hi, [], [], n⟩ wx
  rw [decide_eq_true rfl] at HQ
  have HQ2 : ∀ wx, (binOp .eql 40 (.agg #[.int .i64 6, .string ⟨#[]⟩, .string ⟨#[]⟩, .string (Str lo), .string (Str hi), .string ⟨#[]⟩, .string ⟨#[]⟩, .int .i64 n]) (.agg #[.int .i64 6, .string ⟨#[]⟩, .string ⟨#[]⟩, .string (Str lo), .string (Str hi), .string ⟨#[]⟩, .string ⟨#[]⟩, .int .i64 n])).run Tryz.prog wx = .ok (.bool true) wx := HQ
  obtain ⟨W1, hW1⟩ : ∃ W1, W1 = w.alloc (.cells (encM ⟨6, [], [], lo, hi, [], [], n⟩) 40) := ⟨_, rfl⟩
  rw [← hW1] at hB
  have hg1 : Below w.heap.size w W1 := by rw [hW1]; exact below_box _
  have HB := Lib.hid hB
  have HG1 := Lib.hid hg1
  have HW1 := Lib.hid hW1
  have HS0 : Hid (Below W1.heap.size W1 W1) := Lib.hid (Below.refl _ _)
  have hlt1 := hB.lt
  clear hn hs HQ hB hg1 hW1
  go_enter Tryz.func38, Tryz.ntmps38
  go_wp2_with fail
  rw [← HW1.out]
  have x1 : ∀ wx, Below W1.heap.size W1 wx → wx.cell? ⟨w.heap.size, 1, none⟩ = some (.string (Str [])) := fun wx hx => (Blk.below HB.out hx HB.out.lt).c0 1 _ rfl
  have x7 : ∀ wx, Below W1.heap.size W1 wx → wx.cell? ⟨w.heap.size, 7, none⟩ = some (.int .i64 n) := fun wx hx => (Blk.below HB.out hx HB.out.lt).c0 7 _ rfl
  go_cut [3, 4] (fun s3 s4 wx => s3 = .bool false ∧ s4 = .bool true ∧ Hid (Below W1.heap.size W1 wx))
  case first =>
    go_region_held3 (fun wx => Below W1.heap.size W1 wx)
      (repeat (first | with_reducible assumption | with_reducible exact HS0.out | with_reducible refine Below.drew ?_ | with_reducible refine keepAU ?_ _))
      (first
        | (go_at_call_of 80 (Value.int .i64 65535); (refine (H1.out _).mono ?_); rintro e2 y2 ⟨rfl, hG2⟩; have hS2 : Below W1.heap.size W1 y2 := keepGU (by repeat (first | with_reducible assumption | with_reducible exact HS0.out | with_reducible refine Below.drew ?_)) hG2)
        | (go_at_call 80; (refine (H2.out _).mono ?_); rintro e3 y3 ⟨rfl, hG3⟩; have hS3 : Below W1.heap.size W1 y3 := keepGU (by repeat (first | with_reducible assumption | with_reducible exact HS0.out | with_reducible refine Below.drew ?_)) hG3)
        | fail "no arm")
    all_goals (go_wp2_with fail; go_meet)
    all_goals exact ⟨rfl, rfl, Lib.hid hS3⟩
  case rest =>
    obtain ⟨rfl, rfl, hcut⟩ := hcut
    clear x1 x7
    have HBc := Lib.hid (Blk.below HB.out hcut.out HB.out.lt)
    have hBL := Lib.hid (HG1.out.trans (hcut.out.mono HG1.out.size))
    obtain ⟨c0, c1, c2, c3, c4, c5, c6, c7⟩ := HBc.out.eightCU
    clear H1 H2
    go_wp2_with (go_at_call 81; refine (HSP.out _).mono ?_; rintro e w5 ⟨rfl, hg5⟩; have HBd := Lib.hid (hg5.blk HBc.out); have hBM := Lib.hid (hBL.out.trans (hg5.below hBL.out.size)); obtain ⟨d0, d1, d2, d3, d4, d5, d6, d7⟩ := HBd.out.eightCU; clear hg5)
    go_ret
    exact ⟨by first | rfl | simp, hBM.out⟩

/-- Any right message that is no Move and no Clone. -/
theorem rvalid_w (m : Ms) (w : World) (h : validM m = true) (hm : movesB m = false) : Calls Tryz.prog 38 #[msgV m] w fun e w' => e = .returned (.bool true) ∧ Below w.heap.size w w' := by
  have hk := kind_cases m h
  have h4 : ¬ m.kind = 4 := fun e => by rw [(moves_iff m).2 (.inl e)] at hm; cases hm
  have h5 : ¬ m.kind = 5 := fun e => by rw [(moves_iff m).2 (.inr e)] at hm; cases hm
  unfold validM at h
  rw [Bool.and_eq_true, decide_eq_true_eq] at h
  obtain ⟨h1, h2⟩ := h
  obtain ⟨k, a, b, c, d, e, f, n⟩ := m
  dsimp only at hk h4 h5
  have hkk : k = 1 ∨ k = 2 ∨ k = 3 ∨ k = 6 := by omega
  clear hk h4 h5 hm
  rcases hkk with rfl | rfl | rfl | rfl
  · simp [bareM, zeroM] at h2
    obtain ⟨rfl, rfl, rfl, rfl⟩ := h2
    simp [fitsB] at h1
    exact rvalid_one a b n w h1.1 h1.2.1 h1.2.2
  · simp [bareM, zeroM] at h2
    obtain ⟨rfl, rfl, rfl, rfl, rfl, rfl⟩ := h2
    simp [fitsB] at h1
    exact rvalid_two a w h1
  · simp [bareM, zeroM] at h2
    obtain ⟨rfl, rfl, rfl, rfl, rfl⟩ := h2
    simp [fitsB] at h1
    exact rvalid_three c d w h1
  · simp [bareM, zeroM] at h2
    obtain ⟨rfl, rfl, rfl, rfl⟩ := h2
    simp [fitsB] at h1
    exact rvalid_six c d n w h1.1 h1.2

end Go.Proofs.YtfpcaoacbjhkgaaGreat
