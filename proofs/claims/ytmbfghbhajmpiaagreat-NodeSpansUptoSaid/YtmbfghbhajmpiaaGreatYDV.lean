/-
  Walks: reference 05's Valid, at any message.
-/
import Derived.Test.YtmbfghbhajmpiaaGreatYDL
namespace Go.Proofs.YtmbfghbhajmpiaaGreat
open Go.RowKit Go.Sort
set_option linter.unusedVariables false

set_option maxHeartbeats 1000000 in
theorem r5inV_w (n lo hi : Int) (w : World) : Calls Tryz.prog 84 #[.int .i64 n, .int .i64 lo, .int .i64 hi] w fun e w' => e = .returned (.bool (inZ lo hi n)) ∧ Grown w w' := by
  have mixed := mixedA
  obtain ⟨q, hq⟩ : ∃ q, q = inZ lo hi n := ⟨_, rfl⟩
  rw [← hq]
  unfold inZ at hq
  by_cases h1 : lo ≤ n
  · by_cases h2 : n ≤ hi
    · have H : Hid (q = true) := Lib.hid (by rw [hq]; simp; omega)
      clear hq
      go_enter Tryz.func84, Tryz.ntmps84
      go_wp2
      go_ret
      exact ⟨ret_bool (by rw [H.out]), Grown.refl w⟩
    · have H : Hid (q = false) := Lib.hid (by rw [hq]; simp; omega)
      clear hq
      go_enter Tryz.func84, Tryz.ntmps84
      go_wp2
      go_ret
      exact ⟨ret_bool (by rw [H.out]; first | done | (symm; simp; done) | (symm; simp; omega)), Grown.refl w⟩
  · have H : Hid (q = false) := Lib.hid (by rw [hq]; simp; omega)
    clear hq
    go_enter Tryz.func84, Tryz.ntmps84
    go_wp2
    go_ret
    exact ⟨ret_bool (by rw [H.out]; first | done | (symm; simp; done) | (symm; simp; omega)), Grown.refl w⟩
theorem key_in (k : Bs) : keyB k = inZ 1 65535 (k.length : Int) := by
  unfold keyB inZ
  rw [Bool.eq_iff_iff]
  simp only [Bool.and_eq_true, decide_eq_true_eq]
  omega
theorem stamp_in (n : Int) : stampB n = inZ 0 1000000000 n := by
  unfold stampB inZ
  rw [Bool.eq_iff_iff]
  simp only [Bool.and_eq_true, decide_eq_true_eq]
theorem front_in (k : Bs) : frontB k = inZ 1 200 (k.length : Int) := by
  unfold frontB inZ
  rw [Bool.eq_iff_iff]
  simp only [Bool.and_eq_true, decide_eq_true_eq]
  omega
set_option maxRecDepth 100000 in
set_option maxHeartbeats 2000000 in
theorem r5spanV_w (lo hi : Bs) (w : World) : Calls Tryz.prog 85 #[.agg #[.string (Str lo), .string (Str hi)]] w fun e w' => e = .returned (.bool (spanB lo hi)) ∧ Grown w w' := by
  have mixed := mixedA
  have HE := Lib.hid (fun wx => rempty_w lo hi wx)
  obtain ⟨R, hR⟩ : ∃ R, R = spanB lo hi := ⟨_, rfl⟩
  rw [← hR]
  unfold spanB at hR
  have HR := Lib.hid hR
  clear hR
  have HB : Hid (Blk (w.alloc (.cells #[.string (Str lo), .string (Str hi)] 41)) w.heap.size 41 #[.string (Str lo), .string (Str hi)]) := Lib.hid (Blk.new _ _ _)
  have HG := Lib.hid ((Grown.refl w).alloc (.cells #[.string (Str lo), .string (Str hi)] 41))
  cases hq : emptyB (lo, hi) with
  | true =>
    rw [hq] at HE HR
    have Hr : Hid (R = false) := Lib.hid (by rw [HR.out]; rfl)
    clear hq HR
    go_enter Tryz.func85, Tryz.ntmps85
    go_wp2_with (go_at_call 32; refine (HE.out _).mono ?_; rintro e w2 ⟨rfl, hg2⟩; have G2 := Lib.hid (HG.out.trans hg2); have b0 := (hg2.blk HB.out).c0 0 _ rfl; have b1 := (hg2.blk HB.out).c0 1 _ rfl; clear hg2)
    go_ret
    exact ⟨ret_bool (by rw [Hr.out]), G2.out⟩
  | false =>
    rw [hq] at HE HR
    by_cases h1 : (lo.length : Int) ≤ 65535
    · have d1 : decide (lo.length ≤ 65535) = true := by simp; omega
      have e1 : decide ((lo.length : Int) ≤ 65535) = true := by simp; omega
      by_cases h2 : (hi.length : Int) ≤ 65535
      · have d2 : decide (hi.length ≤ 65535) = true := by simp; omega
        have e2 : decide ((hi.length : Int) ≤ 65535) = true := by simp; omega
        have Hr : Hid (R = true) := Lib.hid (by rw [HR.out, d1, d2]; rfl)
        clear hq HR
        go_enter Tryz.func85, Tryz.ntmps85
        go_wp2_with (go_at_call 32; refine (HE.out _).mono ?_; rintro e w2 ⟨rfl, hg2⟩; have G2 := Lib.hid (HG.out.trans hg2); have b0 := (hg2.blk HB.out).c0 0 _ rfl; have b1 := (hg2.blk HB.out).c0 1 _ rfl; clear hg2)
        go_ret
        exact ⟨ret_bool (by rw [Hr.out]), G2.out⟩
      · have d2 : decide (hi.length ≤ 65535) = false := by simp; omega
        have e2 : decide ((hi.length : Int) ≤ 65535) = false := by simp; omega
        have Hr : Hid (R = false) := Lib.hid (by rw [HR.out, d1, d2]; rfl)
        clear hq HR
        go_enter Tryz.func85, Tryz.ntmps85
        go_wp2_with (go_at_call 32; refine (HE.out _).mono ?_; rintro e w2 ⟨rfl, hg2⟩; have G2 := Lib.hid (HG.out.trans hg2); have b0 := (hg2.blk HB.out).c0 0 _ rfl; have b1 := (hg2.blk HB.out).c0 1 _ rfl; clear hg2)
        go_ret
        exact ⟨ret_bool (by rw [Hr.out]; first | done | (symm; simp; done) | (symm; simp; omega)), G2.out⟩
    · have d1 : decide (lo.length ≤ 65535) = false := by simp; omega
      have e1 : decide ((lo.length : Int) ≤ 65535) = false := by simp; omega
      have Hr : Hid (R = false) := Lib.hid (by rw [HR.out, d1]; rfl)
      clear hq HR
      go_enter Tryz.func85, Tryz.ntmps85
      go_wp2_with (go_at_call 32; refine (HE.out _).mono ?_; rintro e w2 ⟨rfl, hg2⟩; have G2 := Lib.hid (HG.out.trans hg2); have b0 := (hg2.blk HB.out).c0 0 _ rfl; have b1 := (hg2.blk HB.out).c0 1 _ rfl; clear hg2)
      go_ret
      exact ⟨ret_bool (by rw [Hr.out]; first | done | (symm; simp; done) | (symm; simp; omega)), G2.out⟩
theorem eightCV {w : World} {b : Nat} {T : TypeId} {x0 x1 x2 x3 x4 x5 x6 x7 : Value} (h : Blk w b T #[x0, x1, x2, x3, x4, x5, x6, x7]) :
    w.cell? ⟨b, 0, none⟩ = some x0 ∧ w.cell? ⟨b, 1, none⟩ = some x1 ∧ w.cell? ⟨b, 2, none⟩ = some x2 ∧ w.cell? ⟨b, 3, none⟩ = some x3 ∧ w.cell? ⟨b, 4, none⟩ = some x4 ∧ w.cell? ⟨b, 5, none⟩ = some x5 ∧ w.cell? ⟨b, 6, none⟩ = some x6 ∧ w.cell? ⟨b, 7, none⟩ = some x7 :=
  ⟨h.c0 0 _ rfl, h.c0 1 _ rfl, h.c0 2 _ rfl, h.c0 3 _ rfl, h.c0 4 _ rfl, h.c0 5 _ rfl, h.c0 6 _ rfl, h.c0 7 _ rfl⟩
set_option maxRecDepth 100000 in
set_option maxHeartbeats 8000000 in
theorem rvalidK1_w (ky va lo hi sr ds : Bs) (n : Int) (w : World) (hz : SizeM ⟨1, ky, va, lo, hi, sr, ds, n⟩) : Calls Tryz.prog 29 #[msgV ⟨1, ky, va, lo, hi, sr, ds, n⟩] w fun e w' => e = .returned (.bool (validM ⟨1, ky, va, lo, hi, sr, ds, n⟩)) ∧ Below w.heap.size w w' := by
  have mixed := mixedA
  obtain ⟨z1, z2, z3, z4, z5, z6⟩ := hz
  dsimp only at z1 z2 z3 z4 z5 z6
  have hB : Blk (w.alloc (.cells (encM ⟨1, ky, va, lo, hi, sr, ds, n⟩) 46)) w.heap.size 46 (encM ⟨1, ky, va, lo, hi, sr, ds, n⟩) := Blk.new _ _ _
  have H1 := Lib.hid (fun wx => r5inV_w (ky.length : Int) 1 65535 wx)
  have H2 := Lib.hid (fun wx => r5inV_w n 0 1000000000 wx)
  obtain ⟨R, hR⟩ : ∃ R, R = validM ⟨1, ky, va, lo, hi, sr, ds, n⟩ := ⟨_, rfl⟩
  rw [← hR]
  have HR0 : Hid (R = ((keyB ky && (decide (va.length ≤ 64) && stampB n)) && decide ((⟨1, ky, va, lo, hi, sr, ds, n⟩ : Ms) = ⟨1, ky, va, [], [], [], [], n⟩))) := Lib.hid (by
    rw [hR]
    show ((keyB ky && (decide (va.length ≤ 64) && stampB n)) && decide (bareM ⟨1, ky, va, lo, hi, sr, ds, n⟩ = zeroM 1)) = _
    congr 1
    rw [decide_eq_decide]
    show (bareM ⟨1, ky, va, lo, hi, sr, ds, n⟩ = zeroM 1) ↔ _
    simp [bareM, zeroM])
  have HQ2 : ∀ wx, (binOp .eql 46 (.agg #[.int .i64 1, .string (Str ky), .string (Str va), .string (Str lo), .string (Str hi), .string (Str sr), .string (Str ds), .int .i64 n]) (.agg #[.int .i64 1, .string (Str ky), .string (Str va), .string ⟨#[]⟩, .string ⟨#[]⟩, .string ⟨#[]⟩, .string ⟨#[]⟩, .int .i64 n])).run Tryz.prog wx = .ok (.bool (decide ((⟨1, ky, va, lo, hi, sr, ds, n⟩ : Ms) = ⟨1, ky, va, [], [], [], [], n⟩))) wx := fun wx => eql_msg ⟨1, ky, va, lo, hi, sr, ds, n⟩ ⟨1, ky, va, [], [], [], [], n⟩ wx
  generalize decide ((⟨1, ky, va, lo, hi, sr, ds, n⟩ : Ms) = ⟨1, ky, va, [], [], [], [], n⟩) = qe at *
  rw [key_in] at HR0
  rw [stamp_in] at HR0
  generalize inZ 1 65535 (ky.length : Int) = q0 at *
  generalize inZ 0 1000000000 n = q1 at *
  obtain ⟨W1, hW1⟩ : ∃ W1, W1 = w.alloc (.cells (encM ⟨1, ky, va, lo, hi, sr, ds, n⟩) 46) := ⟨_, rfl⟩
  rw [← hW1] at hB
  have hg1 : Below w.heap.size w W1 := by rw [hW1]; exact below_box _
  have HB := Lib.hid hB
  have HG1 := Lib.hid hg1
  have HW1 := Lib.hid hW1
  have HS0 : Hid (Below W1.heap.size W1 W1) := Lib.hid (Below.refl _ _)
  have hlt1 := hB.lt
  clear hB hg1 hW1 hR
  go_enter Tryz.func29, Tryz.ntmps29
  go_wp2_with fail
  rw [← HW1.out]
  have x1 : ∀ wx, Below W1.heap.size W1 wx → wx.cell? ⟨w.heap.size, 1, none⟩ = some (.string (Str ky)) := fun wx hx => (Blk.below HB.out hx HB.out.lt).c0 1 _ rfl
  have x7 : ∀ wx, Below W1.heap.size W1 wx → wx.cell? ⟨w.heap.size, 7, none⟩ = some (.int .i64 n) := fun wx hx => (Blk.below HB.out hx HB.out.lt).c0 7 _ rfl
  go_cut [3, 4] (fun s3 s4 wx => s3 = .bool q0 ∧ s4 = .bool q1 ∧ Hid (Below W1.heap.size W1 wx))
  case first =>
    go_region_held3 (fun wx => Below W1.heap.size W1 wx)
      (repeat (first | with_reducible assumption | with_reducible exact HS0.out | with_reducible refine Below.drew ?_ | with_reducible refine keepBA ?_ _))
      (first
        | (go_at_call_of 84 (Value.int .i64 65535); (refine (H1.out _).mono ?_); rintro e2 y2 ⟨rfl, hG2⟩; have hS2 : Below W1.heap.size W1 y2 := keepBG (by repeat (first | with_reducible assumption | with_reducible exact HS0.out | with_reducible refine Below.drew ?_)) hG2)
        | (go_at_call 84; (refine (H2.out _).mono ?_); rintro e3 y3 ⟨rfl, hG3⟩; have hS3 : Below W1.heap.size W1 y3 := keepBG (by repeat (first | with_reducible assumption | with_reducible exact HS0.out | with_reducible refine Below.drew ?_)) hG3)
        | fail "no arm")
    all_goals (go_wp2_with fail; go_meet)
    all_goals exact ⟨rfl, rfl, Lib.hid hS3⟩
  case rest =>
    obtain ⟨rfl, rfl, hcut⟩ := hcut
    clear x1 x7
    have HBc := Lib.hid (Blk.below HB.out hcut.out HB.out.lt)
    have hBL := Lib.hid (HG1.out.trans (hcut.out.mono HG1.out.size))
    obtain ⟨c0, c1, c2, c3, c4, c5, c6, c7⟩ := eightCV HBc.out
    clear H1 H2
    cases q0 with
    | false =>
      have Hr : Hid (R = false) := Lib.hid (by rw [HR0.out]; first | rfl | simp)
      clear HR0
      go_wp2
      go_ret
      exact ⟨ret_bool (by rw [Hr.out]), hBL.out⟩
    | true =>
      by_cases hv : (va.length : Int) ≤ 64
      · have hv1 : decide (va.length ≤ 64) = true := by simp; omega
        have hv2 : decide ((va.length : Int) ≤ 64) = true := by simp; omega
        rw [hv1] at HR0
        cases q1 with
        | false =>
          have Hr : Hid (R = false) := Lib.hid (by rw [HR0.out]; first | rfl | simp)
          clear HR0
          go_wp2
          go_ret
          exact ⟨ret_bool (by rw [Hr.out]), hBL.out⟩
        | true =>
          cases qe with
          | false =>
            have Hr : Hid (R = false) := Lib.hid (by rw [HR0.out]; first | rfl | simp)
            clear HR0
            go_wp2
            go_ret
            exact ⟨ret_bool (by rw [Hr.out]), hBL.out⟩
          | true =>
            have Hr : Hid (R = true) := Lib.hid (by rw [HR0.out]; first | rfl | simp)
            clear HR0
            go_wp2
            go_ret
            exact ⟨ret_bool (by rw [Hr.out]), hBL.out⟩
      · have hv1 : decide (va.length ≤ 64) = false := by simp; omega
        have hv2 : decide ((va.length : Int) ≤ 64) = false := by simp; omega
        have hv3 : (64 : Int) < (va.length : Int) := by omega
        rw [hv1] at HR0
        have Hr : Hid (R = false) := Lib.hid (by rw [HR0.out]; first | rfl | simp)
        clear HR0
        go_wp2
        go_ret
        exact ⟨ret_bool (by rw [Hr.out]), hBL.out⟩
set_option maxRecDepth 100000 in
set_option maxHeartbeats 8000000 in
theorem rvalidK2_w (ky va lo hi sr ds : Bs) (n : Int) (w : World) (hz : SizeM ⟨2, ky, va, lo, hi, sr, ds, n⟩) : Calls Tryz.prog 29 #[msgV ⟨2, ky, va, lo, hi, sr, ds, n⟩] w fun e w' => e = .returned (.bool (validM ⟨2, ky, va, lo, hi, sr, ds, n⟩)) ∧ Below w.heap.size w w' := by
  have mixed := mixedA
  obtain ⟨z1, z2, z3, z4, z5, z6⟩ := hz
  dsimp only at z1 z2 z3 z4 z5 z6
  have hB : Blk (w.alloc (.cells (encM ⟨2, ky, va, lo, hi, sr, ds, n⟩) 46)) w.heap.size 46 (encM ⟨2, ky, va, lo, hi, sr, ds, n⟩) := Blk.new _ _ _
  have H1 := Lib.hid (fun wx => r5inV_w (ky.length : Int) 1 65535 wx)
  have H2 := Lib.hid (fun wx => r5inV_w n 0 1000000000 wx)
  obtain ⟨R, hR⟩ : ∃ R, R = validM ⟨2, ky, va, lo, hi, sr, ds, n⟩ := ⟨_, rfl⟩
  rw [← hR]
  have HR0 : Hid (R = ((keyB ky) && decide ((⟨2, ky, va, lo, hi, sr, ds, n⟩ : Ms) = ⟨2, ky, [], [], [], [], [], 0⟩))) := Lib.hid (by
    rw [hR]
    show (keyB ky && decide (bareM ⟨2, ky, va, lo, hi, sr, ds, n⟩ = zeroM 2)) = _
    congr 1
    rw [decide_eq_decide]
    show (bareM ⟨2, ky, va, lo, hi, sr, ds, n⟩ = zeroM 2) ↔ _
    simp [bareM, zeroM])
  have HQ2 : ∀ wx, (binOp .eql 46 (.agg #[.int .i64 2, .string (Str ky), .string (Str va), .string (Str lo), .string (Str hi), .string (Str sr), .string (Str ds), .int .i64 n]) (.agg #[.int .i64 2, .string (Str ky), .string ⟨#[]⟩, .string ⟨#[]⟩, .string ⟨#[]⟩, .string ⟨#[]⟩, .string ⟨#[]⟩, .int .i64 0])).run Tryz.prog wx = .ok (.bool (decide ((⟨2, ky, va, lo, hi, sr, ds, n⟩ : Ms) = ⟨2, ky, [], [], [], [], [], 0⟩))) wx := fun wx => eql_msg ⟨2, ky, va, lo, hi, sr, ds, n⟩ ⟨2, ky, [], [], [], [], [], 0⟩ wx
  generalize decide ((⟨2, ky, va, lo, hi, sr, ds, n⟩ : Ms) = ⟨2, ky, [], [], [], [], [], 0⟩) = qe at *
  rw [key_in] at HR0
  generalize inZ 1 65535 (ky.length : Int) = q0 at *
  generalize inZ 0 1000000000 n = q1 at *
  obtain ⟨W1, hW1⟩ : ∃ W1, W1 = w.alloc (.cells (encM ⟨2, ky, va, lo, hi, sr, ds, n⟩) 46) := ⟨_, rfl⟩
  rw [← hW1] at hB
  have hg1 : Below w.heap.size w W1 := by rw [hW1]; exact below_box _
  have HB := Lib.hid hB
  have HG1 := Lib.hid hg1
  have HW1 := Lib.hid hW1
  have HS0 : Hid (Below W1.heap.size W1 W1) := Lib.hid (Below.refl _ _)
  have hlt1 := hB.lt
  clear hB hg1 hW1 hR
  go_enter Tryz.func29, Tryz.ntmps29
  go_wp2_with fail
  rw [← HW1.out]
  have x1 : ∀ wx, Below W1.heap.size W1 wx → wx.cell? ⟨w.heap.size, 1, none⟩ = some (.string (Str ky)) := fun wx hx => (Blk.below HB.out hx HB.out.lt).c0 1 _ rfl
  have x7 : ∀ wx, Below W1.heap.size W1 wx → wx.cell? ⟨w.heap.size, 7, none⟩ = some (.int .i64 n) := fun wx hx => (Blk.below HB.out hx HB.out.lt).c0 7 _ rfl
  go_cut [3, 4] (fun s3 s4 wx => s3 = .bool q0 ∧ s4 = .bool q1 ∧ Hid (Below W1.heap.size W1 wx))
  case first =>
    go_region_held3 (fun wx => Below W1.heap.size W1 wx)
      (repeat (first | with_reducible assumption | with_reducible exact HS0.out | with_reducible refine Below.drew ?_ | with_reducible refine keepBA ?_ _))
      (first
        | (go_at_call_of 84 (Value.int .i64 65535); (refine (H1.out _).mono ?_); rintro e2 y2 ⟨rfl, hG2⟩; have hS2 : Below W1.heap.size W1 y2 := keepBG (by repeat (first | with_reducible assumption | with_reducible exact HS0.out | with_reducible refine Below.drew ?_)) hG2)
        | (go_at_call 84; (refine (H2.out _).mono ?_); rintro e3 y3 ⟨rfl, hG3⟩; have hS3 : Below W1.heap.size W1 y3 := keepBG (by repeat (first | with_reducible assumption | with_reducible exact HS0.out | with_reducible refine Below.drew ?_)) hG3)
        | fail "no arm")
    all_goals (go_wp2_with fail; go_meet)
    all_goals exact ⟨rfl, rfl, Lib.hid hS3⟩
  case rest =>
    obtain ⟨rfl, rfl, hcut⟩ := hcut
    clear x1 x7
    have HBc := Lib.hid (Blk.below HB.out hcut.out HB.out.lt)
    have hBL := Lib.hid (HG1.out.trans (hcut.out.mono HG1.out.size))
    obtain ⟨c0, c1, c2, c3, c4, c5, c6, c7⟩ := eightCV HBc.out
    clear H1 H2
    cases q0 with
    | false =>
      have Hr : Hid (R = false) := Lib.hid (by rw [HR0.out]; first | rfl | simp)
      clear HR0
      go_wp2
      go_ret
      exact ⟨ret_bool (by rw [Hr.out]), hBL.out⟩
    | true =>
      cases qe with
      | false =>
        have Hr : Hid (R = false) := Lib.hid (by rw [HR0.out]; first | rfl | simp)
        clear HR0
        go_wp2
        go_ret
        exact ⟨ret_bool (by rw [Hr.out]), hBL.out⟩
      | true =>
        have Hr : Hid (R = true) := Lib.hid (by rw [HR0.out]; first | rfl | simp)
        clear HR0
        go_wp2
        go_ret
        exact ⟨ret_bool (by rw [Hr.out]), hBL.out⟩
set_option maxRecDepth 100000 in
set_option maxHeartbeats 8000000 in
theorem rvalidK3_w (ky va lo hi sr ds : Bs) (n : Int) (w : World) (hz : SizeM ⟨3, ky, va, lo, hi, sr, ds, n⟩) : Calls Tryz.prog 29 #[msgV ⟨3, ky, va, lo, hi, sr, ds, n⟩] w fun e w' => e = .returned (.bool (validM ⟨3, ky, va, lo, hi, sr, ds, n⟩)) ∧ Below w.heap.size w w' := by
  have mixed := mixedA
  obtain ⟨z1, z2, z3, z4, z5, z6⟩ := hz
  dsimp only at z1 z2 z3 z4 z5 z6
  have hB : Blk (w.alloc (.cells (encM ⟨3, ky, va, lo, hi, sr, ds, n⟩) 46)) w.heap.size 46 (encM ⟨3, ky, va, lo, hi, sr, ds, n⟩) := Blk.new _ _ _
  have H1 := Lib.hid (fun wx => r5inV_w (ky.length : Int) 1 65535 wx)
  have H2 := Lib.hid (fun wx => r5inV_w n 0 1000000000 wx)
  obtain ⟨R, hR⟩ : ∃ R, R = validM ⟨3, ky, va, lo, hi, sr, ds, n⟩ := ⟨_, rfl⟩
  rw [← hR]
  have HR0 : Hid (R = ((spanB lo hi) && decide ((⟨3, ky, va, lo, hi, sr, ds, n⟩ : Ms) = ⟨3, [], [], lo, hi, [], [], 0⟩))) := Lib.hid (by
    rw [hR]
    show (spanB lo hi && decide (bareM ⟨3, ky, va, lo, hi, sr, ds, n⟩ = zeroM 3)) = _
    congr 1
    rw [decide_eq_decide]
    show (bareM ⟨3, ky, va, lo, hi, sr, ds, n⟩ = zeroM 3) ↔ _
    simp [bareM, zeroM])
  have HQ2 : ∀ wx, (binOp .eql 46 (.agg #[.int .i64 3, .string (Str ky), .string (Str va), .string (Str lo), .string (Str hi), .string (Str sr), .string (Str ds), .int .i64 n]) (.agg #[.int .i64 3, .string ⟨#[]⟩, .string ⟨#[]⟩, .string (Str lo), .string (Str hi), .string ⟨#[]⟩, .string ⟨#[]⟩, .int .i64 0])).run Tryz.prog wx = .ok (.bool (decide ((⟨3, ky, va, lo, hi, sr, ds, n⟩ : Ms) = ⟨3, [], [], lo, hi, [], [], 0⟩))) wx := fun wx => eql_msg ⟨3, ky, va, lo, hi, sr, ds, n⟩ ⟨3, [], [], lo, hi, [], [], 0⟩ wx
  generalize decide ((⟨3, ky, va, lo, hi, sr, ds, n⟩ : Ms) = ⟨3, [], [], lo, hi, [], [], 0⟩) = qe at *
  have HSP := Lib.hid (fun wx => r5spanV_w lo hi wx)
  generalize spanB lo hi = qs at *
  generalize inZ 1 65535 (ky.length : Int) = q0 at *
  generalize inZ 0 1000000000 n = q1 at *
  obtain ⟨W1, hW1⟩ : ∃ W1, W1 = w.alloc (.cells (encM ⟨3, ky, va, lo, hi, sr, ds, n⟩) 46) := ⟨_, rfl⟩
  rw [← hW1] at hB
  have hg1 : Below w.heap.size w W1 := by rw [hW1]; exact below_box _
  have HB := Lib.hid hB
  have HG1 := Lib.hid hg1
  have HW1 := Lib.hid hW1
  have HS0 : Hid (Below W1.heap.size W1 W1) := Lib.hid (Below.refl _ _)
  have hlt1 := hB.lt
  clear hB hg1 hW1 hR
  go_enter Tryz.func29, Tryz.ntmps29
  go_wp2_with fail
  rw [← HW1.out]
  have x1 : ∀ wx, Below W1.heap.size W1 wx → wx.cell? ⟨w.heap.size, 1, none⟩ = some (.string (Str ky)) := fun wx hx => (Blk.below HB.out hx HB.out.lt).c0 1 _ rfl
  have x7 : ∀ wx, Below W1.heap.size W1 wx → wx.cell? ⟨w.heap.size, 7, none⟩ = some (.int .i64 n) := fun wx hx => (Blk.below HB.out hx HB.out.lt).c0 7 _ rfl
  go_cut [3, 4] (fun s3 s4 wx => s3 = .bool q0 ∧ s4 = .bool q1 ∧ Hid (Below W1.heap.size W1 wx))
  case first =>
    go_region_held3 (fun wx => Below W1.heap.size W1 wx)
      (repeat (first | with_reducible assumption | with_reducible exact HS0.out | with_reducible refine Below.drew ?_ | with_reducible refine keepBA ?_ _))
      (first
        | (go_at_call_of 84 (Value.int .i64 65535); (refine (H1.out _).mono ?_); rintro e2 y2 ⟨rfl, hG2⟩; have hS2 : Below W1.heap.size W1 y2 := keepBG (by repeat (first | with_reducible assumption | with_reducible exact HS0.out | with_reducible refine Below.drew ?_)) hG2)
        | (go_at_call 84; (refine (H2.out _).mono ?_); rintro e3 y3 ⟨rfl, hG3⟩; have hS3 : Below W1.heap.size W1 y3 := keepBG (by repeat (first | with_reducible assumption | with_reducible exact HS0.out | with_reducible refine Below.drew ?_)) hG3)
        | fail "no arm")
    all_goals (go_wp2_with fail; go_meet)
    all_goals exact ⟨rfl, rfl, Lib.hid hS3⟩
  case rest =>
    obtain ⟨rfl, rfl, hcut⟩ := hcut
    clear x1 x7
    have HBc := Lib.hid (Blk.below HB.out hcut.out HB.out.lt)
    have hBL := Lib.hid (HG1.out.trans (hcut.out.mono HG1.out.size))
    obtain ⟨c0, c1, c2, c3, c4, c5, c6, c7⟩ := eightCV HBc.out
    clear H1 H2
    cases qs with
    | false =>
      have Hr : Hid (R = false) := Lib.hid (by rw [HR0.out]; first | rfl | simp)
      clear HR0
      go_wp2_with (go_at_call 85; refine (HSP.out _).mono ?_; rintro e w5 ⟨rfl, hg5⟩; have HBd := Lib.hid (hg5.blk HBc.out); have hBM := Lib.hid (hBL.out.trans (hg5.below hBL.out.size)); obtain ⟨d0, d1, d2, d3, d4, d5, d6, d7⟩ := eightCV HBd.out; clear hg5)
      go_ret
      exact ⟨ret_bool (by rw [Hr.out]), hBM.out⟩
    | true =>
      cases qe with
      | false =>
        have Hr : Hid (R = false) := Lib.hid (by rw [HR0.out]; first | rfl | simp)
        clear HR0
        go_wp2_with (go_at_call 85; refine (HSP.out _).mono ?_; rintro e w5 ⟨rfl, hg5⟩; have HBd := Lib.hid (hg5.blk HBc.out); have hBM := Lib.hid (hBL.out.trans (hg5.below hBL.out.size)); obtain ⟨d0, d1, d2, d3, d4, d5, d6, d7⟩ := eightCV HBd.out; clear hg5)
        go_ret
        exact ⟨ret_bool (by rw [Hr.out]), hBM.out⟩
      | true =>
        have Hr : Hid (R = true) := Lib.hid (by rw [HR0.out]; first | rfl | simp)
        clear HR0
        go_wp2_with (go_at_call 85; refine (HSP.out _).mono ?_; rintro e w5 ⟨rfl, hg5⟩; have HBd := Lib.hid (hg5.blk HBc.out); have hBM := Lib.hid (hBL.out.trans (hg5.below hBL.out.size)); obtain ⟨d0, d1, d2, d3, d4, d5, d6, d7⟩ := eightCV HBd.out; clear hg5)
        go_ret
        exact ⟨ret_bool (by rw [Hr.out]), hBM.out⟩
set_option maxRecDepth 100000 in
set_option maxHeartbeats 8000000 in
theorem rvalidK4_w (ky va lo hi sr ds : Bs) (n : Int) (w : World) (hz : SizeM ⟨4, ky, va, lo, hi, sr, ds, n⟩) : Calls Tryz.prog 29 #[msgV ⟨4, ky, va, lo, hi, sr, ds, n⟩] w fun e w' => e = .returned (.bool (validM ⟨4, ky, va, lo, hi, sr, ds, n⟩)) ∧ Below w.heap.size w w' := by
  have mixed := mixedA
  obtain ⟨z1, z2, z3, z4, z5, z6⟩ := hz
  dsimp only at z1 z2 z3 z4 z5 z6
  have hB : Blk (w.alloc (.cells (encM ⟨4, ky, va, lo, hi, sr, ds, n⟩) 46)) w.heap.size 46 (encM ⟨4, ky, va, lo, hi, sr, ds, n⟩) := Blk.new _ _ _
  have H1 := Lib.hid (fun wx => r5inV_w (ky.length : Int) 1 65535 wx)
  have H2 := Lib.hid (fun wx => r5inV_w n 0 1000000000 wx)
  obtain ⟨R, hR⟩ : ∃ R, R = validM ⟨4, ky, va, lo, hi, sr, ds, n⟩ := ⟨_, rfl⟩
  rw [← hR]
  have HR0 : Hid (R = ((apartB sr ds) && decide ((⟨4, ky, va, lo, hi, sr, ds, n⟩ : Ms) = ⟨4, [], [], [], [], sr, ds, 0⟩))) := Lib.hid (by
    rw [hR]
    show (apartB sr ds && decide (bareM ⟨4, ky, va, lo, hi, sr, ds, n⟩ = zeroM 4)) = _
    congr 1
    rw [decide_eq_decide]
    show (bareM ⟨4, ky, va, lo, hi, sr, ds, n⟩ = zeroM 4) ↔ _
    simp [bareM, zeroM])
  have HQ2 : ∀ wx, (binOp .eql 46 (.agg #[.int .i64 4, .string (Str ky), .string (Str va), .string (Str lo), .string (Str hi), .string (Str sr), .string (Str ds), .int .i64 n]) (.agg #[.int .i64 4, .string ⟨#[]⟩, .string ⟨#[]⟩, .string ⟨#[]⟩, .string ⟨#[]⟩, .string (Str sr), .string (Str ds), .int .i64 0])).run Tryz.prog wx = .ok (.bool (decide ((⟨4, ky, va, lo, hi, sr, ds, n⟩ : Ms) = ⟨4, [], [], [], [], sr, ds, 0⟩))) wx := fun wx => eql_msg ⟨4, ky, va, lo, hi, sr, ds, n⟩ ⟨4, [], [], [], [], sr, ds, 0⟩ wx
  generalize decide ((⟨4, ky, va, lo, hi, sr, ds, n⟩ : Ms) = ⟨4, [], [], [], [], sr, ds, 0⟩) = qe at *
  have HP1 := Lib.hid (fun wx => begins_w sr ds wx (by omega) (by omega))
  have HP2 := Lib.hid (fun wx => begins_w ds sr wx (by omega) (by omega))
  have HI1 := Lib.hid (fun wx => r5inV_w (sr.length : Int) 1 200 wx)
  have HI2 := Lib.hid (fun wx => r5inV_w (ds.length : Int) 1 200 wx)
  unfold apartB at HR0
  rw [front_in, front_in] at HR0
  generalize inZ 1 200 (sr.length : Int) = f1 at *
  generalize inZ 1 200 (ds.length : Int) = f2 at *
  generalize ds.isPrefixOf sr = b1 at *
  generalize sr.isPrefixOf ds = b2 at *
  generalize inZ 1 65535 (ky.length : Int) = q0 at *
  generalize inZ 0 1000000000 n = q1 at *
  obtain ⟨W1, hW1⟩ : ∃ W1, W1 = w.alloc (.cells (encM ⟨4, ky, va, lo, hi, sr, ds, n⟩) 46) := ⟨_, rfl⟩
  rw [← hW1] at hB
  have hg1 : Below w.heap.size w W1 := by rw [hW1]; exact below_box _
  have HB := Lib.hid hB
  have HG1 := Lib.hid hg1
  have HW1 := Lib.hid hW1
  have HS0 : Hid (Below W1.heap.size W1 W1) := Lib.hid (Below.refl _ _)
  have hlt1 := hB.lt
  clear hB hg1 hW1 hR
  go_enter Tryz.func29, Tryz.ntmps29
  go_wp2_with fail
  rw [← HW1.out]
  have x1 : ∀ wx, Below W1.heap.size W1 wx → wx.cell? ⟨w.heap.size, 1, none⟩ = some (.string (Str ky)) := fun wx hx => (Blk.below HB.out hx HB.out.lt).c0 1 _ rfl
  have x7 : ∀ wx, Below W1.heap.size W1 wx → wx.cell? ⟨w.heap.size, 7, none⟩ = some (.int .i64 n) := fun wx hx => (Blk.below HB.out hx HB.out.lt).c0 7 _ rfl
  go_cut [3, 4] (fun s3 s4 wx => s3 = .bool q0 ∧ s4 = .bool q1 ∧ Hid (Below W1.heap.size W1 wx))
  case first =>
    go_region_held3 (fun wx => Below W1.heap.size W1 wx)
      (repeat (first | with_reducible assumption | with_reducible exact HS0.out | with_reducible refine Below.drew ?_ | with_reducible refine keepBA ?_ _))
      (first
        | (go_at_call_of 84 (Value.int .i64 65535); (refine (H1.out _).mono ?_); rintro e2 y2 ⟨rfl, hG2⟩; have hS2 : Below W1.heap.size W1 y2 := keepBG (by repeat (first | with_reducible assumption | with_reducible exact HS0.out | with_reducible refine Below.drew ?_)) hG2)
        | (go_at_call 84; (refine (H2.out _).mono ?_); rintro e3 y3 ⟨rfl, hG3⟩; have hS3 : Below W1.heap.size W1 y3 := keepBG (by repeat (first | with_reducible assumption | with_reducible exact HS0.out | with_reducible refine Below.drew ?_)) hG3)
        | fail "no arm")
    all_goals (go_wp2_with fail; go_meet)
    all_goals exact ⟨rfl, rfl, Lib.hid hS3⟩
  case rest =>
    obtain ⟨rfl, rfl, hcut⟩ := hcut
    clear x1 x7
    have HBc := Lib.hid (Blk.below HB.out hcut.out HB.out.lt)
    have hBL := Lib.hid (HG1.out.trans (hcut.out.mono HG1.out.size))
    obtain ⟨c0, c1, c2, c3, c4, c5, c6, c7⟩ := eightCV HBc.out
    clear H1 H2
    cases b1 with
    | true =>
      have Hr : Hid (R = false) := Lib.hid (by rw [HR0.out]; first | rfl | simp)
      clear HR0
      go_wp2_with (first | (go_at_call 86; with_reducible refine (HP1.out _).mono ?_; rintro e w5 ⟨rfl, hg5⟩; have HBd := Lib.hid (hg5.blk HBc.out); have hBM := Lib.hid (hBL.out.trans (hg5.below hBL.out.size)); obtain ⟨d0, d1, d2, d3, d4, d5, d6, d7⟩ := eightCV HBd.out; clear hg5) | (go_at_call 86; with_reducible refine (HP2.out _).mono ?_; rintro e w6 ⟨rfl, hg6⟩; have HBe := Lib.hid (hg6.blk HBd.out); have hBN := Lib.hid (hBM.out.trans (hg6.below hBM.out.size)); obtain ⟨g0, g1, g2, g3, g4, g5, g6, g7⟩ := eightCV HBe.out; clear hg6) | (go_at_call 84; with_reducible refine (HI1.out _).mono ?_; rintro e w7 ⟨rfl, hg7⟩; have HBf := Lib.hid (hg7.blk HBe.out); have hBO := Lib.hid (hBN.out.trans (hg7.below hBN.out.size)); obtain ⟨i0, i1, i2, i3, i4, i5, i6, i7⟩ := eightCV HBf.out; clear hg7) | (go_at_call 84; with_reducible refine (HI2.out _).mono ?_; rintro e w8 ⟨rfl, hg8⟩; have HBg := Lib.hid (hg8.blk HBf.out); have hBP := Lib.hid (hBO.out.trans (hg8.below hBO.out.size)); obtain ⟨j0, j1, j2, j3, j4, j5, j6, j7⟩ := eightCV HBg.out; clear hg8))
      go_ret
      exact ⟨ret_bool (by rw [Hr.out]), hBM.out⟩
    | false =>
      cases b2 with
      | true =>
        have Hr : Hid (R = false) := Lib.hid (by rw [HR0.out]; first | rfl | simp)
        clear HR0
        go_wp2_with (first | (go_at_call 86; with_reducible refine (HP1.out _).mono ?_; rintro e w5 ⟨rfl, hg5⟩; have HBd := Lib.hid (hg5.blk HBc.out); have hBM := Lib.hid (hBL.out.trans (hg5.below hBL.out.size)); obtain ⟨d0, d1, d2, d3, d4, d5, d6, d7⟩ := eightCV HBd.out; clear hg5) | (go_at_call 86; with_reducible refine (HP2.out _).mono ?_; rintro e w6 ⟨rfl, hg6⟩; have HBe := Lib.hid (hg6.blk HBd.out); have hBN := Lib.hid (hBM.out.trans (hg6.below hBM.out.size)); obtain ⟨g0, g1, g2, g3, g4, g5, g6, g7⟩ := eightCV HBe.out; clear hg6) | (go_at_call 84; with_reducible refine (HI1.out _).mono ?_; rintro e w7 ⟨rfl, hg7⟩; have HBf := Lib.hid (hg7.blk HBe.out); have hBO := Lib.hid (hBN.out.trans (hg7.below hBN.out.size)); obtain ⟨i0, i1, i2, i3, i4, i5, i6, i7⟩ := eightCV HBf.out; clear hg7) | (go_at_call 84; with_reducible refine (HI2.out _).mono ?_; rintro e w8 ⟨rfl, hg8⟩; have HBg := Lib.hid (hg8.blk HBf.out); have hBP := Lib.hid (hBO.out.trans (hg8.below hBO.out.size)); obtain ⟨j0, j1, j2, j3, j4, j5, j6, j7⟩ := eightCV HBg.out; clear hg8))
        go_ret
        exact ⟨ret_bool (by rw [Hr.out]), hBN.out⟩
      | false =>
        cases f1 with
        | false =>
          have Hr : Hid (R = false) := Lib.hid (by rw [HR0.out]; first | rfl | simp)
          clear HR0
          go_wp2_with (first | (go_at_call 86; with_reducible refine (HP1.out _).mono ?_; rintro e w5 ⟨rfl, hg5⟩; have HBd := Lib.hid (hg5.blk HBc.out); have hBM := Lib.hid (hBL.out.trans (hg5.below hBL.out.size)); obtain ⟨d0, d1, d2, d3, d4, d5, d6, d7⟩ := eightCV HBd.out; clear hg5) | (go_at_call 86; with_reducible refine (HP2.out _).mono ?_; rintro e w6 ⟨rfl, hg6⟩; have HBe := Lib.hid (hg6.blk HBd.out); have hBN := Lib.hid (hBM.out.trans (hg6.below hBM.out.size)); obtain ⟨g0, g1, g2, g3, g4, g5, g6, g7⟩ := eightCV HBe.out; clear hg6) | (go_at_call 84; with_reducible refine (HI1.out _).mono ?_; rintro e w7 ⟨rfl, hg7⟩; have HBf := Lib.hid (hg7.blk HBe.out); have hBO := Lib.hid (hBN.out.trans (hg7.below hBN.out.size)); obtain ⟨i0, i1, i2, i3, i4, i5, i6, i7⟩ := eightCV HBf.out; clear hg7) | (go_at_call 84; with_reducible refine (HI2.out _).mono ?_; rintro e w8 ⟨rfl, hg8⟩; have HBg := Lib.hid (hg8.blk HBf.out); have hBP := Lib.hid (hBO.out.trans (hg8.below hBO.out.size)); obtain ⟨j0, j1, j2, j3, j4, j5, j6, j7⟩ := eightCV HBg.out; clear hg8))
          go_ret
          exact ⟨ret_bool (by rw [Hr.out]), hBO.out⟩
        | true =>
          cases f2 with
          | false =>
            have Hr : Hid (R = false) := Lib.hid (by rw [HR0.out]; first | rfl | simp)
            clear HR0
            go_wp2_with (first | (go_at_call 86; with_reducible refine (HP1.out _).mono ?_; rintro e w5 ⟨rfl, hg5⟩; have HBd := Lib.hid (hg5.blk HBc.out); have hBM := Lib.hid (hBL.out.trans (hg5.below hBL.out.size)); obtain ⟨d0, d1, d2, d3, d4, d5, d6, d7⟩ := eightCV HBd.out; clear hg5) | (go_at_call 86; with_reducible refine (HP2.out _).mono ?_; rintro e w6 ⟨rfl, hg6⟩; have HBe := Lib.hid (hg6.blk HBd.out); have hBN := Lib.hid (hBM.out.trans (hg6.below hBM.out.size)); obtain ⟨g0, g1, g2, g3, g4, g5, g6, g7⟩ := eightCV HBe.out; clear hg6) | (go_at_call 84; with_reducible refine (HI1.out _).mono ?_; rintro e w7 ⟨rfl, hg7⟩; have HBf := Lib.hid (hg7.blk HBe.out); have hBO := Lib.hid (hBN.out.trans (hg7.below hBN.out.size)); obtain ⟨i0, i1, i2, i3, i4, i5, i6, i7⟩ := eightCV HBf.out; clear hg7) | (go_at_call 84; with_reducible refine (HI2.out _).mono ?_; rintro e w8 ⟨rfl, hg8⟩; have HBg := Lib.hid (hg8.blk HBf.out); have hBP := Lib.hid (hBO.out.trans (hg8.below hBO.out.size)); obtain ⟨j0, j1, j2, j3, j4, j5, j6, j7⟩ := eightCV HBg.out; clear hg8))
            go_ret
            exact ⟨ret_bool (by rw [Hr.out]), hBP.out⟩
          | true =>
            cases qe with
            | false =>
              have Hr : Hid (R = false) := Lib.hid (by rw [HR0.out]; first | rfl | simp)
              clear HR0
              go_wp2_with (first | (go_at_call 86; with_reducible refine (HP1.out _).mono ?_; rintro e w5 ⟨rfl, hg5⟩; have HBd := Lib.hid (hg5.blk HBc.out); have hBM := Lib.hid (hBL.out.trans (hg5.below hBL.out.size)); obtain ⟨d0, d1, d2, d3, d4, d5, d6, d7⟩ := eightCV HBd.out; clear hg5) | (go_at_call 86; with_reducible refine (HP2.out _).mono ?_; rintro e w6 ⟨rfl, hg6⟩; have HBe := Lib.hid (hg6.blk HBd.out); have hBN := Lib.hid (hBM.out.trans (hg6.below hBM.out.size)); obtain ⟨g0, g1, g2, g3, g4, g5, g6, g7⟩ := eightCV HBe.out; clear hg6) | (go_at_call 84; with_reducible refine (HI1.out _).mono ?_; rintro e w7 ⟨rfl, hg7⟩; have HBf := Lib.hid (hg7.blk HBe.out); have hBO := Lib.hid (hBN.out.trans (hg7.below hBN.out.size)); obtain ⟨i0, i1, i2, i3, i4, i5, i6, i7⟩ := eightCV HBf.out; clear hg7) | (go_at_call 84; with_reducible refine (HI2.out _).mono ?_; rintro e w8 ⟨rfl, hg8⟩; have HBg := Lib.hid (hg8.blk HBf.out); have hBP := Lib.hid (hBO.out.trans (hg8.below hBO.out.size)); obtain ⟨j0, j1, j2, j3, j4, j5, j6, j7⟩ := eightCV HBg.out; clear hg8))
              go_ret
              exact ⟨ret_bool (by rw [Hr.out]), hBP.out⟩
            | true =>
              have Hr : Hid (R = true) := Lib.hid (by rw [HR0.out]; first | rfl | simp)
              clear HR0
              go_wp2_with (first | (go_at_call 86; with_reducible refine (HP1.out _).mono ?_; rintro e w5 ⟨rfl, hg5⟩; have HBd := Lib.hid (hg5.blk HBc.out); have hBM := Lib.hid (hBL.out.trans (hg5.below hBL.out.size)); obtain ⟨d0, d1, d2, d3, d4, d5, d6, d7⟩ := eightCV HBd.out; clear hg5) | (go_at_call 86; with_reducible refine (HP2.out _).mono ?_; rintro e w6 ⟨rfl, hg6⟩; have HBe := Lib.hid (hg6.blk HBd.out); have hBN := Lib.hid (hBM.out.trans (hg6.below hBM.out.size)); obtain ⟨g0, g1, g2, g3, g4, g5, g6, g7⟩ := eightCV HBe.out; clear hg6) | (go_at_call 84; with_reducible refine (HI1.out _).mono ?_; rintro e w7 ⟨rfl, hg7⟩; have HBf := Lib.hid (hg7.blk HBe.out); have hBO := Lib.hid (hBN.out.trans (hg7.below hBN.out.size)); obtain ⟨i0, i1, i2, i3, i4, i5, i6, i7⟩ := eightCV HBf.out; clear hg7) | (go_at_call 84; with_reducible refine (HI2.out _).mono ?_; rintro e w8 ⟨rfl, hg8⟩; have HBg := Lib.hid (hg8.blk HBf.out); have hBP := Lib.hid (hBO.out.trans (hg8.below hBO.out.size)); obtain ⟨j0, j1, j2, j3, j4, j5, j6, j7⟩ := eightCV HBg.out; clear hg8))
              go_ret
              exact ⟨ret_bool (by rw [Hr.out]), hBP.out⟩
set_option maxRecDepth 100000 in
set_option maxHeartbeats 8000000 in
theorem rvalidK5_w (ky va lo hi sr ds : Bs) (n : Int) (w : World) (hz : SizeM ⟨5, ky, va, lo, hi, sr, ds, n⟩) : Calls Tryz.prog 29 #[msgV ⟨5, ky, va, lo, hi, sr, ds, n⟩] w fun e w' => e = .returned (.bool (validM ⟨5, ky, va, lo, hi, sr, ds, n⟩)) ∧ Below w.heap.size w w' := by
  have mixed := mixedA
  obtain ⟨z1, z2, z3, z4, z5, z6⟩ := hz
  dsimp only at z1 z2 z3 z4 z5 z6
  have hB : Blk (w.alloc (.cells (encM ⟨5, ky, va, lo, hi, sr, ds, n⟩) 46)) w.heap.size 46 (encM ⟨5, ky, va, lo, hi, sr, ds, n⟩) := Blk.new _ _ _
  have H1 := Lib.hid (fun wx => r5inV_w (ky.length : Int) 1 65535 wx)
  have H2 := Lib.hid (fun wx => r5inV_w n 0 1000000000 wx)
  obtain ⟨R, hR⟩ : ∃ R, R = validM ⟨5, ky, va, lo, hi, sr, ds, n⟩ := ⟨_, rfl⟩
  rw [← hR]
  have HR0 : Hid (R = ((apartB sr ds) && decide ((⟨5, ky, va, lo, hi, sr, ds, n⟩ : Ms) = ⟨5, [], [], [], [], sr, ds, 0⟩))) := Lib.hid (by
    rw [hR]
    show (apartB sr ds && decide (bareM ⟨5, ky, va, lo, hi, sr, ds, n⟩ = zeroM 5)) = _
    congr 1
    rw [decide_eq_decide]
    show (bareM ⟨5, ky, va, lo, hi, sr, ds, n⟩ = zeroM 5) ↔ _
    simp [bareM, zeroM])
  have HQ2 : ∀ wx, (binOp .eql 46 (.agg #[.int .i64 5, .string (Str ky), .string (Str va), .string (Str lo), .string (Str hi), .string (Str sr), .string (Str ds), .int .i64 n]) (.agg #[.int .i64 5, .string ⟨#[]⟩, .string ⟨#[]⟩, .string ⟨#[]⟩, .string ⟨#[]⟩, .string (Str sr), .string (Str ds), .int .i64 0])).run Tryz.prog wx = .ok (.bool (decide ((⟨5, ky, va, lo, hi, sr, ds, n⟩ : Ms) = ⟨5, [], [], [], [], sr, ds, 0⟩))) wx := fun wx => eql_msg ⟨5, ky, va, lo, hi, sr, ds, n⟩ ⟨5, [], [], [], [], sr, ds, 0⟩ wx
  generalize decide ((⟨5, ky, va, lo, hi, sr, ds, n⟩ : Ms) = ⟨5, [], [], [], [], sr, ds, 0⟩) = qe at *
  have HP1 := Lib.hid (fun wx => begins_w sr ds wx (by omega) (by omega))
  have HP2 := Lib.hid (fun wx => begins_w ds sr wx (by omega) (by omega))
  have HI1 := Lib.hid (fun wx => r5inV_w (sr.length : Int) 1 200 wx)
  have HI2 := Lib.hid (fun wx => r5inV_w (ds.length : Int) 1 200 wx)
  unfold apartB at HR0
  rw [front_in, front_in] at HR0
  generalize inZ 1 200 (sr.length : Int) = f1 at *
  generalize inZ 1 200 (ds.length : Int) = f2 at *
  generalize ds.isPrefixOf sr = b1 at *
  generalize sr.isPrefixOf ds = b2 at *
  generalize inZ 1 65535 (ky.length : Int) = q0 at *
  generalize inZ 0 1000000000 n = q1 at *
  obtain ⟨W1, hW1⟩ : ∃ W1, W1 = w.alloc (.cells (encM ⟨5, ky, va, lo, hi, sr, ds, n⟩) 46) := ⟨_, rfl⟩
  rw [← hW1] at hB
  have hg1 : Below w.heap.size w W1 := by rw [hW1]; exact below_box _
  have HB := Lib.hid hB
  have HG1 := Lib.hid hg1
  have HW1 := Lib.hid hW1
  have HS0 : Hid (Below W1.heap.size W1 W1) := Lib.hid (Below.refl _ _)
  have hlt1 := hB.lt
  clear hB hg1 hW1 hR
  go_enter Tryz.func29, Tryz.ntmps29
  go_wp2_with fail
  rw [← HW1.out]
  have x1 : ∀ wx, Below W1.heap.size W1 wx → wx.cell? ⟨w.heap.size, 1, none⟩ = some (.string (Str ky)) := fun wx hx => (Blk.below HB.out hx HB.out.lt).c0 1 _ rfl
  have x7 : ∀ wx, Below W1.heap.size W1 wx → wx.cell? ⟨w.heap.size, 7, none⟩ = some (.int .i64 n) := fun wx hx => (Blk.below HB.out hx HB.out.lt).c0 7 _ rfl
  go_cut [3, 4] (fun s3 s4 wx => s3 = .bool q0 ∧ s4 = .bool q1 ∧ Hid (Below W1.heap.size W1 wx))
  case first =>
    go_region_held3 (fun wx => Below W1.heap.size W1 wx)
      (repeat (first | with_reducible assumption | with_reducible exact HS0.out | with_reducible refine Below.drew ?_ | with_reducible refine keepBA ?_ _))
      (first
        | (go_at_call_of 84 (Value.int .i64 65535); (refine (H1.out _).mono ?_); rintro e2 y2 ⟨rfl, hG2⟩; have hS2 : Below W1.heap.size W1 y2 := keepBG (by repeat (first | with_reducible assumption | with_reducible exact HS0.out | with_reducible refine Below.drew ?_)) hG2)
        | (go_at_call 84; (refine (H2.out _).mono ?_); rintro e3 y3 ⟨rfl, hG3⟩; have hS3 : Below W1.heap.size W1 y3 := keepBG (by repeat (first | with_reducible assumption | with_reducible exact HS0.out | with_reducible refine Below.drew ?_)) hG3)
        | fail "no arm")
    all_goals (go_wp2_with fail; go_meet)
    all_goals exact ⟨rfl, rfl, Lib.hid hS3⟩
  case rest =>
    obtain ⟨rfl, rfl, hcut⟩ := hcut
    clear x1 x7
    have HBc := Lib.hid (Blk.below HB.out hcut.out HB.out.lt)
    have hBL := Lib.hid (HG1.out.trans (hcut.out.mono HG1.out.size))
    obtain ⟨c0, c1, c2, c3, c4, c5, c6, c7⟩ := eightCV HBc.out
    clear H1 H2
    cases b1 with
    | true =>
      have Hr : Hid (R = false) := Lib.hid (by rw [HR0.out]; first | rfl | simp)
      clear HR0
      go_wp2_with (first | (go_at_call 86; with_reducible refine (HP1.out _).mono ?_; rintro e w5 ⟨rfl, hg5⟩; have HBd := Lib.hid (hg5.blk HBc.out); have hBM := Lib.hid (hBL.out.trans (hg5.below hBL.out.size)); obtain ⟨d0, d1, d2, d3, d4, d5, d6, d7⟩ := eightCV HBd.out; clear hg5) | (go_at_call 86; with_reducible refine (HP2.out _).mono ?_; rintro e w6 ⟨rfl, hg6⟩; have HBe := Lib.hid (hg6.blk HBd.out); have hBN := Lib.hid (hBM.out.trans (hg6.below hBM.out.size)); obtain ⟨g0, g1, g2, g3, g4, g5, g6, g7⟩ := eightCV HBe.out; clear hg6) | (go_at_call 84; with_reducible refine (HI1.out _).mono ?_; rintro e w7 ⟨rfl, hg7⟩; have HBf := Lib.hid (hg7.blk HBe.out); have hBO := Lib.hid (hBN.out.trans (hg7.below hBN.out.size)); obtain ⟨i0, i1, i2, i3, i4, i5, i6, i7⟩ := eightCV HBf.out; clear hg7) | (go_at_call 84; with_reducible refine (HI2.out _).mono ?_; rintro e w8 ⟨rfl, hg8⟩; have HBg := Lib.hid (hg8.blk HBf.out); have hBP := Lib.hid (hBO.out.trans (hg8.below hBO.out.size)); obtain ⟨j0, j1, j2, j3, j4, j5, j6, j7⟩ := eightCV HBg.out; clear hg8))
      go_ret
      exact ⟨ret_bool (by rw [Hr.out]), hBM.out⟩
    | false =>
      cases b2 with
      | true =>
        have Hr : Hid (R = false) := Lib.hid (by rw [HR0.out]; first | rfl | simp)
        clear HR0
        go_wp2_with (first | (go_at_call 86; with_reducible refine (HP1.out _).mono ?_; rintro e w5 ⟨rfl, hg5⟩; have HBd := Lib.hid (hg5.blk HBc.out); have hBM := Lib.hid (hBL.out.trans (hg5.below hBL.out.size)); obtain ⟨d0, d1, d2, d3, d4, d5, d6, d7⟩ := eightCV HBd.out; clear hg5) | (go_at_call 86; with_reducible refine (HP2.out _).mono ?_; rintro e w6 ⟨rfl, hg6⟩; have HBe := Lib.hid (hg6.blk HBd.out); have hBN := Lib.hid (hBM.out.trans (hg6.below hBM.out.size)); obtain ⟨g0, g1, g2, g3, g4, g5, g6, g7⟩ := eightCV HBe.out; clear hg6) | (go_at_call 84; with_reducible refine (HI1.out _).mono ?_; rintro e w7 ⟨rfl, hg7⟩; have HBf := Lib.hid (hg7.blk HBe.out); have hBO := Lib.hid (hBN.out.trans (hg7.below hBN.out.size)); obtain ⟨i0, i1, i2, i3, i4, i5, i6, i7⟩ := eightCV HBf.out; clear hg7) | (go_at_call 84; with_reducible refine (HI2.out _).mono ?_; rintro e w8 ⟨rfl, hg8⟩; have HBg := Lib.hid (hg8.blk HBf.out); have hBP := Lib.hid (hBO.out.trans (hg8.below hBO.out.size)); obtain ⟨j0, j1, j2, j3, j4, j5, j6, j7⟩ := eightCV HBg.out; clear hg8))
        go_ret
        exact ⟨ret_bool (by rw [Hr.out]), hBN.out⟩
      | false =>
        cases f1 with
        | false =>
          have Hr : Hid (R = false) := Lib.hid (by rw [HR0.out]; first | rfl | simp)
          clear HR0
          go_wp2_with (first | (go_at_call 86; with_reducible refine (HP1.out _).mono ?_; rintro e w5 ⟨rfl, hg5⟩; have HBd := Lib.hid (hg5.blk HBc.out); have hBM := Lib.hid (hBL.out.trans (hg5.below hBL.out.size)); obtain ⟨d0, d1, d2, d3, d4, d5, d6, d7⟩ := eightCV HBd.out; clear hg5) | (go_at_call 86; with_reducible refine (HP2.out _).mono ?_; rintro e w6 ⟨rfl, hg6⟩; have HBe := Lib.hid (hg6.blk HBd.out); have hBN := Lib.hid (hBM.out.trans (hg6.below hBM.out.size)); obtain ⟨g0, g1, g2, g3, g4, g5, g6, g7⟩ := eightCV HBe.out; clear hg6) | (go_at_call 84; with_reducible refine (HI1.out _).mono ?_; rintro e w7 ⟨rfl, hg7⟩; have HBf := Lib.hid (hg7.blk HBe.out); have hBO := Lib.hid (hBN.out.trans (hg7.below hBN.out.size)); obtain ⟨i0, i1, i2, i3, i4, i5, i6, i7⟩ := eightCV HBf.out; clear hg7) | (go_at_call 84; with_reducible refine (HI2.out _).mono ?_; rintro e w8 ⟨rfl, hg8⟩; have HBg := Lib.hid (hg8.blk HBf.out); have hBP := Lib.hid (hBO.out.trans (hg8.below hBO.out.size)); obtain ⟨j0, j1, j2, j3, j4, j5, j6, j7⟩ := eightCV HBg.out; clear hg8))
          go_ret
          exact ⟨ret_bool (by rw [Hr.out]), hBO.out⟩
        | true =>
          cases f2 with
          | false =>
            have Hr : Hid (R = false) := Lib.hid (by rw [HR0.out]; first | rfl | simp)
            clear HR0
            go_wp2_with (first | (go_at_call 86; with_reducible refine (HP1.out _).mono ?_; rintro e w5 ⟨rfl, hg5⟩; have HBd := Lib.hid (hg5.blk HBc.out); have hBM := Lib.hid (hBL.out.trans (hg5.below hBL.out.size)); obtain ⟨d0, d1, d2, d3, d4, d5, d6, d7⟩ := eightCV HBd.out; clear hg5) | (go_at_call 86; with_reducible refine (HP2.out _).mono ?_; rintro e w6 ⟨rfl, hg6⟩; have HBe := Lib.hid (hg6.blk HBd.out); have hBN := Lib.hid (hBM.out.trans (hg6.below hBM.out.size)); obtain ⟨g0, g1, g2, g3, g4, g5, g6, g7⟩ := eightCV HBe.out; clear hg6) | (go_at_call 84; with_reducible refine (HI1.out _).mono ?_; rintro e w7 ⟨rfl, hg7⟩; have HBf := Lib.hid (hg7.blk HBe.out); have hBO := Lib.hid (hBN.out.trans (hg7.below hBN.out.size)); obtain ⟨i0, i1, i2, i3, i4, i5, i6, i7⟩ := eightCV HBf.out; clear hg7) | (go_at_call 84; with_reducible refine (HI2.out _).mono ?_; rintro e w8 ⟨rfl, hg8⟩; have HBg := Lib.hid (hg8.blk HBf.out); have hBP := Lib.hid (hBO.out.trans (hg8.below hBO.out.size)); obtain ⟨j0, j1, j2, j3, j4, j5, j6, j7⟩ := eightCV HBg.out; clear hg8))
            go_ret
            exact ⟨ret_bool (by rw [Hr.out]), hBP.out⟩
          | true =>
            cases qe with
            | false =>
              have Hr : Hid (R = false) := Lib.hid (by rw [HR0.out]; first | rfl | simp)
              clear HR0
              go_wp2_with (first | (go_at_call 86; with_reducible refine (HP1.out _).mono ?_; rintro e w5 ⟨rfl, hg5⟩; have HBd := Lib.hid (hg5.blk HBc.out); have hBM := Lib.hid (hBL.out.trans (hg5.below hBL.out.size)); obtain ⟨d0, d1, d2, d3, d4, d5, d6, d7⟩ := eightCV HBd.out; clear hg5) | (go_at_call 86; with_reducible refine (HP2.out _).mono ?_; rintro e w6 ⟨rfl, hg6⟩; have HBe := Lib.hid (hg6.blk HBd.out); have hBN := Lib.hid (hBM.out.trans (hg6.below hBM.out.size)); obtain ⟨g0, g1, g2, g3, g4, g5, g6, g7⟩ := eightCV HBe.out; clear hg6) | (go_at_call 84; with_reducible refine (HI1.out _).mono ?_; rintro e w7 ⟨rfl, hg7⟩; have HBf := Lib.hid (hg7.blk HBe.out); have hBO := Lib.hid (hBN.out.trans (hg7.below hBN.out.size)); obtain ⟨i0, i1, i2, i3, i4, i5, i6, i7⟩ := eightCV HBf.out; clear hg7) | (go_at_call 84; with_reducible refine (HI2.out _).mono ?_; rintro e w8 ⟨rfl, hg8⟩; have HBg := Lib.hid (hg8.blk HBf.out); have hBP := Lib.hid (hBO.out.trans (hg8.below hBO.out.size)); obtain ⟨j0, j1, j2, j3, j4, j5, j6, j7⟩ := eightCV HBg.out; clear hg8))
              go_ret
              exact ⟨ret_bool (by rw [Hr.out]), hBP.out⟩
            | true =>
              have Hr : Hid (R = true) := Lib.hid (by rw [HR0.out]; first | rfl | simp)
              clear HR0
              go_wp2_with (first | (go_at_call 86; with_reducible refine (HP1.out _).mono ?_; rintro e w5 ⟨rfl, hg5⟩; have HBd := Lib.hid (hg5.blk HBc.out); have hBM := Lib.hid (hBL.out.trans (hg5.below hBL.out.size)); obtain ⟨d0, d1, d2, d3, d4, d5, d6, d7⟩ := eightCV HBd.out; clear hg5) | (go_at_call 86; with_reducible refine (HP2.out _).mono ?_; rintro e w6 ⟨rfl, hg6⟩; have HBe := Lib.hid (hg6.blk HBd.out); have hBN := Lib.hid (hBM.out.trans (hg6.below hBM.out.size)); obtain ⟨g0, g1, g2, g3, g4, g5, g6, g7⟩ := eightCV HBe.out; clear hg6) | (go_at_call 84; with_reducible refine (HI1.out _).mono ?_; rintro e w7 ⟨rfl, hg7⟩; have HBf := Lib.hid (hg7.blk HBe.out); have hBO := Lib.hid (hBN.out.trans (hg7.below hBN.out.size)); obtain ⟨i0, i1, i2, i3, i4, i5, i6, i7⟩ := eightCV HBf.out; clear hg7) | (go_at_call 84; with_reducible refine (HI2.out _).mono ?_; rintro e w8 ⟨rfl, hg8⟩; have HBg := Lib.hid (hg8.blk HBf.out); have hBP := Lib.hid (hBO.out.trans (hg8.below hBO.out.size)); obtain ⟨j0, j1, j2, j3, j4, j5, j6, j7⟩ := eightCV HBg.out; clear hg8))
              go_ret
              exact ⟨ret_bool (by rw [Hr.out]), hBP.out⟩
set_option maxRecDepth 100000 in
set_option maxHeartbeats 8000000 in
theorem rvalidK6_w (ky va lo hi sr ds : Bs) (n : Int) (w : World) (hz : SizeM ⟨6, ky, va, lo, hi, sr, ds, n⟩) : Calls Tryz.prog 29 #[msgV ⟨6, ky, va, lo, hi, sr, ds, n⟩] w fun e w' => e = .returned (.bool (validM ⟨6, ky, va, lo, hi, sr, ds, n⟩)) ∧ Below w.heap.size w w' := by
  have mixed := mixedA
  obtain ⟨z1, z2, z3, z4, z5, z6⟩ := hz
  dsimp only at z1 z2 z3 z4 z5 z6
  have hB : Blk (w.alloc (.cells (encM ⟨6, ky, va, lo, hi, sr, ds, n⟩) 46)) w.heap.size 46 (encM ⟨6, ky, va, lo, hi, sr, ds, n⟩) := Blk.new _ _ _
  have H1 := Lib.hid (fun wx => r5inV_w (ky.length : Int) 1 65535 wx)
  have H2 := Lib.hid (fun wx => r5inV_w n 0 1000000000 wx)
  obtain ⟨R, hR⟩ : ∃ R, R = validM ⟨6, ky, va, lo, hi, sr, ds, n⟩ := ⟨_, rfl⟩
  rw [← hR]
  have HR0 : Hid (R = ((spanB lo hi && stampB n) && decide ((⟨6, ky, va, lo, hi, sr, ds, n⟩ : Ms) = ⟨6, [], [], lo, hi, [], [], n⟩))) := Lib.hid (by
    rw [hR]
    show ((spanB lo hi && stampB n) && decide (bareM ⟨6, ky, va, lo, hi, sr, ds, n⟩ = zeroM 6)) = _
    congr 1
    rw [decide_eq_decide]
    show (bareM ⟨6, ky, va, lo, hi, sr, ds, n⟩ = zeroM 6) ↔ _
    simp [bareM, zeroM])
  have HQ2 : ∀ wx, (binOp .eql 46 (.agg #[.int .i64 6, .string (Str ky), .string (Str va), .string (Str lo), .string (Str hi), .string (Str sr), .string (Str ds), .int .i64 n]) (.agg #[.int .i64 6, .string ⟨#[]⟩, .string ⟨#[]⟩, .string (Str lo), .string (Str hi), .string ⟨#[]⟩, .string ⟨#[]⟩, .int .i64 n])).run Tryz.prog wx = .ok (.bool (decide ((⟨6, ky, va, lo, hi, sr, ds, n⟩ : Ms) = ⟨6, [], [], lo, hi, [], [], n⟩))) wx := fun wx => eql_msg ⟨6, ky, va, lo, hi, sr, ds, n⟩ ⟨6, [], [], lo, hi, [], [], n⟩ wx
  generalize decide ((⟨6, ky, va, lo, hi, sr, ds, n⟩ : Ms) = ⟨6, [], [], lo, hi, [], [], n⟩) = qe at *
  have HSP := Lib.hid (fun wx => r5spanV_w lo hi wx)
  rw [stamp_in] at HR0
  generalize spanB lo hi = qs at *
  generalize inZ 1 65535 (ky.length : Int) = q0 at *
  generalize inZ 0 1000000000 n = q1 at *
  obtain ⟨W1, hW1⟩ : ∃ W1, W1 = w.alloc (.cells (encM ⟨6, ky, va, lo, hi, sr, ds, n⟩) 46) := ⟨_, rfl⟩
  rw [← hW1] at hB
  have hg1 : Below w.heap.size w W1 := by rw [hW1]; exact below_box _
  have HB := Lib.hid hB
  have HG1 := Lib.hid hg1
  have HW1 := Lib.hid hW1
  have HS0 : Hid (Below W1.heap.size W1 W1) := Lib.hid (Below.refl _ _)
  have hlt1 := hB.lt
  clear hB hg1 hW1 hR
  go_enter Tryz.func29, Tryz.ntmps29
  go_wp2_with fail
  rw [← HW1.out]
  have x1 : ∀ wx, Below W1.heap.size W1 wx → wx.cell? ⟨w.heap.size, 1, none⟩ = some (.string (Str ky)) := fun wx hx => (Blk.below HB.out hx HB.out.lt).c0 1 _ rfl
  have x7 : ∀ wx, Below W1.heap.size W1 wx → wx.cell? ⟨w.heap.size, 7, none⟩ = some (.int .i64 n) := fun wx hx => (Blk.below HB.out hx HB.out.lt).c0 7 _ rfl
  go_cut [3, 4] (fun s3 s4 wx => s3 = .bool q0 ∧ s4 = .bool q1 ∧ Hid (Below W1.heap.size W1 wx))
  case first =>
    go_region_held3 (fun wx => Below W1.heap.size W1 wx)
      (repeat (first | with_reducible assumption | with_reducible exact HS0.out | with_reducible refine Below.drew ?_ | with_reducible refine keepBA ?_ _))
      (first
        | (go_at_call_of 84 (Value.int .i64 65535); (refine (H1.out _).mono ?_); rintro e2 y2 ⟨rfl, hG2⟩; have hS2 : Below W1.heap.size W1 y2 := keepBG (by repeat (first | with_reducible assumption | with_reducible exact HS0.out | with_reducible refine Below.drew ?_)) hG2)
        | (go_at_call 84; (refine (H2.out _).mono ?_); rintro e3 y3 ⟨rfl, hG3⟩; have hS3 : Below W1.heap.size W1 y3 := keepBG (by repeat (first | with_reducible assumption | with_reducible exact HS0.out | with_reducible refine Below.drew ?_)) hG3)
        | fail "no arm")
    all_goals (go_wp2_with fail; go_meet)
    all_goals exact ⟨rfl, rfl, Lib.hid hS3⟩
  case rest =>
    obtain ⟨rfl, rfl, hcut⟩ := hcut
    clear x1 x7
    have HBc := Lib.hid (Blk.below HB.out hcut.out HB.out.lt)
    have hBL := Lib.hid (HG1.out.trans (hcut.out.mono HG1.out.size))
    obtain ⟨c0, c1, c2, c3, c4, c5, c6, c7⟩ := eightCV HBc.out
    clear H1 H2
    cases qs with
    | false =>
      have Hr : Hid (R = false) := Lib.hid (by rw [HR0.out]; first | rfl | simp)
      clear HR0
      go_wp2_with (go_at_call 85; refine (HSP.out _).mono ?_; rintro e w5 ⟨rfl, hg5⟩; have HBd := Lib.hid (hg5.blk HBc.out); have hBM := Lib.hid (hBL.out.trans (hg5.below hBL.out.size)); obtain ⟨d0, d1, d2, d3, d4, d5, d6, d7⟩ := eightCV HBd.out; clear hg5)
      go_ret
      exact ⟨ret_bool (by rw [Hr.out]), hBM.out⟩
    | true =>
      cases q1 with
      | false =>
        have Hr : Hid (R = false) := Lib.hid (by rw [HR0.out]; first | rfl | simp)
        clear HR0
        go_wp2_with (go_at_call 85; refine (HSP.out _).mono ?_; rintro e w5 ⟨rfl, hg5⟩; have HBd := Lib.hid (hg5.blk HBc.out); have hBM := Lib.hid (hBL.out.trans (hg5.below hBL.out.size)); obtain ⟨d0, d1, d2, d3, d4, d5, d6, d7⟩ := eightCV HBd.out; clear hg5)
        go_ret
        exact ⟨ret_bool (by rw [Hr.out]), hBM.out⟩
      | true =>
        cases qe with
        | false =>
          have Hr : Hid (R = false) := Lib.hid (by rw [HR0.out]; first | rfl | simp)
          clear HR0
          go_wp2_with (go_at_call 85; refine (HSP.out _).mono ?_; rintro e w5 ⟨rfl, hg5⟩; have HBd := Lib.hid (hg5.blk HBc.out); have hBM := Lib.hid (hBL.out.trans (hg5.below hBL.out.size)); obtain ⟨d0, d1, d2, d3, d4, d5, d6, d7⟩ := eightCV HBd.out; clear hg5)
          go_ret
          exact ⟨ret_bool (by rw [Hr.out]), hBM.out⟩
        | true =>
          have Hr : Hid (R = true) := Lib.hid (by rw [HR0.out]; first | rfl | simp)
          clear HR0
          go_wp2_with (go_at_call 85; refine (HSP.out _).mono ?_; rintro e w5 ⟨rfl, hg5⟩; have HBd := Lib.hid (hg5.blk HBc.out); have hBM := Lib.hid (hBL.out.trans (hg5.below hBL.out.size)); obtain ⟨d0, d1, d2, d3, d4, d5, d6, d7⟩ := eightCV HBd.out; clear hg5)
          go_ret
          exact ⟨ret_bool (by rw [Hr.out]), hBM.out⟩
set_option maxRecDepth 100000 in
set_option maxHeartbeats 8000000 in
theorem rvalidK0_w (k : Int) (ky va lo hi sr ds : Bs) (n : Int) (w : World) (hz : SizeM ⟨k, ky, va, lo, hi, sr, ds, n⟩) (hk : ¬ (1 ≤ k ∧ k ≤ 6)) : Calls Tryz.prog 29 #[msgV ⟨k, ky, va, lo, hi, sr, ds, n⟩] w fun e w' => e = .returned (.bool (validM ⟨k, ky, va, lo, hi, sr, ds, n⟩)) ∧ Below w.heap.size w w' := by
  have mixed := mixedA
  obtain ⟨z1, z2, z3, z4, z5, z6⟩ := hz
  dsimp only at z1 z2 z3 z4 z5 z6
  have hB : Blk (w.alloc (.cells (encM ⟨k, ky, va, lo, hi, sr, ds, n⟩) 46)) w.heap.size 46 (encM ⟨k, ky, va, lo, hi, sr, ds, n⟩) := Blk.new _ _ _
  have H1 := Lib.hid (fun wx => r5inV_w (ky.length : Int) 1 65535 wx)
  have H2 := Lib.hid (fun wx => r5inV_w n 0 1000000000 wx)
  obtain ⟨R, hR⟩ : ∃ R, R = validM ⟨k, ky, va, lo, hi, sr, ds, n⟩ := ⟨_, rfl⟩
  rw [← hR]
  have HR : Hid (R = false) := Lib.hid (by
    cases hv : R with
    | false => rfl
    | true => exact absurd (valid_kindK (hR.symm.trans hv)) hk)
  generalize inZ 1 65535 (ky.length : Int) = q0 at *
  generalize inZ 0 1000000000 n = q1 at *
  obtain ⟨W1, hW1⟩ : ∃ W1, W1 = w.alloc (.cells (encM ⟨k, ky, va, lo, hi, sr, ds, n⟩) 46) := ⟨_, rfl⟩
  rw [← hW1] at hB
  have hg1 : Below w.heap.size w W1 := by rw [hW1]; exact below_box _
  have HB := Lib.hid hB
  have HG1 := Lib.hid hg1
  have HW1 := Lib.hid hW1
  have HS0 : Hid (Below W1.heap.size W1 W1) := Lib.hid (Below.refl _ _)
  have hlt1 := hB.lt
  clear hB hg1 hW1 hR
  go_enter Tryz.func29, Tryz.ntmps29
  go_wp2_with fail
  rw [← HW1.out]
  have x1 : ∀ wx, Below W1.heap.size W1 wx → wx.cell? ⟨w.heap.size, 1, none⟩ = some (.string (Str ky)) := fun wx hx => (Blk.below HB.out hx HB.out.lt).c0 1 _ rfl
  have x7 : ∀ wx, Below W1.heap.size W1 wx → wx.cell? ⟨w.heap.size, 7, none⟩ = some (.int .i64 n) := fun wx hx => (Blk.below HB.out hx HB.out.lt).c0 7 _ rfl
  go_cut [3, 4] (fun s3 s4 wx => s3 = .bool q0 ∧ s4 = .bool q1 ∧ Hid (Below W1.heap.size W1 wx))
  case first =>
    go_region_held3 (fun wx => Below W1.heap.size W1 wx)
      (repeat (first | with_reducible assumption | with_reducible exact HS0.out | with_reducible refine Below.drew ?_ | with_reducible refine keepBA ?_ _))
      (first
        | (go_at_call_of 84 (Value.int .i64 65535); (refine (H1.out _).mono ?_); rintro e2 y2 ⟨rfl, hG2⟩; have hS2 : Below W1.heap.size W1 y2 := keepBG (by repeat (first | with_reducible assumption | with_reducible exact HS0.out | with_reducible refine Below.drew ?_)) hG2)
        | (go_at_call 84; (refine (H2.out _).mono ?_); rintro e3 y3 ⟨rfl, hG3⟩; have hS3 : Below W1.heap.size W1 y3 := keepBG (by repeat (first | with_reducible assumption | with_reducible exact HS0.out | with_reducible refine Below.drew ?_)) hG3)
        | fail "no arm")
    all_goals (go_wp2_with fail; go_meet)
    all_goals exact ⟨rfl, rfl, Lib.hid hS3⟩
  case rest =>
    obtain ⟨rfl, rfl, hcut⟩ := hcut
    clear x1 x7
    have HBc := Lib.hid (Blk.below HB.out hcut.out HB.out.lt)
    have hBL := Lib.hid (HG1.out.trans (hcut.out.mono HG1.out.size))
    obtain ⟨c0, c1, c2, c3, c4, c5, c6, c7⟩ := eightCV HBc.out
    clear H1 H2
    have k1 : (k == 1) = false := by rw [beq_eq_false_iff_ne]; omega
    have k2 : (k == 2) = false := by rw [beq_eq_false_iff_ne]; omega
    have k3 : (k == 3) = false := by rw [beq_eq_false_iff_ne]; omega
    have k4 : (k == 4) = false := by rw [beq_eq_false_iff_ne]; omega
    have k5 : (k == 5) = false := by rw [beq_eq_false_iff_ne]; omega
    have k6 : (k == 6) = false := by rw [beq_eq_false_iff_ne]; omega
    clear hk
    go_wp2
    go_ret
    exact ⟨ret_bool (by rw [HR.out]), hBL.out⟩
theorem rvalidV_w (m : Ms) (w : World) (hz : SizeM m) : Calls Tryz.prog 29 #[msgV m] w fun e w' => e = .returned (.bool (validM m)) ∧ Below w.heap.size w w' := by
  obtain ⟨k, ky, va, lo, hi, sr, ds, n⟩ := m
  by_cases hk : 1 ≤ k ∧ k ≤ 6
  · have h : k = 1 ∨ k = 2 ∨ k = 3 ∨ k = 4 ∨ k = 5 ∨ k = 6 := by omega
    rcases h with rfl | rfl | rfl | rfl | rfl | rfl
    · exact rvalidK1_w _ _ _ _ _ _ _ w hz
    · exact rvalidK2_w _ _ _ _ _ _ _ w hz
    · exact rvalidK3_w _ _ _ _ _ _ _ w hz
    · exact rvalidK4_w _ _ _ _ _ _ _ w hz
    · exact rvalidK5_w _ _ _ _ _ _ _ w hz
    · exact rvalidK6_w _ _ _ _ _ _ _ w hz
  · exact rvalidK0_w k _ _ _ _ _ _ _ w hz hk

end Go.Proofs.YtmbfghbhajmpiaaGreat
