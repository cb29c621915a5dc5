/-
  The walk of the law PathPlaces.
-/
import Derived.Test.YticlomakmcjcfaaWM2
import Derived.Test.YticlomakmcjcfaaWC
import Derived.Deep.CutBlock
namespace Go.Proofs.Yticlomakmcjcfaa
open Go.RowKit Go.Sort
set_option linter.unusedVariables false
set_option maxRecDepth 100000

/-- The boxes of the arguments. -/
structure PQ (w : World) (ra ya wa : Array Value) (wx : World) : Prop where
  r : Blk wx w.heap.size 32 ra
  y : Blk wx (w.heap.size + 1) 44 ya
  a : Blk wx (w.heap.size + 2) 46 wa
  bel : Below w.heap.size w wx
theorem PQ.below {w wx wy : World} {ra ya wa : Array Value} (h : PQ w ra ya wa wx) (hb : Below wx.heap.size wx wy) : PQ w ra ya wa wy :=
  ⟨h.r.below hb h.r.lt, h.y.below hb h.y.lt, h.a.below hb h.a.lt, Below.next h.bel (Nat.le_refl _) hb⟩
theorem PQ.alloc {w wx : World} {ra ya wa : Array Value} (h : PQ w ra ya wa wx) (o : Obj) : PQ w ra ya wa (wx.alloc o) :=
  ⟨h.r.alloc o, h.y.alloc o, h.a.alloc o, h.bel.alloc h.bel.size _⟩

theorem keyK_pos (t : Int) (p : Bs) (n : Int) (m : Bs) : 0 < (keyK t p n m).length := by
  unfold keyK; split
  · simp
  · split
    · simp; omega
    · split <;> simp

theorem BlkDrew {w : World} {b : Nat} {T : TypeId} {cs : Array Value} (h : Blk w b T cs) : Blk w.drew b T cs := h
theorem PQ.drew {w wx : World} {ra ya wa : Array Value} (h : PQ w ra ya wa wx) : PQ w ra ya wa wx.drew := ⟨h.r, h.y, h.a, h.bel.drew⟩
theorem convB {W : World} {b c : Nat} {a : Int} (h : W.cell? ⟨b, 0, none⟩ = some (.int .u8 a)) :
    (convert 22 9 (.slice (some ⟨b, 0, none⟩) 1 c)).run Try.prog W = .ok (.string (Str [UInt8.ofNat a.toNat])) W := by
  rw [run_convert_bytes_arg (P := Try.prog) _ 22 5 Try.underlying22 Try.underlying5 b 0 1 c [a] rfl (fun i hi => by
    obtain rfl : i = 0 := by omega
    exact h) 9 Try.underlying9]
  rfl

set_option maxHeartbeats 8000000 in
theorem pathPlaces_walk (w : World) (v0 : Value) (x : PlcD) (h0 : IsPlc w v0 x) (v1 : Value) (y : RawD) (h1 : IsRaw w v1 y) (v2 : Value) (z : Int × Int × Int) (h2 : IsI16x3 w v2 z) :
    Calls Try.prog 4 #[v0, v1, v2] w fun e w' => e = .returned (.bool true) ∧ Below w.heap.size w w' := by
  obtain ⟨rfl, hxp, hxm, hxt, hxn⟩ := h0
  obtain ⟨rfl, hy, hyt, hyn⟩ := h1
  obtain ⟨z0, z1, z2⟩ := z
  obtain ⟨rfl, hz0, hz1, hz2⟩ := h2
  obtain ⟨p, t, n, m⟩ := x
  simp only at hxp hxm hxt hxn hz0 hz1 hz2
  have Hm := Lib.hid (fun wx (h : Below w.heap.size w wx) => madePlace_w y.v y.l y.t y.n wx (hy.below h) hyt hyn)
  have hsy : ∃ A C, y.v = .slice A y.l.length C := by obtain ⟨A, C, h, _⟩ := hy.form; exact ⟨A, C, h⟩
  obtain ⟨yv, yl, yt, yn⟩ := y
  simp only at hsy Hm hyt hyn
  obtain ⟨A, C, rfl⟩ := hsy
  simp only [placeV] at Hm
  have HQ : Hid (PQ w #[.string (Str p), .int .i64 t, .int .i64 n, .string (Str m)] #[.slice A yl.length C, .int .u8 yt, .int .u16 yn] #[.int .i16 z0, .int .i16 z1, .int .i16 z2] (((w.alloc (.cells #[.string (Str p), .int .i64 t, .int .i64 n, .string (Str m)] 32)).alloc (.cells #[.slice A yl.length C, .int .u8 yt, .int .u16 yn] 44)).alloc (.cells #[.int .i16 z0, .int .i16 z1, .int .i16 z2] 46))) :=
    Lib.hid ⟨((Blk.new _ _ _).alloc _).alloc _, (Blk.new' _ _ _ (by simp)).alloc _, Blk.new' _ _ _ (by simp), (((Below.refl _ _).alloc (Nat.le_refl _) _).alloc (by simp) _).alloc (by simp; omega) _⟩
  have hlp := rawPath_le yl yt yn
  have hlm := rawM_le yt yn
  have hky : keyF (rawPath yl yt yn) (1 + ((yt % 4 : Nat) : Int)) (rawN yt yn) (rawM yt yn) = (keyK (1 + ((yt % 4 : Nat) : Int)) (rawPath yl yt yn) (rawN yt yn) (rawM yt yn), 0) := by
    unfold keyF; rw [if_pos ⟨raw_owns yl yt yn hyn, raw_fits yt yn⟩]
  have hkl := keyK_le (1 + ((yt % 4 : Nat) : Int)) (rawPath yl yt yn) (rawN yt yn) (rawM yt yn)
  have hkp := keyK_pos (1 + ((yt % 4 : Nat) : Int)) (rawPath yl yt yn) (rawN yt yn) (rawM yt yn)
  generalize keyK (1 + ((yt % 4 : Nat) : Int)) (rawPath yl yt yn) (rawN yt yn) (rawM yt yn) = kk at *
  generalize rawPath yl yt yn = pY at *
  generalize (1 + ((yt % 4 : Nat) : Int)) = tY at *
  have hnY : 0 ≤ rawN yt yn ∧ rawN yt yn ≤ 60000 := by unfold rawN; split <;> omega
  generalize rawN yt yn = nY at *
  generalize rawM yt yn = mY at *
  have Hk5 := Lib.hid (fun wx => rkey_w tY nY pY mY wx (by omega) (by omega))
  rw [hky] at Hk5
  simp only at Hk5
  clear hky
  unfold maxLen at hxp hxm
  by_cases hbig : 220 < (p.length : Int) ∨ (¬ 220 < (p.length : Int) ∧ 20 < (m.length : Int))
  · rcases hbig with hb1 | ⟨hb1, hb2⟩
    all_goals
      clear Hm
      go_enter Try.func4, Try.ntmps4
      go_wp2_with (go_at_call 14; refine (sanity_w _).mono ?_; rintro e w1 ⟨rfl, hb⟩; have Q1 := HQ.out.below hb; have HQ1 := Lib.hid Q1; have c0 := Q1.r.cell 0; have c3 := Q1.r.cell 3; simp at c0 c3; clear hb Q1)
      go_ret
      exact ⟨rfl, HQ1.out.bel⟩
  · have hp220 : (p.length : Int) ≤ 220 := by omega
    have hm20 : (m.length : Int) ≤ 20 := by omega
    clear hbig
    go_enter Try.func4, Try.ntmps4
    go_upto_block 0 with (first
      | (go_at_call 14; refine (sanity_w _).mono ?_; rintro e w1 ⟨rfl, hb⟩; have Q1 := HQ.out.below hb; have HQ1 := Lib.hid Q1; have c0 := Q1.r.cell 0; have c3 := Q1.r.cell 3; have d0 := Q1.y.cell 0; have d1 := Q1.y.cell 1; have d2 := Q1.y.cell 2; simp at c0 c3 d0 d1 d2; clear hb Q1)
      | (go_at_call 30; refine (Hm.out _ HQ1.out.bel).mono ?_; rintro e w2 ⟨rfl, hb⟩; have Q2 := HQ1.out.below hb; have HQ2 := Lib.hid Q2; clear c0 c3 d0 d1 d2; have c0 := Q2.r.cell 0; have c1 := Q2.r.cell 1; have c2 := Q2.r.cell 2; have c3 := Q2.r.cell 3; have g0 : w2.cell? ⟨w.heap.size + 1 + 1, 0, none⟩ = some (.int .i16 z0) := Q2.a.cell 0; have g1 : w2.cell? ⟨w.heap.size + 1 + 1, 1, none⟩ = some (.int .i16 z1) := Q2.a.cell 1; have l2 : w.heap.size + 1 + 1 < w2.heap.size := Q2.a.lt; have l0 : w.heap.size < w2.heap.size := Q2.r.lt; simp at c0 c1 c2 c3; clear hb Q2))

    go_cut [8] (fun s8 wx => ∃ (o : Nat) (p' : Bs) (t' n' : Int) (m' : Bs), s8 = .pointer (some ⟨o, 0, none⟩) ∧ p'.length ≤ 220 ∧ m'.length ≤ 20 ∧ Blk wx o 32 #[.string (Str p'), .int .i64 t', .int .i64 n', .string (Str m')] ∧ PQ w #[.string (Str p), .int .i64 t, .int .i64 n, .string (Str m)] #[.slice A yl.length C, .int .u8 yt, .int .u16 yn] #[.int .i16 z0, .int .i16 z1, .int .i16 z2] wx)
    case first =>
      go_wp2_with fail
      all_goals go_meet
      all_goals exact ⟨_, _, _, _, _, rfl, by omega, by omega, Blk.new _ _ _, HQ2.out.alloc _⟩
    case rest =>
      obtain ⟨o, p', t', n', m', rfl, hp', hm', hx, hQ⟩ := hcut
      clear c0 c1 c2 c3 g0 g1 l0 l2
      have c0 := hQ.r.cell 0
      have c1 := hQ.r.cell 1
      have c2 := hQ.r.cell 2
      have c3 := hQ.r.cell 3
      have d0 := hx.cell 0
      have d1 := hx.cell 1
      have d2 := hx.cell 2
      have d3 := hx.cell 3
      simp at c0 c1 c2 c3 d0 d1 d2 d3
      have H8 : Hid (Blk (wc.alloc (.cells #[.string (Str p), .int .i64 t, .int .i64 n, .string (Str m), .string (Str p'), .int .i64 t', .int .i64 n', .string (Str m')] 48)) wc.heap.size 48 #[.string (Str p), .int .i64 t, .int .i64 n, .string (Str m), .string (Str p'), .int .i64 t', .int .i64 n', .string (Str m')] ∧ PQ w #[.string (Str p), .int .i64 t, .int .i64 n, .string (Str m)] #[.slice A yl.length C, .int .u8 yt, .int .u16 yn] #[.int .i16 z0, .int .i16 z1, .int .i16 z2] (wc.alloc (.cells #[.string (Str p), .int .i64 t, .int .i64 n, .string (Str m), .string (Str p'), .int .i64 t', .int .i64 n', .string (Str m')] 48))) := Lib.hid ⟨Blk.new _ _ _, hQ.alloc _⟩
      have Hk1 := Lib.hid (fun wx => keyF_w t n (Str p) (Str m) wx (by rw [size_Str]; omega) (by rw [size_Str]; omega))
      have Hk2 := Lib.hid (fun wx => rkey_w t n p m wx (by omega) (by omega))
      have Hk3 := Lib.hid (fun wx => keyF_w t' n' (Str p') (Str m') wx (by rw [size_Str]; omega) (by rw [size_Str]; omega))
      have Hk4 := Lib.hid (fun wx => rkey_w t' n' p' m' wx (by omega) (by omega))
      simp only [toList_Str] at Hk1 Hk3
      generalize keyF p t n m = q1 at *
      generalize keyF p' t' n' m' = q2 at *
      obtain ⟨q11, q12⟩ := q1
      obtain ⟨q21, q22⟩ := q2
      simp only at Hk1 Hk2 Hk3 Hk4
      clear hx hQ
      go_wp2_with fail
      go_loopw [10] (fun i wr => ∃ j : Nat, j ≤ 2 ∧ i = .int .i64 j ∧ Blk wr wc.heap.size 48 #[.string (Str p), .int .i64 t, .int .i64 n, .string (Str m), .string (Str p'), .int .i64 t', .int .i64 n', .string (Str m')] ∧ PQ w #[.string (Str p), .int .i64 t, .int .i64 n, .string (Str m)] #[.slice A yl.length C, .int .u8 yt, .int .u16 yn] #[.int .i16 z0, .int .i16 z1, .int .i16 z2] wr) (fun i _ => 2 - (intOf i).toNat)
      case atStart => exact ⟨0, by omega, rfl, H8.out⟩
      case round =>
        obtain ⟨j, hj, rfl, hB, hQ⟩ := hrel
        by_cases hlt : j < 2
        · have e0 := hB.cell 0
          have e1 := hB.cell 1
          have e2 := hB.cell 2
          have e3 := hB.cell 3
          have e4 := hB.cell 4
          have e5 := hB.cell 5
          have e6 := hB.cell 6
          have e7 := hB.cell 7
          simp at e0 e1 e2 e3 e4 e5 e6 e7
          have HB := Lib.hid hB
          have HQ5 := Lib.hid hQ
          clear hB hQ
          rcases (by omega : j = 0 ∨ j = 1) with rfl | rfl
          · go_wp2_with (first
              | (go_at_call 31; refine (Hk1.out _).mono ?_; rintro e wy ⟨rfl, hb⟩; replace HB := Lib.hid (HB.out.below hb HB.out.lt); replace HQ5 := Lib.hid (HQ5.out.below hb); clear e0 e1 e2 e3 e4 e5 e6 e7; have e0 := HB.out.cell 0; have e1 := HB.out.cell 1; have e2 := HB.out.cell 2; have e3 := HB.out.cell 3; simp at e0 e1 e2 e3; clear hb)
              | (go_at_call 32; refine (Hk2.out _).mono ?_; rintro e wz ⟨rfl, hb⟩; replace HB := Lib.hid (HB.out.below hb HB.out.lt); replace HQ5 := Lib.hid (HQ5.out.below hb); clear hb))
            go_roundw
            case rel => exact ⟨1, by omega, by go_num, HB.out, HQ5.out⟩
            case measure => simp [intOf]
          · go_wp2_with (first
              | (go_at_call 31; refine (Hk3.out _).mono ?_; rintro e wy ⟨rfl, hb⟩; replace HB := Lib.hid (HB.out.below hb HB.out.lt); replace HQ5 := Lib.hid (HQ5.out.below hb); clear e0 e1 e2 e3 e4 e5 e6 e7; have e4 := HB.out.cell 4; have e5 := HB.out.cell 5; have e6 := HB.out.cell 6; have e7 := HB.out.cell 7; simp at e4 e5 e6 e7; clear hb)
              | (go_at_call 32; refine (Hk4.out _).mono ?_; rintro e wz ⟨rfl, hb⟩; replace HB := Lib.hid (HB.out.below hb HB.out.lt); replace HQ5 := Lib.hid (HQ5.out.below hb); clear hb))
            go_roundw
            case rel => exact ⟨2, by omega, by go_num, HB.out, HQ5.out⟩
            case measure => simp [intOf]
        · obtain rfl : j = 2 := by omega
          have HQ5 := Lib.hid hQ
          have c0 := hQ.r.cell 0
          have d0 := hQ.y.cell 0
          have d1 := hQ.y.cell 1
          have d2 := hQ.y.cell 2
          have hz : w.heap.size + 1 < wr.heap.size := hQ.y.lt
          simp at c0 d0 d1 d2
          have hkl2 : kk.length ≤ 67 := by omega
          clear hB hQ Hk1 Hk2 Hk3 Hk4
          go_wp2_with (first
            | (go_at_call 30; refine (Hm.out _ HQ5.out.bel).mono ?_; rintro e wy ⟨rfl, hb⟩; replace HQ5 := Lib.hid (HQ5.out.below hb); clear hb)
            | (go_at_call 32; refine (Hk5.out _).mono ?_; rintro e wz ⟨rfl, hb⟩; have Q6 := HQ5.out.below hb; have HQ6 := Lib.hid Q6; clear c0 d0 d1 d2 hz; have c0 := Q6.r.cell 0; have g1 : wz.cell? ⟨w.heap.size + 1 + 1, 1, none⟩ = some (.int .i16 z1) := Q6.a.cell 1; have g2 : wz.cell? ⟨w.heap.size + 1 + 1, 2, none⟩ = some (.int .i16 z2) := Q6.a.cell 2; have hz0 : w.heap.size < wz.heap.size := Q6.r.lt; have hz2 : w.heap.size + 1 + 1 < wz.heap.size := Q6.a.lt; simp at c0; clear hb Q6))
          have hii : ∃ ii : Nat, ii < kk.length ∧ (wrap64 (IntKind.u16.wrap z1)).tmod kk.length = (ii : Int) := by
            have h0 : 0 ≤ wrap64 (IntKind.u16.wrap z1) := by
              have : 0 ≤ IntKind.u16.wrap z1 ∧ IntKind.u16.wrap z1 < 65536 := by
                have := IntKind.wrap_u16 z1
                rw [this]; omega
              unfold wrap64; omega
            have h1 := Int.tmod_nonneg (kk.length : Int) h0
            have h2 := Int.tmod_lt_of_pos (wrap64 (IntKind.u16.wrap z1)) (b := (kk.length : Int)) (by omega)
            exact ⟨((wrap64 (IntKind.u16.wrap z1)).tmod kk.length).toNat, by omega, by omega⟩
          obtain ⟨ii, hik, hie⟩ := hii
          simp only [hie]
          have hle : ii ≤ kk.length := by omega
          have hle1 : ii + 1 ≤ kk.length := by omega
          have hnb : ¬ 9223372036854775807 < ii + 1 := by omega
          have hw8 : IntKind.u8.wrap z2 = z2 % 256 := IntKind.wrap_u8 z2
          obtain ⟨bz, hbz⟩ : ∃ bz, bz = z2 % 256 := ⟨_, rfl⟩
          have hcv1 : (convert 22 9 (.slice (some ⟨wz.heap.size, 0, none⟩) 1 1)).run Try.prog ((wz.alloc (.cells #[.int .u8 (z2 % 256)] 5)).drew) = .ok (.string (Str [UInt8.ofNat (z2 % 256).toNat])) ((wz.alloc (.cells #[.int .u8 (z2 % 256)] 5)).drew) := conv1 wz.drew 5 _ rfl
          have hcv2 : (convert 22 9 (.slice (some ⟨wz.heap.size + 1, 0, none⟩) 1 1)).run Try.prog (((wz.alloc (.cells #[.string ⟨#[]⟩, .string ⟨#[]⟩, .string ⟨#[]⟩] 50)).alloc (.cells #[.int .u8 (z2 % 256)] 5)).drew) = .ok (.string (Str [UInt8.ofNat (z2 % 256).toNat])) (((wz.alloc (.cells #[.string ⟨#[]⟩, .string ⟨#[]⟩, .string ⟨#[]⟩] 50)).alloc (.cells #[.int .u8 (z2 % 256)] 5)).drew) := conv1 (wz.alloc (.cells #[.string ⟨#[]⟩, .string ⟨#[]⟩, .string ⟨#[]⟩] 50)).drew 5 _ (by simp)
          have hcv3 : (convert 22 9 (.slice (some ⟨wz.heap.size, 0, none⟩) 1 1)).run Try.prog (((wz.alloc (.cells #[.int .u8 (z2 % 256)] 5)).alloc (.cells #[.string ⟨#[]⟩, .string ⟨#[]⟩, .string ⟨#[]⟩] 50)).drew) = .ok (.string (Str [UInt8.ofNat (z2 % 256).toNat])) (((wz.alloc (.cells #[.int .u8 (z2 % 256)] 5)).alloc (.cells #[.string ⟨#[]⟩, .string ⟨#[]⟩, .string ⟨#[]⟩] 50)).drew) := convB (((Blk.new _ _ _).alloc _).cell 0)
          generalize UInt8.ofNat (z2 % 256).toNat = b8 at *
          clear hbz
          clear hie
          go_cut [18] (fun s18 wx => ∃ (o2 : Nat) (x1 x2 : Bs), s18 = .pointer (some ⟨o2, 0, none⟩) ∧ x1.length ≤ 100 ∧ x2.length ≤ 100 ∧ Blk wx o2 50 #[.string (Str p), .string (Str x1), .string (Str x2)] ∧ PQ w #[.string (Str p), .int .i64 t, .int .i64 n, .string (Str m)] #[.slice A yl.length C, .int .u8 yt, .int .u16 yn] #[.int .i16 z0, .int .i16 z1, .int .i16 z2] wx)
          case first =>
            go_region
            all_goals (go_wp2_with fail; go_meet)
            all_goals first
              | exact ⟨_, _, _, rfl, by simp; omega, by simp; omega, BlkDrew (Blk.new' _ _ _ (by simp)), ((HQ6.out.alloc _).alloc _).drew⟩
              | exact ⟨_, _, _, rfl, by simp; omega, by simp; omega, BlkDrew ((Blk.new _ _ _).alloc _), ((HQ6.out.alloc _).alloc _).drew⟩
          case rest =>
            obtain ⟨o2, x1, x2, rfl, hx1, hx2, hB, hQ⟩ := hcut
            have H9 : Hid (Blk wc o2 50 #[.string (Str p), .string (Str x1), .string (Str x2)] ∧ Below w.heap.size w wc) := Lib.hid ⟨hB, hQ.bel⟩
            clear hB hQ hcv1 hcv2 hcv3 HQ6 HQ5 g1 g2 c0
            go_wp2_with fail
            go_loopw [19] (fun i wr => ∃ j : Nat, j ≤ 3 ∧ i = .int .i64 j ∧ Blk wr o2 50 #[.string (Str p), .string (Str x1), .string (Str x2)] ∧ Below w.heap.size w wr) (fun i _ => 3 - (intOf i).toNat)
            case atStart => exact ⟨0, by omega, rfl, H9.out⟩
            case round =>
              obtain ⟨j, hj, rfl, hB, hbel⟩ := hrel
              by_cases hlt3 : j < 3
              · have hx : ∃ x : Bs, x.length ≤ 220 ∧ ∀ wx, Blk wx o2 50 #[.string (Str p), .string (Str x1), .string (Str x2)] → wx.cell? ⟨o2, j, none⟩ = some (.string (Str x)) := by
                  rcases (by omega : j = 0 ∨ j = 1 ∨ j = 2) with rfl | rfl | rfl
                  · exact ⟨p, by omega, fun wx h => h.cell 0⟩
                  · exact ⟨x1, by omega, fun wx h => h.cell 1⟩
                  · exact ⟨x2, by omega, fun wx h => h.cell 2⟩
                obtain ⟨x, hxl, hx⟩ := hx
                have Hx := Lib.hid hx
                have hj3 : (j : Int) < 3 := by omega
                have c0 := hx _ hB
                have hpr : ∃ (pp : Bs) (pt pn : Int) (pm : Bs) (pe : Int), placeR x = .tuple #[placeV pp pt pn pm, .int .i64 pe] := by
                  unfold placeR
                  split
                  · exact ⟨_, _, _, _, _, rfl⟩
                  · exact ⟨_, _, _, _, _, rfl⟩
                obtain ⟨pp, pt, pn, pm, pe, hpr⟩ := hpr
                have Hp1 := Lib.hid (fun wx => place_w (Str x) wx (by rw [size_Str]; unfold maxLen; omega))
                have Hp2 := Lib.hid (fun wx => rplace_w x wx (by omega))
                simp only [toList_Str] at Hp1
                rw [hpr] at Hp1 Hp2
                simp only [placeV] at Hp1 Hp2
                have HB := Lib.hid hB
                have HE := Lib.hid hbel
                clear hx hpr hB hbel
                go_wp2_with (first
                  | (go_at_call 20; refine (Hp1.out _).mono ?_; rintro e wx1 ⟨rfl, hb⟩; have HB1 := Lib.hid (HB.out.below hb HB.out.lt); have HE1 := Lib.hid (Below.next HE.out (Nat.le_refl _) hb); have HX1 := Lib.hid (XAt.new pp pt pn pm wx1); clear c0; have c0 := Hx.out _ (HB1.out.alloc (Obj.cells #[.string (Str pp), .int .i64 pt, .int .i64 pn, .string (Str pm)] 32)); clear hb)
                  | (go_at_call 21; refine (Hp2.out _).mono ?_; rintro e wx2 ⟨rfl, hb⟩; have HB2 := Lib.hid ((HB1.out.alloc (Obj.cells #[.string (Str pp), .int .i64 pt, .int .i64 pn, .string (Str pm)] 32)).below hb ((HB1.out.alloc _).lt)); have X1 := HX1.out.below hb; have HX2 := Lib.hid X1; have HE2 := Lib.hid (Below.next (HE1.out.alloc HE1.out.size (Obj.cells #[.string (Str pp), .int .i64 pt, .int .i64 pn, .string (Str pm)] 32)) (Nat.le_refl _) hb); clear c0; have a0 := (X1.1.alloc (Obj.cells #[.string (Str pp), .int .i64 pt, .int .i64 pn, .string (Str pm)] 32)).cell 0; have a1 := (X1.1.alloc (Obj.cells #[.string (Str pp), .int .i64 pt, .int .i64 pn, .string (Str pm)] 32)).cell 1; have a2 := (X1.1.alloc (Obj.cells #[.string (Str pp), .int .i64 pt, .int .i64 pn, .string (Str pm)] 32)).cell 2; have a3 := (X1.1.alloc (Obj.cells #[.string (Str pp), .int .i64 pt, .int .i64 pn, .string (Str pm)] 32)).cell 3; simp at a0 a1 a2 a3; clear hb X1))
                refine ⟨⟨j + 1, by omega, by go_num, HB2.out.alloc _, HE2.out.alloc HE2.out.size _⟩, ?_⟩
                simp [intOf]; omega
              · obtain rfl : j = 3 := by omega
                have HE := Lib.hid hbel
                clear hB hbel
                go_wp2
                go_ret
                exact ⟨rfl, HE.out⟩

end Go.Proofs.Yticlomakmcjcfaa
