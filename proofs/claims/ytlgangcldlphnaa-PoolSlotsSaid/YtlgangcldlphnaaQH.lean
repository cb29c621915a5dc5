/-
  Walks: the law PoolSlots.
-/
import Derived.Test.YtlgangcldlphnaaQG
namespace Go.Proofs.Ytlgangcldlphnaa
open Go.RowKit Go.Sort
set_option linter.unusedVariables false
set_option maxRecDepth 100000

set_option maxHeartbeats 16000000 in
theorem poolSlots_walk (w : World) (v0 : Value) (l : List R4) (r0 : IsRaws w v0 l) (v1 : Value) (x : R4) (r1 : v1 = r4V x ∧ x.ok) (v2 : Value) (yb : Nat) (r2 : v2 = .int .u8 yb ∧ yb < 256) :
    Calls Try.prog 8 #[v0, v1, v2] w fun e w' => e = .returned (.bool true) ∧ Below w.heap.size w w' := by
  have mixed := mixedA
  obtain ⟨rfl, hxok⟩ := r1
  obtain ⟨rfl, hyb⟩ := r2
  have HR0 := Lib.hid r0
  obtain ⟨-, ra, rc, rfl, -⟩ := r0
  obtain ⟨y0, y1, y2, y3⟩ := x
  have HXO := Lib.hid hxok
  have HOX := Lib.hid (below_box (w := w) (.cells #[.int .u8 y0, .int .u8 y1, .int .u8 y2, .int .u8 y3] 24))
  have HXX0 : Hid (Blk (w.alloc (.cells #[.int .u8 y0, .int .u8 y1, .int .u8 y2, .int .u8 y3] 24)) w.heap.size 24 #[.int .u8 y0, .int .u8 y1, .int .u8 y2, .int .u8 y3]) := Lib.hid (Blk.new _ _ _)
  clear hxok
  go_enter Try.func8, Try.ntmps8
  go_wp2_with fail
  refine (lsan_w _).mono ?_
  rintro e w1 ⟨rfl, hb⟩
  have HG := Lib.hid (HOX.out.trans (hb.mono (by simp)))
  have HXX := Lib.hid (HXX0.out.below hb HXX0.out.lt)
  clear hb HXX0 HOX
  go_wp2_with fail
  refine (play_w (.slice ra l.length rc) l 16 w1 (HR0.out.below HG.out) (by decide)).mono ?_
  rintro e w2 ⟨v', u', rfl, hs, hu, hb⟩
  obtain ⟨a0, c0, rfl, hpl, hpc, hpm⟩ := hs.slice
  obtain ⟨a1, c1, rfl, hrl, -⟩ := hu.slice
  have HGD : Hid (Good (playX (l.take 16)).1 (playX (l.take 16)).2 16) := Lib.hid ((good_play (l.take 16) (by rw [List.length_take]; omega)).mono (by rw [List.length_take]; omega))
  replace HXX := Lib.hid (HXX.out.below hb HXX.out.lt)
  replace HG := Lib.hid (HG.out.trans (hb.mono HG.out.size))
  have HSP := Lib.hid hs
  have HIR := Lib.hid hu
  clear hs hu hb HR0
  generalize (playX (l.take 16)).1 = P at *
  generalize (playX (l.take 16)).2 = R at *
  have hpn : P.length ≤ 16 := HGD.out.plen
  have hrn : R.length ≤ 16 := HGD.out.rlen
  have HBARE := Lib.hid HGD.out.bare
  obtain ⟨Q, f, hadd⟩ := added_of (n := nodeX ⟨y0, y1, y2, y3⟩ R) HGD.out (fun k hk => kidsX_mem k hk) (by omega)
  have HA := Lib.hid hadd
  clear hadd
  obtain ⟨wh, hwh⟩ : ∃ wh, wh = w2.alloc (.cells #[.slice a0 P.length c0, .slice a1 R.length c1] 32) := ⟨_, rfl⟩
  have HOH : Hid (Below w2.heap.size w2 wh) := Lib.hid (by rw [hwh]; exact below_box _)
  have HXH : Hid (Blk wh w2.heap.size 32 #[.slice a0 P.length c0, .slice a1 R.length c1]) := Lib.hid (by rw [hwh]; exact Blk.new _ _ _)
  have HWH := Lib.hid hwh
  clear hwh
  have t0 := (HXX.out.below HOH.out HXX.out.lt).c0 0 _ rfl
  have t1 := (HXX.out.below HOH.out HXX.out.lt).c0 1 _ rfl
  have t2 := (HXX.out.below HOH.out HXX.out.lt).c0 2 _ rfl
  have t3 := (HXX.out.below HOH.out HXX.out.lt).c0 3 _ rfl
  rw [HWH.out] at t0 t1 t2 t3
  go_wp2_with fail
  rw [← HWH.out]
  refine (node_w ⟨y0, y1, y2, y3⟩ (.slice a1 R.length c1) R _ HXO.out (HIR.out.below HOH.out) (by omega)).mono ?_
  rintro e w3 ⟨nv, rfl, hn, hb, -⟩
  have HND := Lib.hid hn
  obtain ⟨s1, s2, s3, s4, s5, rfl, p1, p2, p3, p4, p5⟩ := hn
  obtain ⟨n1, n1c, rfl, -⟩ := id p1
  obtain ⟨n2, n2c, rfl, -⟩ := id p2
  obtain ⟨n3, n3c, rfl, hk1, hk2, -⟩ := id p3
  obtain ⟨n4, n4c, rfl, -⟩ := id p4
  obtain ⟨n5, n5c, rfl, -⟩ := id p5
  have HKI := Lib.hid p3
  have HB3 := Lib.hid (HOH.out.trans (hb.mono HOH.out.size))
  replace HSP := Lib.hid (HSP.out.below HB3.out)
  replace HIR := Lib.hid (HIR.out.below HB3.out)
  replace HXH := Lib.hid (HXH.out.below hb HXH.out.lt)
  replace HG := Lib.hid (HG.out.trans (HB3.out.mono HG.out.size))
  clear p1 p2 p3 p4 p5 hb t0 t1 t2 t3 HOH HXX HB3 HWH
  have HKL : Hid ((nodeX ⟨y0, y1, y2, y3⟩ R).kids.length ≤ 3) := Lib.hid (kidsX_len _ _)
  have HADD := Lib.hid (fun wx (h : IsSlots wx (.slice a0 P.length c0) P) nv (hn : IsNode wx nv (nodeX ⟨y0, y1, y2, y3⟩ R)) => s_add HGD.out HA.out h hn)
  have HBN := Lib.hid (bare_nodeX ⟨y0, y1, y2, y3⟩ R)
  generalize nodeX ⟨y0, y1, y2, y3⟩ R = n at *
  have hn3 : n.kids.length ≤ 3 := HKL.out
  obtain ⟨wn, hwn⟩ : ∃ wn, wn = w3.alloc (.cells #[.slice n1 n.pairs.length n1c, .slice n2 n.pivots.length n2c, .slice n3 n.kids.length n3c, .slice n4 n.sums.length n4c, .slice n5 n.buf.length n5c] 39) := ⟨_, rfl⟩
  have HON : Hid (Below w3.heap.size w3 wn) := Lib.hid (by rw [hwn]; exact below_box _)
  have HXN : Hid (Blk wn w3.heap.size 39 #[.slice n1 n.pairs.length n1c, .slice n2 n.pivots.length n2c, .slice n3 n.kids.length n3c, .slice n4 n.sums.length n4c, .slice n5 n.buf.length n5c]) := Lib.hid (by rw [hwn]; exact Blk.new _ _ _)
  have HWN := Lib.hid hwn
  clear hwn
  have t0 := (HXH.out.below HON.out HXH.out.lt).c0 0 _ rfl
  rw [HWN.out] at t0
  go_wp2_with fail
  rw [← HWN.out]
  refine (HADD.out _ (HSP.out.below HON.out) _ (HND.out.below HON.out)).mono ?_
  rintro e w4 ⟨g1, g1c, rfl, hs, hb⟩
  have HB4 := Lib.hid (HON.out.trans (hb.mono HON.out.size))
  replace HSP := Lib.hid (HSP.out.below HB4.out)
  replace HIR := Lib.hid (HIR.out.below HB4.out)
  replace HND := Lib.hid (HND.out.below HB4.out)
  replace HKI := Lib.hid (HKI.out.below HB4.out)
  replace HXH := Lib.hid (HXH.out.below HB4.out HXH.out.lt)
  replace HXN := Lib.hid (HXN.out.below hb HXN.out.lt)
  replace HG := Lib.hid (HG.out.trans (HB4.out.mono HG.out.size))
  have HSQ := Lib.hid hs
  clear hs hb t0 HON HB4 HWN HADD
  -- the box of what Add gave
  obtain ⟨w5, hw5⟩ : ∃ w5, w5 = w4.alloc (.cells #[.slice g1 Q.length g1c, .int .i64 f, .int .i64 0] 44) := ⟨_, rfl⟩
  have HB5 : Hid (Below w4.heap.size w4 w5) := Lib.hid (by rw [hw5]; exact below_box _)
  have HXG : Hid (Blk w5 w4.heap.size 44 #[.slice g1 Q.length g1c, .int .i64 f, .int .i64 0]) := Lib.hid (by rw [hw5]; exact Blk.new _ _ _)
  replace HSP := Lib.hid (HSP.out.below HB5.out)
  replace HSQ := Lib.hid (HSQ.out.below HB5.out)
  replace HIR := Lib.hid (HIR.out.below HB5.out)
  replace HND := Lib.hid (HND.out.below HB5.out)
  replace HKI := Lib.hid (HKI.out.below HB5.out)
  replace HXH := Lib.hid (HXH.out.below HB5.out HXH.out.lt)
  replace HXN := Lib.hid (HXN.out.below HB5.out HXN.out.lt)
  replace HG := Lib.hid (HG.out.trans (HB5.out.mono HG.out.size))
  have HW5 := Lib.hid hw5
  clear hw5 HB5
  have hh0 := HXH.out.c0 0 _ rfl
  have hh1 := HXH.out.c0 1 _ rfl
  have hm2 := HXN.out.c0 2 _ rfl
  have hg0 := HXG.out.c0 0 _ rfl
  have hg1 := HXG.out.c0 1 _ rfl
  have hq1 := HA.out.lo
  have hq2 := HA.out.hi
  have hq3 := HA.out.lt
  have z1 : (0 : Int) ≤ (f : Int) := by omega
  have z2 : (f : Int) < (Q.length : Int) := by omega
  have z3 : (Q.length : Int) ≤ (P.length : Int) + 1 := by omega
  have z4 : (P.length : Int) ≤ (Q.length : Int) := by omega
  have z5 : IntKind.i64.wrap ((P.length : Int) + 1) = (P.length : Int) + 1 := IntWalk.i64_in _ (by omega)
  rw [HW5.out] at hh0
  go_upto_region 7 with fail
  rw [← HW5.out]
  rw [← HW5.out] at hh0
  clear z1 z2 z3 z4 z5
  go_wp2_with fail
  go_loopw [11] (fun i wr => ∃ k : Nat, k ≤ P.length ∧ i = .int .i64 k ∧ Hid (Below w5.heap.size w5 wr)) (fun i _ => P.length - (intOf i).toNat)
  case atStart => exact ⟨0, Nat.zero_le _, rfl, Lib.hid (Below.refl _ _)⟩
  case round =>
    obtain ⟨k, hk, rfl, HB⟩ := hrel
    have h0 := cell_all hh0 _ HB.out
    have h1 := cell_all hh1 _ HB.out
    have m2 := cell_all hm2 _ HB.out
    have g0 := cell_all hg0 _ HB.out
    have g1' := cell_all hg1 _ HB.out
    by_cases hlt : k < P.length
    · have hltz : (k : Int) < (P.length : Int) := by omega
      obtain ⟨bP, oP, cP, sP, heP, -, -, hsP, vP0, -, vP2, -⟩ := slot_at (HSP.out.below HB.out) k hlt
      injection heP with e1 e2 e3
      subst e1 e3
      clear e2
      obtain ⟨bQ, oQ, cQ, sQ, heQ, -, hlzQ, hsQ, -, -, vQ2, -⟩ := slot_at (HSQ.out.below HB.out) k (by omega)
      injection heQ with e1 e2 e3
      subst e1 e3
      clear e2
      rw [hsP.used] at vP0
      rw [hsP.refs] at vP2
      rw [hsQ.refs] at vQ2
      have hlzQ2 : (k : Int) < (Q.length : Int) := by omega
      have hrb := HGD.out.refs k
      have HRB := Lib.hid hrb
      clear hsP hsQ hrb
      have HLOW := Lib.hid (HA.out.low k)
      have HFREE := Lib.hid HA.out.free
      have HREF := Lib.hid (HA.out.refs k)
      go_wp2_with fail
      go_loop [12, 13] (fun t m => ∃ j : Nat, j ≤ n.kids.length ∧ m = .int .i64 j ∧ t = .int .i64 (((n.kids.take j).count (k : Int) : Nat) : Int)) (fun _ m => n.kids.length - (intOf m).toNat)
      case atStart => exact ⟨0, Nat.zero_le _, rfl, rfl⟩
      case round =>
        obtain ⟨j, hj, rfl, rfl⟩ := hrel
        by_cases hjl : j < n.kids.length
        · obtain ⟨b5, off5, cap5, he, -, hlz5, y0⟩ := at_int (HKI.out.below HB.out) j hjl
          injection he with e1 e2 e3
          subst e1 e3
          clear e2
          have hjz : (j : Int) < (n.kids.length : Int) := by omega
          have HSN : Hid ((n.kids.take (j + 1)).count (k : Int) = (n.kids.take j).count (k : Int) + if n.kids[j] = (k : Int) then 1 else 0) := Lib.hid (by
            rw [List.take_succ_eq_append_getElem hjl, List.count_append, List.count_singleton]
            simp)
          have hcb : (n.kids.take j).count (k : Int) ≤ 3 := Nat.le_trans List.count_le_length (by rw [List.length_take]; omega)
          have hw1 : IntKind.i64.wrap ((((n.kids.take j).count (k : Int) : Nat) : Int) + 1) = (((n.kids.take j).count (k : Int) : Nat) : Int) + 1 := IntWalk.i64_in _ (by omega)
          generalize n.kids[j] = kid at *
          by_cases hkk : kid = (k : Int)
          · rw [if_pos hkk] at HSN
            subst hkk
            have hbe : ((k : Int) == (k : Int)) = true := by simp
            go_wp2
            go_round
            case rel => exact ⟨j + 1, by omega, by go_num, by rw [HSN.out]; simp⟩
            case measure => simp [intOf]; omega
          · rw [if_neg hkk] at HSN
            have hbe : (kid == (k : Int)) = false := by simpa using hkk
            clear hkk
            go_wp2
            go_round
            case rel => exact ⟨j + 1, by omega, by go_num, by rw [HSN.out]; simp⟩
            case measure => simp [intOf]; omega
        · obtain rfl : j = n.kids.length := by omega
          rw [List.take_length]
          have hcb : n.kids.count (k : Int) ≤ 3 := Nat.le_trans List.count_le_length hn3
          obtain ⟨hb1, hb2⟩ := HRB.out
          clear hh0 hh1 hm2 hg0 hg1 h1
          rcases Nat.lt_trichotomy k f with hkf | hkf | hkf
          · have hu := HLOW.out hkf
            rw [hu] at vP0
            rw [HREF.out (by omega)] at vQ2
            have hbe : ((k : Int) == (f : Int)) = false := by simp; omega
            have hle : (k : Int) ≤ (f : Int) := by omega
            have hw1 : IntKind.i64.wrap ((atP P k).refs + ((n.kids.count (k : Int) : Nat) : Int)) = (atP P k).refs + ((n.kids.count (k : Int) : Nat) : Int) := IntWalk.i64_in _ (by omega)
            have hbn : ((k : Int) != (f : Int)) = true := by simp; omega
            clear hu hkf
            generalize (atP P k).refs = rp at *
            generalize ((n.kids.count (k : Int) : Nat) : Int) = tm at *
            have hnn : (rp + tm != rp + tm) = false := by simp
            go_upto_region 16 with fail
            go_quiet (fail)
            go_wp2
            go_roundw
            case rel => exact ⟨k + 1, by omega, by go_num, Lib.hid (HB.out.trans (below_drewN _ _))⟩
            case measure => simp [intOf]; omega
          · subst hkf
            rw [HFREE.out] at vP0
            have hbe : ((k : Int) == (k : Int)) = true := by simp
            have hbn : ((k : Int) != (k : Int)) = false := by simp
            go_upto_region 16 with fail
            go_quiet (fail)
            go_wp2
            go_roundw
            case rel => exact ⟨k + 1, by omega, by go_num, Lib.hid (HB.out.trans (below_drewN _ _))⟩
            case measure => simp [intOf]; omega
          · rw [HREF.out (by omega)] at vQ2
            have hbe : ((k : Int) == (f : Int)) = false := by simp; omega
            have hle : (f : Int) < (k : Int) := by omega
            have hle2 : ¬ ((k : Int) ≤ (f : Int)) := by omega
            have hle3 : decide ((k : Int) ≤ (f : Int)) = false := by simp; omega
            have hw1 : IntKind.i64.wrap ((atP P k).refs + ((n.kids.count (k : Int) : Nat) : Int)) = (atP P k).refs + ((n.kids.count (k : Int) : Nat) : Int) := IntWalk.i64_in _ (by omega)
            have hbn : ((k : Int) != (f : Int)) = true := by simp; omega
            generalize (atP P k).refs = rp at *
            generalize ((n.kids.count (k : Int) : Nat) : Int) = tm at *
            have hnn : (rp + tm != rp + tm) = false := by simp
            clear hkf
            cases hpu : (atP P k).used
            all_goals
              rw [hpu] at vP0
              clear hpu
              go_upto_region 16 with fail
              go_quiet (fail)
              go_wp2
              go_roundw
              case rel => exact ⟨k + 1, by omega, by go_num, Lib.hid (HB.out.trans (below_drewN _ _))⟩
              case measure => simp [intOf]; omega
    · obtain rfl : k = P.length := by omega
      clear hlt hh0 hh1 hm2 hg0 hg1
      have HADDED := HA
      go_wp2_with fail
      refine (s_get HA.out (HSQ.out.below HB.out)).mono ?_
      rintro e w7 ⟨d0, d1, d2, d3, d4, d5, d6, d7, d8, d9, d10, d11, d12, d13, d14, rfl, hn7, hb⟩
      have HB7 : Hid (Below w5.heap.size w5 w7) := Lib.hid (HB.out.trans (hb.mono HB.out.size))
      obtain ⟨w8, hw8⟩ : ∃ w8, w8 = w7.alloc (.cells #[.slice d0 d1 d2, .slice d3 d4 d5, .slice d6 d7 d8, .slice d9 d10 d11, .slice d12 d13 d14] 39) := ⟨_, rfl⟩
      have HB78 : Hid (Below w7.heap.size w7 w8) := Lib.hid (by rw [hw8]; exact below_box _)
      have HB8 : Hid (Below w5.heap.size w5 w8) := Lib.hid (HB7.out.trans (HB78.out.mono HB7.out.size))
      have HN8 := Lib.hid (hn7.below HB78.out)
      have HW8 := Lib.hid hw8
      have HXN7 := HXN.out.below HB7.out HXN.out.lt
      have n0 := HXN7.c0 0 _ rfl
      have n1 := HXN7.c0 1 _ rfl
      have n2 := HXN7.c0 2 _ rfl
      have n3 := HXN7.c0 3 _ rfl
      have n4 := HXN7.c0 4 _ rfl
      have hlt7 := HXN7.lt
      clear hb hw8 HXN7 h0 h1 m2 g0 g1'
      go_wp2_with fail
      rw [← HW8.out]
      clear n0 n1 n2 n3 n4
      refine (samenode_w _ _ n w8 HN8.out (HND.out.below HB8.out) HBN.out).mono ?_
      rintro e w9 ⟨rfl, hb⟩
      have HB9 : Hid (Below w5.heap.size w5 w9) := Lib.hid (HB8.out.trans (hb.mono HB8.out.size))
      have hh0 := HXH.out.below HB9.out HXH.out.lt |>.c0 0 _ rfl
      have hh1 := HXH.out.below HB9.out HXH.out.lt |>.c0 1 _ rfl
      have hg0 := HXG.out.below HB9.out HXG.out.lt |>.c0 0 _ rfl
      have hg1 := HXG.out.below HB9.out HXG.out.lt |>.c0 1 _ rfl
      obtain ⟨bQ, oQ, cQ, sQ, heQ, -, hlzQ, hsQ, -, -, vQ2, -⟩ := slot_at (HSQ.out.below HB9.out) f hq3
      injection heQ with e1 e2 e3
      subst e1 e3
      clear e2
      rw [hsQ.refs, HA.out.new.2.2.1] at vQ2
      have hfz : (f : Int) < (Q.length : Int) := by omega
      clear hb hsQ HN8 HW8 HB78 HB7
      by_cases hr0 : R.length = 0
      · have hlz : ((R.length : Int) == 0) = true := by simp [hr0]
        have HR0 := Lib.hid hr0
        clear hr0
        go_wp2
        go_ret
        exact ⟨rfl, HG.out.trans (HB9.out.mono HG.out.size)⟩
      · have hlp : 0 < R.length := by omega
        have hlz : ((R.length : Int) == 0) = false := by simpa using List.length_pos_iff.1 hlp
        clear hr0
        obtain ⟨r, hr⟩ : ∃ r : Nat, r = yb % R.length := ⟨_, rfl⟩
        have hrl2 : r < R.length := by rw [hr]; exact Nat.mod_lt _ hlp
        have hrz : (yb : Int) % (R.length : Int) = (r : Int) := by rw [hr]; exact (Int.natCast_emod yb R.length).symm
        have hrt : (yb : Int).tmod (R.length : Int) = (r : Int) := by rw [Int.tmod_eq_emod_of_nonneg (by omega)]; exact hrz
        have hyw : IntKind.i64.wrap (yb : Int) = (yb : Int) := IntWalk.i64_in _ (by omega)
        have hrw : IntKind.i64.wrap (r : Int) = (r : Int) := IntWalk.i64_in _ (by omega)
        have hn0 : ¬ ((R.length : Int) = 0) := by omega
        have hrn : ¬ (R = []) := List.length_pos_iff.1 hlp
        have hn1 : ¬ ((R.length : Int) = -1) := by omega
        have hrlz : (r : Int) < (R.length : Int) := by omega
        obtain ⟨b5, off5, cap6, he, hbl5, hlz5, z0⟩ := at_int (HIR.out.below HB9.out) r hrl2
        injection he with he1 he2 he3
        subst he1 he3
        clear he2 hr
        have HMEM : Hid (R[r] ∈ R) := Lib.hid (List.getElem_mem hrl2)
        generalize R[r] = id at *
        have HHOLD := Lib.hid (fun wx (hx : Below w5.heap.size w5 wx) => s_hold HGD.out HMEM.out (HSP.out.below hx))
        have HDROP := Lib.hid (fun wx v (hx : IsSlots wx v (incP P id)) => s_drop HGD.out HMEM.out hx)
        go_upto_region 23 with fail
        go_quiet (fail)
        obtain ⟨wd, hwd⟩ : ∃ wd, wd = w9.drewN nq := ⟨_, rfl⟩
        have HBD : Hid (Below w5.heap.size w5 wd) := Lib.hid (by rw [hwd]; exact HB9.out.trans (below_drewN _ _))
        rw [← hwd]
        clear hwd hh0 hh1 hg0 hg1 vQ2 z0 hrz hrt hyw hrw hn0 hrn hn1 hlz hrl2 hrlz
        have hh0 := HXH.out.below HBD.out HXH.out.lt |>.c0 0 _ rfl
        go_wp2_with fail
        refine (HHOLD.out _ HBD.out).mono ?_
        rintro e w10 ⟨ah, ch, rfl, hs10, hb10⟩
        have HB10 : Hid (Below w5.heap.size w5 w10) := Lib.hid (HBD.out.trans (hb10.mono HBD.out.size))
        obtain ⟨w11, hw11⟩ : ∃ w11, w11 = w10.alloc (.cells #[.slice ah (incP P id).length ch] 29) := ⟨_, rfl⟩
        have HB11 : Hid (Below w10.heap.size w10 w11) := Lib.hid (by rw [hw11]; exact below_box _)
        have HS11 := Lib.hid (hs10.below HB11.out)
        have HW11 := Lib.hid hw11
        have HLEN : Hid ((incP P id).length = P.length) := Lib.hid (incP_len P id)
        clear hs10 hb10 hw11 hh0
        go_wp2_with fail
        rw [← HW11.out]
        refine (HDROP.out _ _ HS11.out).mono ?_
        rintro e w12 ⟨ad, cd, rfl, hs12, hb12⟩
        have HB12 : Hid (Below w5.heap.size w5 w12) := Lib.hid ((HB10.out.trans (HB11.out.mono HB10.out.size)).trans (hb12.mono (by have := HB10.out.size; have := HB11.out.size; omega)))
        obtain ⟨w13, hw13⟩ : ∃ w13, w13 = w12.alloc (.cells #[.slice ad P.length cd] 29) := ⟨_, rfl⟩
        have HB13 : Hid (Below w12.heap.size w12 w13) := Lib.hid (by rw [hw13]; exact below_box _)
        have HBB : Hid (Below w5.heap.size w5 w13) := Lib.hid (HB12.out.trans (HB13.out.mono HB12.out.size))
        have HSB := Lib.hid (hs12.below HB13.out)
        have HW13 := Lib.hid hw13
        have hh0 := HXH.out.below HB12.out HXH.out.lt |>.c0 0 _ rfl
        have hlt12 := (HXH.out.below HB12.out HXH.out.lt).lt
        clear hs12 hb12 hw13
        go_wp2_with fail
        rw [← HW13.out]
        refine (same_w _ _ P w13 HSB.out (HSP.out.below HBB.out) HBARE.out).mono ?_
        rintro e w14 ⟨rfl, hb14⟩
        have HB14 : Hid (Below w5.heap.size w5 w14) := Lib.hid (HBB.out.trans (hb14.mono HBB.out.size))
        clear hb14 hh0
        go_wp2
        go_ret
        exact ⟨rfl, HG.out.trans (HB14.out.mono HG.out.size)⟩

end Go.Proofs.Ytlgangcldlphnaa
