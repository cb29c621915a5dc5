/-
  Walks: the law PoolMatchesReference (gen_qx.py).
-/
import Derived.Test.YtlgangcldlphnaaQW
namespace Go.Proofs.Ytlgangcldlphnaa
open Go.RowKit Go.Sort
set_option linter.unusedVariables false
set_option maxRecDepth 100000

set_option maxHeartbeats 4000000 in
theorem lsame_w (a b : Option Addr) (ca cb : Nat) (P : List Sl) (id er : Int) (w : World) (h : IsSlots w (.slice a P.length ca) P) (k : IsSlots w (.slice b P.length cb) P) (hb : ∀ i, Bare (atP P i).node) :
    Calls Try.prog 14 #[.agg #[.slice a P.length ca, .int .i64 id, .int .i64 er], .agg #[.slice b P.length cb, .int .i64 id, .int .i64 er]] w fun e w' => e = .returned (.bool true) ∧ Below w.heap.size w w' := by
  have mixed := mixedA
  obtain ⟨W1, hW1⟩ : ∃ W1, W1 = (w.alloc (.cells #[.slice a P.length ca, .int .i64 id, .int .i64 er] 44)).alloc (.cells #[.slice b P.length cb, .int .i64 id, .int .i64 er] 44) := ⟨_, rfl⟩
  have HB1 : Hid (Below w.heap.size w W1) := Lib.hid (by rw [hW1]; exact keepP (keepP (Below.refl _ _) _) _)
  have HX : Hid (Blk W1 w.heap.size 44 #[.slice a P.length ca, .int .i64 id, .int .i64 er]) := Lib.hid (by rw [hW1]; exact (Blk.new _ _ _).alloc _)
  have HY : Hid (Blk W1 (w.heap.size + 1) 44 #[.slice b P.length cb, .int .i64 id, .int .i64 er]) := Lib.hid (by rw [hW1]; exact Blk.new' _ _ _ (by simp))
  have HS := Lib.hid (same_w _ _ P W1 (h.below HB1.out) (k.below HB1.out) hb)
  have HW1 := Lib.hid hW1
  have hx0 := HX.out.c0 0 _ rfl
  have hy0 := HY.out.c0 0 _ rfl
  have hii : (id == id) = true := by simp
  have hee : (er == er) = true := by simp
  clear hW1 h k hb
  go_enter Try.func14, Try.ntmps14
  go_upto_region 1 with fail
  rw [← HW1.out]
  go_wp2_with fail
  refine HS.out.mono ?_
  rintro e w2 ⟨rfl, hb2⟩
  have hx1 := (HX.out.below hb2 HX.out.lt).c0 1 _ rfl
  have hx2 := (HX.out.below hb2 HX.out.lt).c0 2 _ rfl
  have hy1 := (HY.out.below hb2 HY.out.lt).c0 1 _ rfl
  have hy2 := (HY.out.below hb2 HY.out.lt).c0 2 _ rfl
  have HB2 := Lib.hid (HB1.out.trans (hb2.mono HB1.out.size))
  clear hb2 hx0 hy0 HS
  go_wp2
  go_ret
  exact ⟨rfl, HB2.out⟩
def DropE (wr : World) (n : Nat) (Q : List Sl) (s22 s21 : Value) (wx : World) : Prop := ∃ b a c, s22 = .int .i64 0 ∧ s21 = .pointer (some ⟨b, 0, none⟩) ∧ wr.heap.size ≤ b ∧ Blk wx b 29 #[.slice a n c] ∧ IsSlots wx (.slice a n c) Q ∧ Below wr.heap.size wr wx
theorem DropE.fresh {wr wx : World} {n : Nat} {Q : List Sl} {a : Option Addr} {c : Nat} (hs : IsSlots wx (.slice a n c) Q) (hb : Below wr.heap.size wr wx) :
    DropE wr n Q (.int .i64 0) (.pointer (some ⟨wx.heap.size, 0, none⟩)) (wx.alloc (.cells #[.slice a n c] 29)) :=
  ⟨_, _, _, rfl, rfl, hb.size, Blk.new _ _ _, hs.below (below_box _), keepP hb _⟩
theorem DropE.stored {wr wx : World} {n : Nat} {Q : List Sl} {a z : Option Addr} {c b m k : Nat} (hz : Blk wx b 29 #[.slice z m k]) (hs : IsSlots wx (.slice a n c) Q) (hbare : ∀ i, Bare (atP Q i).node) (hb : Below wr.heap.size wr wx) (hle : wr.heap.size ≤ b) :
    DropE wr n Q (.int .i64 0) (.pointer (some ⟨b, 0, none⟩)) (wx.setCell ⟨b, 0, none⟩ (.slice a n c)) :=
  ⟨_, _, _, rfl, rfl, hle, hz.setCell 0 _, slots_butS hs hbare (onlyS1 hz) (ButP.setCell _ _ _ _), hb.setCell (p := ⟨b, 0, none⟩) hle _⟩
theorem fifteen {w : World} {v : Value} {n : Nd} (h : IsNode w v n) : ∃ a a1 a2 b b1 b2 c c1 c2 d d1 d2 g g1 g2, v = .agg #[.slice a a1 a2, .slice b b1 b2, .slice c c1 c2, .slice d d1 d2, .slice g g1 g2] := by
  obtain ⟨a, b, c, d, g, rfl, p1, p2, p3, p4, p5⟩ := h
  obtain ⟨a0, a2, rfl, -⟩ := id p1
  obtain ⟨b0, b2, rfl, -⟩ := id p2
  obtain ⟨c0, c2, rfl, -⟩ := id p3
  obtain ⟨d0, d2, rfl, -⟩ := id p4
  obtain ⟨g0, g2, rfl, -⟩ := id p5
  exact ⟨_, _, _, _, _, _, _, _, _, _, _, _, _, _, _, rfl⟩
theorem get_bare {P : List Sl} {R : List Int} {j : Nat} (h : Good P R j) (k : Int) : Bare (getP P k).1 := by
  unfold getP
  split
  · split
    · exact bare_zero
    · exact h.bare _
  · exact bare_zero
theorem hold_bare {P : List Sl} {R : List Int} {j : Nat} (h : Good P R j) (k : Int) : (∀ i, Bare (atP (holdP P k).1 i).node) ∧ (holdP P k).1.length = P.length := by
  unfold holdP
  split
  · rename_i hu
    have hl := usedB_lt hu
    refine ⟨fun i => ?_, incP_len _ _⟩
    rw [atP_incP hl.2]
    split
    · exact h.bare i
    · exact h.bare i
  · exact ⟨h.bare, rfl⟩
set_option maxHeartbeats 16000000 in
theorem poolMatchesReference_walk (w : World) (v0 : Value) (l : List R4) (r0 : IsRaws w v0 l) (v1 : Value) (x : R4) (r1 : v1 = r4V x ∧ x.ok) (v2 : Value) (yb : Int) (r2 : v2 = .int .i8 yb ∧ -128 ≤ yb ∧ yb < 128) :
    Calls Try.prog 3 #[v0, v1, v2] w fun e w' => e = .returned (.bool true) ∧ Below w.heap.size w w' := by
  have mixed := mixedA
  obtain ⟨rfl, hxok⟩ := r1
  obtain ⟨rfl, hyl, hyu⟩ := r2
  have HR0 := Lib.hid r0
  obtain ⟨-, ra, rc, rfl, -⟩ := r0
  obtain ⟨y0, y1, y2, y3⟩ := x
  have HXO := Lib.hid hxok
  have HOX := Lib.hid (below_box (w := w) (.cells #[.int .u8 y0, .int .u8 y1, .int .u8 y2, .int .u8 y3] 24))
  have HXX0 : Hid (Blk (w.alloc (.cells #[.int .u8 y0, .int .u8 y1, .int .u8 y2, .int .u8 y3] 24)) w.heap.size 24 #[.int .u8 y0, .int .u8 y1, .int .u8 y2, .int .u8 y3]) := Lib.hid (Blk.new _ _ _)
  clear hxok
  go_enter Try.func3, Try.ntmps3
  go_wp2_with fail
  refine (lsan_w _).mono ?_
  rintro e w1 ⟨rfl, hb⟩
  have HG := Lib.hid (HOX.out.trans (hb.mono (by simp)))
  have HXX := Lib.hid (HXX0.out.below hb HXX0.out.lt)
  clear hb HXX0 HOX
  go_wp2_with fail
  refine (play_w (.slice ra l.length rc) l 16 w1 (HR0.out.below HG.out) (by decide)).mono ?_
  rintro e w2 ⟨v', u', rfl, hs, hu, hb⟩
  obtain ⟨a0, c0, rfl, hpl, hpc, hpm⟩ := hs.slice
  obtain ⟨a1, c1, rfl, hrl, -⟩ := hu.slice
  have HGD : Hid (Good (playX (l.take 16)).1 (playX (l.take 16)).2 16) := Lib.hid ((good_play (l.take 16) (by rw [List.length_take]; omega)).mono (by rw [List.length_take]; omega))
  replace HXX := Lib.hid (HXX.out.below hb HXX.out.lt)
  replace HG := Lib.hid (HG.out.trans (hb.mono HG.out.size))
  have HSP := Lib.hid hs
  have HIR := Lib.hid hu
  clear hs hu hb HR0
  generalize (playX (l.take 16)).1 = P at *
  generalize (playX (l.take 16)).2 = R at *
  have hpn : P.length ≤ 16 := HGD.out.plen
  have hrn : R.length ≤ 16 := HGD.out.rlen
  have HBARE := Lib.hid HGD.out.bare
  obtain ⟨wh, hwh⟩ : ∃ wh, wh = w2.alloc (.cells #[.slice a0 P.length c0, .slice a1 R.length c1] 32) := ⟨_, rfl⟩
  have HOH : Hid (Below w2.heap.size w2 wh) := Lib.hid (by rw [hwh]; exact below_box _)
  have HXH : Hid (Blk wh w2.heap.size 32 #[.slice a0 P.length c0, .slice a1 R.length c1]) := Lib.hid (by rw [hwh]; exact Blk.new _ _ _)
  have HWH := Lib.hid hwh
  clear hwh
  have t0 := (HXX.out.below HOH.out HXX.out.lt).c0 0 _ rfl
  have t1 := (HXX.out.below HOH.out HXX.out.lt).c0 1 _ rfl
  have t2 := (HXX.out.below HOH.out HXX.out.lt).c0 2 _ rfl
  have t3 := (HXX.out.below HOH.out HXX.out.lt).c0 3 _ rfl
  rw [HWH.out] at t0 t1 t2 t3
  go_wp2_with fail
  rw [← HWH.out]
  refine (node_w ⟨y0, y1, y2, y3⟩ (.slice a1 R.length c1) R _ HXO.out (HIR.out.below HOH.out) (by omega)).mono ?_
  rintro e w3 ⟨nv, rfl, hn, hb, -⟩
  have HND := Lib.hid hn
  obtain ⟨s1, s2, s3, s4, s5, rfl, p1, p2, p3, p4, p5⟩ := hn
  obtain ⟨n1, n1c, rfl, -⟩ := id p1
  obtain ⟨n2, n2c, rfl, -⟩ := id p2
  obtain ⟨n3, n3c, rfl, hk1, hk2, -⟩ := id p3
  obtain ⟨n4, n4c, rfl, -⟩ := id p4
  obtain ⟨n5, n5c, rfl, -⟩ := id p5
  have HKI := Lib.hid p3
  have HB3 := Lib.hid (HOH.out.trans (hb.mono HOH.out.size))
  replace HSP := Lib.hid (HSP.out.below HB3.out)
  replace HIR := Lib.hid (HIR.out.below HB3.out)
  replace HXH := Lib.hid (HXH.out.below hb HXH.out.lt)
  replace HG := Lib.hid (HG.out.trans (HB3.out.mono HG.out.size))
  clear p1 p2 p3 p4 p5 hb t0 t1 t2 t3 HOH HXX HB3 HWH
  have HKL : Hid ((nodeX ⟨y0, y1, y2, y3⟩ R).kids.length ≤ 3) := Lib.hid (kidsX_len _ _)
  have HNK : Hid (∀ k ∈ (nodeX ⟨y0, y1, y2, y3⟩ R).kids, k ∈ R) := Lib.hid (fun k hk => kidsX_mem k hk)
  have HNP : Hid ((nodeX ⟨y0, y1, y2, y3⟩ R).pairs.length ≤ 1) := Lib.hid (nodeX_pairs _ _)
  have HBN := Lib.hid (bare_nodeX ⟨y0, y1, y2, y3⟩ R)
  generalize nodeX ⟨y0, y1, y2, y3⟩ R = n at *
  have hn3 : n.kids.length ≤ 3 := HKL.out
  obtain ⟨wn, hwn⟩ : ∃ wn, wn = w3.alloc (.cells #[.slice n1 n.pairs.length n1c, .slice n2 n.pivots.length n2c, .slice n3 n.kids.length n3c, .slice n4 n.sums.length n4c, .slice n5 n.buf.length n5c] 39) := ⟨_, rfl⟩
  have HON : Hid (Below w3.heap.size w3 wn) := Lib.hid (by rw [hwn]; exact below_box _)
  have HXN : Hid (Blk wn w3.heap.size 39 #[.slice n1 n.pairs.length n1c, .slice n2 n.pivots.length n2c, .slice n3 n.kids.length n3c, .slice n4 n.sums.length n4c, .slice n5 n.buf.length n5c]) := Lib.hid (by rw [hwn]; exact Blk.new _ _ _)
  have HWN := Lib.hid hwn
  clear hwn
  -- the worlds of region 4
  have HB4 := HON
  replace HSP := Lib.hid (HSP.out.below HON.out)
  replace HIR := Lib.hid (HIR.out.below HON.out)
  replace HND := Lib.hid (HND.out.below HON.out)
  replace HXH := Lib.hid (HXH.out.below HON.out HXH.out.lt)
  replace HG := Lib.hid (HG.out.trans (HON.out.mono HG.out.size))
  clear HON HB4 HKI
  obtain ⟨P2, hP2⟩ : ∃ P2, P2 = (addP P n).1 := ⟨_, rfl⟩
  obtain ⟨f, hf⟩ : ∃ f, f = (addP P n).2.1 := ⟨_, rfl⟩
  obtain ⟨er, her⟩ : ∃ er, er = (addP P n).2.2 := ⟨_, rfl⟩
  have HBR2 : Hid (∀ i, Bare (atP P2 i).node) := Lib.hid (by rw [hP2, add_yes HGD.out HNK.out (by omega)]; exact (good_add HGD.out HNK.out hn3 HBN.out HNP.out).bare)
  have HAD : Hid (∀ wx, Below wn.heap.size wn wx → Calls Try.prog 15 #[poolV (.slice a0 P.length c0), .agg #[.slice n1 n.pairs.length n1c, .slice n2 n.pivots.length n2c, .slice n3 n.kids.length n3c, .slice n4 n.sums.length n4c, .slice n5 n.buf.length n5c]] wx fun e w' => ∃ a c, e = .returned (.agg #[.slice a P2.length c, .int .i64 f, .int .i64 er]) ∧ IsSlots w' (.slice a P2.length c) P2 ∧ Below wn.heap.size wn w') := Lib.hid (fun wx hx => (ladd_w _ _ P n wx (HSP.out.below hx) (HND.out.below hx) (by omega) (by omega) (fun i _ => by have := HGD.out.refs i; omega)).mono fun e w' h => by
    obtain ⟨v', h1, h2, h3⟩ := h
    obtain ⟨a, c, rfl, -⟩ := h2.slice
    rw [← hP2] at h1 h2
    rw [← hf, ← her] at h1
    exact ⟨a, c, h1, h2, hx.trans (h3.mono hx.size)⟩)
  have HRA : Hid (∀ wx, Below wn.heap.size wn wx → ∀ v, IsSlots wx v P2 → Calls Try.prog 16 #[poolV (.slice a0 P.length c0), .agg #[.slice n1 n.pairs.length n1c, .slice n2 n.pivots.length n2c, .slice n3 n.kids.length n3c, .slice n4 n.sums.length n4c, .slice n5 n.buf.length n5c]] wx fun e w' => ∃ a c, e = .returned (.agg #[.slice a P2.length c, .int .i64 f, .int .i64 er]) ∧ IsSlots w' (.slice a P2.length c) P2 ∧ Below wn.heap.size wn w' ∧ IsSlots w' v P2) := Lib.hid (fun wx hx v hv => (raddF_w _ _ P n wx wx (HSP.out.below hx).slF (HSP.out.below hx) (HND.out.below hx) (HND.out.below hx) (by omega) (by omega) (fun i _ => by have := HGD.out.refs i; omega)).mono fun e w' h => by
    obtain ⟨v', h1, h2⟩ := h
    have h3 := h2.sl.slots h2.bel
    obtain ⟨a, c, rfl, -⟩ := h3.slice
    rw [← hP2] at h1 h3
    rw [← hf, ← her] at h1
    exact ⟨a, c, h1, h3, hx.trans (h2.bel.mono hx.size), hv.below h2.bel⟩)
  have HSA : Hid (∀ wx, Below wn.heap.size wn wx → ∀ a ca b cb, IsSlots wx (.slice a P2.length ca) P2 → IsSlots wx (.slice b P2.length cb) P2 → Calls Try.prog 14 #[.agg #[.slice a P2.length ca, .int .i64 f, .int .i64 er], .agg #[.slice b P2.length cb, .int .i64 f, .int .i64 er]] wx fun e w' => e = .returned (.bool true) ∧ Below wn.heap.size wn w') := Lib.hid (fun wx hx a ca b cb h1 h2 => (lsame_w a b ca cb P2 f er wx h1 h2 HBR2.out).mono fun e w' h => ⟨h.1, hx.trans (h.2.mono hx.size)⟩)
  have HL1 := Lib.hid (fun wx (hx : Below wn.heap.size wn wx) => (live_w _ P wx (HSP.out.below hx)).mono fun e w' (h : _ ∧ _) => (⟨h.1, hx.trans (h.2.mono hx.size)⟩ : e = .returned (.int .i64 ((liveP P : Nat) : Int)) ∧ Below wn.heap.size wn w'))
  have HL2 := Lib.hid (fun wx (hx : Below wn.heap.size wn wx) => (rlive_w _ P wx (HSP.out.below hx)).mono fun e w' (h : _ ∧ _) => (⟨h.1, hx.trans (h.2.mono hx.size)⟩ : e = .returned (.int .i64 ((liveP P : Nat) : Int)) ∧ Below wn.heap.size wn w'))
  clear hP2 hf her HNK HNP
  obtain ⟨nl, hnl⟩ : ∃ nl : Nat, nl = P2.length := ⟨_, rfl⟩
  rw [← hnl] at HAD HRA HSA
  obtain ⟨nv, hnv⟩ : ∃ nv : Nat, nv = liveP P := ⟨_, rfl⟩
  rw [← hnv] at HL1 HL2
  clear hnl hnv
  have hlive : ((nv : Int) != (nv : Int)) = false := by simp
  have hh0 := cell_all (HXH.out.c0 0 _ rfl)
  have hh1 := cell_all (HXH.out.c0 1 _ rfl)
  have HLW : Hid (Below wn.heap.size wn wn) := Lib.hid (Below.refl _ _)
  have m0 := cell_all (HXN.out.c0 0 _ rfl)
  have m1 := cell_all (HXN.out.c0 1 _ rfl)
  have m2 := cell_all (HXN.out.c0 2 _ rfl)
  have m3 := cell_all (HXN.out.c0 3 _ rfl)
  have m4 := cell_all (HXN.out.c0 4 _ rfl)
  go_upto_region 4 with fail
  rw [← HWN.out]
  go_region_held3 (fun wx => Below wn.heap.size wn wx)
    (repeat (first | with_reducible assumption | with_reducible exact HLW.out | with_reducible refine Below.drew ?_))
    (first
      | (go_at_call 15; (with_reducible refine (HAD.out _ (by repeat (first | with_reducible assumption | with_reducible exact HLW.out | with_reducible refine Below.drew ?_ | with_reducible refine keepP ?_ _))).mono ?_); rintro e1 y1 ⟨ga, gc, rfl, hs1, hS1⟩)
      | (go_at_call 16; (with_reducible refine (HRA.out _ (by repeat (first | with_reducible assumption | with_reducible exact HLW.out | with_reducible refine Below.drew ?_ | with_reducible refine keepP ?_ _)) _ (by first | with_reducible exact hs1 | with_reducible exact hs1.below (below_drewN _ 1))).mono ?_); rintro e2 y2 ⟨gb, gd, rfl, hs2, hS2, hs3⟩)
      | (go_at_call 14; (with_reducible refine (HSA.out _ (by repeat (first | with_reducible assumption | with_reducible exact HLW.out | with_reducible refine Below.drew ?_ | with_reducible refine keepP ?_ _)) _ _ _ _ (by first | with_reducible exact hs3 | with_reducible exact hs3.below (below_drewN _ 1)) (by first | with_reducible exact hs2 | with_reducible exact hs2.below (below_drewN _ 1))).mono ?_); rintro e3 y3 ⟨rfl, hS3⟩)
      | (go_at_call 17; (with_reducible refine (HL1.out _ (by repeat (first | with_reducible assumption | with_reducible exact HLW.out | with_reducible refine Below.drew ?_ | with_reducible refine keepP ?_ _))).mono ?_); rintro e4 y4 ⟨rfl, hS4⟩)
      | (go_at_call 18; (with_reducible refine (HL2.out _ (by repeat (first | with_reducible assumption | with_reducible exact HLW.out | with_reducible refine Below.drew ?_ | with_reducible refine keepP ?_ _))).mono ?_); rintro e5 y5 ⟨rfl, hS5⟩)
      | fail "no arm")
  have HW5 := Lib.hid hS5
  have HXN5 : Hid (Below w2.heap.size w2 w2) := Lib.hid (Below.refl _ _)
  clear hS1 hs1 hS2 hs2 hs3 hS3 hS4 hS5 m0 m1 m2 m3 m4 HAD HRA HSA HL1 HL2 HLW hlive HXN5
  obtain ⟨w5, hw5⟩ : ∃ w5, w5 = y5 := ⟨_, rfl⟩
  subst hw5
  have HB5 : Hid (Below wn.heap.size wn w5) := HW5
  clear HW5
  go_wp2_with fail
  go_loopw [10] (fun i wr => ∃ z : Int, -1 ≤ z ∧ z ≤ (P.length : Int) + 1 ∧ i = .int .i64 z ∧ Hid (Below w5.heap.size w5 wr)) (fun i _ => ((P.length : Int) + 1 - intOf i).toNat)
  case atStart => exact ⟨-1, by omega, by omega, rfl, Lib.hid (Below.refl _ _)⟩
  case round =>
    obtain ⟨z, hz1, hz2, rfl, HB⟩ := hrel
    have HBn : Hid (Below wn.heap.size wn wr) := Lib.hid (HB5.out.trans (HB.out.mono HB5.out.size))
    have h00 := hh0 _ HBn.out
    by_cases hle : z ≤ (P.length : Int)
    · go_upto_if 61 with fail
      go_cut [11] (fun s11 wx => ∃ k : Int, s11 = .int .i64 k ∧ Hid (wx = wr))
      case first =>
        by_cases hneg : z < 0
        · have hyw : IntKind.i64.wrap yb = yb := IntWalk.i64_in _ (by omega)
          go_wp2_with fail
          go_meet
          exact ⟨yb, rfl, Lib.hid rfl⟩
        · have hneg2 : (0 : Int) ≤ z := by omega
          go_wp2_with fail
          go_meet
          exact ⟨z, rfl, Lib.hid rfl⟩
      case rest =>
        obtain ⟨k, rfl, HEQ⟩ := hcut
        obtain rfl := HEQ.out
        clear HEQ
        obtain ⟨nd, hnd⟩ : ∃ nd, nd = (getP P k).1 := ⟨_, rfl⟩
        obtain ⟨er, her⟩ : ∃ er, er = (getP P k).2 := ⟨_, rfl⟩
        obtain ⟨Qh, hQh⟩ : ∃ Qh, Qh = (holdP P k).1 := ⟨_, rfl⟩
        obtain ⟨eh, heh⟩ : ∃ eh, eh = (holdP P k).2 := ⟨_, rfl⟩
        have HNB : Hid (Bare nd) := Lib.hid (by rw [hnd]; exact get_bare HGD.out k)
        have HQB : Hid (∀ i, Bare (atP Qh i).node) := Lib.hid (by rw [hQh]; exact (hold_bare HGD.out k).1)
        have hql : Qh.length = P.length := by rw [hQh]; exact (hold_bare HGD.out k).2
        have HQL := Lib.hid hql
        have HG1 : Hid (∀ wx, Below wn.heap.size wn wx → Calls Try.prog 19 #[poolV (.slice a0 P.length c0), .int .i64 k] wx fun e w' => ∃ nv, e = .returned (.tuple #[nv, .int .i64 er]) ∧ IsNode w' nv nd ∧ Below wx.heap.size wx w') := Lib.hid (fun wx hx => by rw [hnd, her]; exact get_w _ P k wx (HSP.out.below hx))
        have HG2 : Hid (∀ wx, Below wn.heap.size wn wx → Calls Try.prog 20 #[poolV (.slice a0 P.length c0), .int .i64 k] wx fun e w' => ∃ nv, e = .returned (.tuple #[nv, .int .i64 er]) ∧ IsNode w' nv nd ∧ Below wx.heap.size wx w') := Lib.hid (fun wx hx => by rw [hnd, her]; exact rget_w _ P k wx (HSP.out.below hx))
        have HH1 : Hid (∀ wx, Below wn.heap.size wn wx → Calls Try.prog 21 #[poolV (.slice a0 P.length c0), .int .i64 k] wx fun e w' => ∃ a c, e = .returned (.tuple #[poolV (.slice a P.length c), .int .i64 eh]) ∧ IsSlots w' (.slice a P.length c) Qh ∧ Below wx.heap.size wx w') := Lib.hid (fun wx hx => (hold_w _ P k wx wx (HSP.out.below hx).slF (Below.refl _ _) (by omega) (fun _ => by have := HGD.out.refs k.toNat; omega)).mono fun e w' h => by
          obtain ⟨v', h1, h2⟩ := h
          have h3 := h2.sl.slots h2.bel
          obtain ⟨a, c, rfl, -⟩ := h3.slice
          rw [← hQh] at h1 h3
          rw [hql] at h1 h3
          rw [← heh] at h1
          exact ⟨a, c, h1, h3, h2.bel⟩)
        have HH2 : Hid (∀ wx, Below wn.heap.size wn wx → Calls Try.prog 22 #[poolV (.slice a0 P.length c0), .int .i64 k] wx fun e w' => ∃ a c, e = .returned (.tuple #[poolV (.slice a P.length c), .int .i64 eh]) ∧ IsSlots w' (.slice a P.length c) Qh ∧ Below wx.heap.size wx w') := Lib.hid (fun wx hx => (rhold_w _ P k wx wx (HSP.out.below hx).slF (Below.refl _ _) (by omega) (fun _ => by have := HGD.out.refs k.toNat; omega)).mono fun e w' h => by
          obtain ⟨v', h1, h2⟩ := h
          have h3 := h2.sl.slots h2.bel
          obtain ⟨a, c, rfl, -⟩ := h3.slice
          rw [← hQh] at h1 h3
          rw [hql] at h1 h3
          rw [← heh] at h1
          exact ⟨a, c, h1, h3, h2.bel⟩)
        clear hnd her hQh heh hql h00
        obtain ⟨wo, hwo⟩ : ∃ wo, wo = wc := ⟨_, rfl⟩
        subst hwo
        have h00 := hh0 _ HBn.out
        -- Get
        go_wp2_with fail
        refine (HG1.out _ HBn.out).mono ?_
        rintro e wa ⟨va, rfl, hna, hba⟩
        obtain ⟨x0, x1, x2, x3, x4, x5, x6, x7, x8, x9, x10, x11, x12, x13, x14, rfl⟩ := fifteen hna
        obtain ⟨wA, hwA⟩ : ∃ wA, wA = wa.alloc (.cells #[.slice x0 x1 x2, .slice x3 x4 x5, .slice x6 x7 x8, .slice x9 x10 x11, .slice x12 x13 x14] 39) := ⟨_, rfl⟩
        have HWA := Lib.hid hwA
        have HXA : Hid (Blk wA wa.heap.size 39 #[.slice x0 x1 x2, .slice x3 x4 x5, .slice x6 x7 x8, .slice x9 x10 x11, .slice x12 x13 x14]) := Lib.hid (by rw [hwA]; exact Blk.new _ _ _)
        have HBA : Hid (Below wo.heap.size wo wA) := Lib.hid (by rw [hwA]; exact keepP hba _)
        have HNA := Lib.hid (hna.below (w' := wA) (by rw [hwA]; exact below_box _))
        have HBnA : Hid (Below wn.heap.size wn wA) := Lib.hid (HBn.out.trans (HBA.out.mono HBn.out.size))
        have h0A := hh0 wA HBnA.out
        rw [hwA] at h0A
        clear hwA hna hba h00
        go_wp2_with fail
        rw [← HWA.out]
        clear h0A
        -- the reference's Get
        refine (HG2.out _ HBnA.out).mono ?_
        rintro e wb ⟨vb, rfl, hnb, hbb⟩
        obtain ⟨s0, s1, s2, s3, s4, s5, s6, s7, s8, s9, s10, s11, s12, s13, s14, rfl⟩ := fifteen hnb
        obtain ⟨wB, hwB⟩ : ∃ wB, wB = wb.alloc (.cells #[.slice s0 s1 s2, .slice s3 s4 s5, .slice s6 s7 s8, .slice s9 s10 s11, .slice s12 s13 s14] 39) := ⟨_, rfl⟩
        have HWB := Lib.hid hwB
        have HXB : Hid (Blk wB wb.heap.size 39 #[.slice s0 s1 s2, .slice s3 s4 s5, .slice s6 s7 s8, .slice s9 s10 s11, .slice s12 s13 s14]) := Lib.hid (by rw [hwB]; exact Blk.new _ _ _)
        have HBB : Hid (Below wA.heap.size wA wB) := Lib.hid (by rw [hwB]; exact keepP hbb _)
        have HNB2 := Lib.hid (hnb.below (w' := wB) (by rw [hwB]; exact below_box _))
        have HBnB : Hid (Below wn.heap.size wn wB) := Lib.hid (HBnA.out.trans (HBB.out.mono HBnA.out.size))
        have h0B := hh0 wB HBnB.out
        rw [hwB] at h0B
        clear hwB hnb hbb
        go_wp2_with fail
        rw [← HWB.out]
        clear h0B
        -- Hold
        refine (HH1.out _ HBnB.out).mono ?_
        rintro e wd ⟨ac, cc, rfl, hsc, hbc⟩
        obtain ⟨wD, hwD⟩ : ∃ wD, wD = wd.alloc (.cells #[.slice ac P.length cc] 29) := ⟨_, rfl⟩
        have HWD := Lib.hid hwD
        have HXD : Hid (Blk wD wd.heap.size 29 #[.slice ac P.length cc]) := Lib.hid (by rw [hwD]; exact Blk.new _ _ _)
        have HBD : Hid (Below wB.heap.size wB wD) := Lib.hid (by rw [hwD]; exact keepP hbc _)
        have HSD := Lib.hid (hsc.below (w' := wD) (by rw [hwD]; exact below_box _))
        have HBnD : Hid (Below wn.heap.size wn wD) := Lib.hid (HBnB.out.trans (HBD.out.mono HBnB.out.size))
        have h0D := hh0 wD HBnD.out
        rw [hwD] at h0D
        clear hwD hsc hbc
        go_wp2_with fail
        rw [← HWD.out]
        clear h0D
        -- the reference's Hold
        refine (HH2.out _ HBnD.out).mono ?_
        rintro e we ⟨ad, cd, rfl, hsd, hbd⟩
        obtain ⟨wE, hwE⟩ : ∃ wE, wE = we.alloc (.cells #[.slice ad P.length cd] 29) := ⟨_, rfl⟩
        have HWE := Lib.hid hwE
        have HXE : Hid (Blk wE we.heap.size 29 #[.slice ad P.length cd]) := Lib.hid (by rw [hwE]; exact Blk.new _ _ _)
        have HBE : Hid (Below wD.heap.size wD wE) := Lib.hid (by rw [hwE]; exact keepP hbd _)
        have HSE := Lib.hid (hsd.below (w' := wE) (by rw [hwE]; exact below_box _))
        have HBnE : Hid (Below wn.heap.size wn wE) := Lib.hid (HBnD.out.trans (HBE.out.mono HBnD.out.size))
        clear hwE hsd hbd HG1 HG2 HH1 HH2
        go_upto_region 16 with fail
        rw [← HWE.out]
        have HBDE := Lib.hid (HBE.out)
        have HBBE : Hid (Below wB.heap.size wB wE) := Lib.hid (HBD.out.trans (HBE.out.mono HBD.out.size))
        have HBAE : Hid (Below wA.heap.size wA wE) := Lib.hid (HBB.out.trans (HBBE.out.mono HBB.out.size))
        have HBoE : Hid (Below wo.heap.size wo wE) := Lib.hid (HBA.out.trans (HBAE.out.mono HBA.out.size))
        replace HNA := Lib.hid (HNA.out.below HBAE.out)
        replace HNB2 := Lib.hid (HNB2.out.below HBBE.out)
        replace HSD := Lib.hid (HSD.out.below HBE.out)
        have p0 := cell_all ((HXA.out.below HBAE.out HXA.out.lt).c0 0 _ rfl)
        have p1 := cell_all ((HXA.out.below HBAE.out HXA.out.lt).c0 1 _ rfl)
        have p2 := cell_all ((HXA.out.below HBAE.out HXA.out.lt).c0 2 _ rfl)
        have p3 := cell_all ((HXA.out.below HBAE.out HXA.out.lt).c0 3 _ rfl)
        have p4 := cell_all ((HXA.out.below HBAE.out HXA.out.lt).c0 4 _ rfl)
        have q0 := cell_all ((HXB.out.below HBBE.out HXB.out.lt).c0 0 _ rfl)
        have q1 := cell_all ((HXB.out.below HBBE.out HXB.out.lt).c0 1 _ rfl)
        have q2 := cell_all ((HXB.out.below HBBE.out HXB.out.lt).c0 2 _ rfl)
        have q3 := cell_all ((HXB.out.below HBBE.out HXB.out.lt).c0 3 _ rfl)
        have q4 := cell_all ((HXB.out.below HBBE.out HXB.out.lt).c0 4 _ rfl)
        have t0 := cell_all ((HXD.out.below HBE.out HXD.out.lt).c0 0 _ rfl)
        have t1 := cell_all (HXE.out.c0 0 _ rfl)
        have tH := fun wx (hx : Below wE.heap.size wE wx) => hh0 wx (HBnE.out.trans (hx.mono HBnE.out.size))
        have hee : (er != er) = false := by simp
        have hff : (eh != eh) = false := by simp
        have HSN := Lib.hid (fun wx (hx : Below wE.heap.size wE wx) => (samenode_w _ _ nd wx (HNA.out.below hx) (HNB2.out.below hx) HNB.out).mono fun e w' (h : _ ∧ _) => (⟨h.1, hx.trans (h.2.mono hx.size)⟩ : e = .returned (.bool true) ∧ Below wE.heap.size wE w'))
        have HSM := Lib.hid (fun wx (hx : Below wE.heap.size wE wx) => (same_w _ _ Qh wx (HSD.out.below hx) (HSE.out.below hx) HQB.out).mono fun e w' (h : _ ∧ _) => (⟨h.1, hx.trans (h.2.mono hx.size)⟩ : e = .returned (.bool true) ∧ Below wE.heap.size wE w'))
        obtain ⟨nr, hnr⟩ : ∃ nr, nr = (reachP P [k, z]).length := ⟨_, rfl⟩
        have HR1 : Hid (∀ wx, Below wE.heap.size wE wx → ∀ u, IsInts wx u [k, z] → Calls Try.prog 26 #[poolV (.slice a0 P.length c0), u] wx fun e w' => ∃ a c, e = .returned (.slice a nr c) ∧ IsInts w' (.slice a nr c) (reachP P [k, z]) ∧ Below wE.heap.size wE w' ∧ Below wx.heap.size wx w') := Lib.hid (fun wx hx u hu => (g_reach (by omega) hnr (HSP.out.below (HBnE.out.trans (hx.mono HBnE.out.size))) hu).mono fun e w' h => by
          obtain ⟨a, c, h1, h2, h3⟩ := h
          exact ⟨a, c, h1, h2, hx.trans (h3.mono hx.size), h3⟩)
        have HR2 : Hid (∀ wx, Below wE.heap.size wE wx → ∀ u, IsInts wx u [k, z] → ∀ v, IsInts wx v (reachP P [k, z]) → Calls Try.prog 27 #[poolV (.slice a0 P.length c0), u] wx fun e w' => ∃ a c, e = .returned (.slice a nr c) ∧ IsInts w' (.slice a nr c) (reachP P [k, z]) ∧ Below wE.heap.size wE w' ∧ IsInts w' v (reachP P [k, z])) := Lib.hid (fun wx hx u hu v hv => (rreach_w _ u P [k, z] wx (HSP.out.below (HBnE.out.trans (hx.mono HBnE.out.size))) hu (by omega) (by unfold fuelR; have := good_kidsA HGD.out; have h9 : P.length * (kidsA P).length ≤ 16 * 48 := Nat.mul_le_mul hpn this; simp only [List.length_cons, List.length_nil]; omega)).mono fun e w' h => by
          obtain ⟨v', h1, h2, h3⟩ := h
          obtain ⟨a, c, rfl⟩ := own_sl h2
          subst hnr
          exact ⟨a, c, h1, IsInts.owned h2, hx.trans (h3.mono hx.size), hv.below h3⟩)
        have HIN : Hid (∀ wx, Below wE.heap.size wE wx → ∀ u v, IsInts wx u (reachP P [k, z]) → IsInts wx v (reachP P [k, z]) → Calls Try.prog 25 #[u, v] wx fun e w' => e = .returned (.bool true) ∧ Below wE.heap.size wE w') := Lib.hid (fun wx hx u v h1 h2 => (ints_w u v _ wx h1 h2).mono fun e w' h => ⟨h.1, hx.trans (h.2.mono hx.size)⟩)
        have A0 : Hid (∀ wx : World, IsInts (wx.alloc (.cells #[.int .i64 k, .int .i64 z] 3)) (.slice (some ⟨wx.heap.size, 0, none⟩) 2 2) [k, z]) := Lib.hid (fun wx => isInts_lit [k, z] rfl (by simp) (by simp))
        have A1 : Hid (∀ wx : World, IsInts (wx.alloc (.cells #[.int .i64 k, .int .i64 z] 3)).drew (.slice (some ⟨wx.heap.size, 0, none⟩) 2 2) [k, z]) := Lib.hid (fun wx => (A0.out wx).below (below_drewN _ 1))
        have B0 : Hid (∀ wx : World, IsInts ((wx.alloc (.cells #[.int .i64 k, .int .i64 z] 3)).alloc (.cells #[.int .i64 k, .int .i64 z] 3)) (.slice (some ⟨wx.heap.size, 0, none⟩) 2 2) [k, z]) := Lib.hid (fun wx => (A0.out wx).below (below_box _))
        have B1 : Hid (∀ wx : World, IsInts ((wx.alloc (.cells #[.int .i64 k, .int .i64 z] 3)).alloc (.cells #[.int .i64 k, .int .i64 z] 3)) (.slice (some ⟨wx.heap.size + 1, 0, none⟩) 2 2) [k, z]) := Lib.hid (fun wx => isInts_lit (w := wx.alloc (.cells #[.int .i64 k, .int .i64 z] 3)) [k, z] (by simp) (by simp) (by simp))
        have B2 : Hid (∀ wx : World, IsInts ((wx.alloc (.cells #[.int .i64 k, .int .i64 z] 3)).alloc (.cells #[.int .i64 k, .int .i64 z] 3)).drew (.slice (some ⟨wx.heap.size, 0, none⟩) 2 2) [k, z]) := Lib.hid (fun wx => (B0.out wx).below (below_drewN _ 1))
        have B3 : Hid (∀ wx : World, IsInts ((wx.alloc (.cells #[.int .i64 k, .int .i64 z] 3)).alloc (.cells #[.int .i64 k, .int .i64 z] 3)).drew (.slice (some ⟨wx.heap.size + 1, 0, none⟩) 2 2) [k, z]) := Lib.hid (fun wx => (B1.out wx).below (below_drewN _ 1))
        clear hnr
        have HLW : Hid (Below wE.heap.size wE wE) := Lib.hid (Below.refl _ _)
        go_region_held3 (fun wx => Below wE.heap.size wE wx)
          (repeat (first | with_reducible assumption | with_reducible exact HLW.out | with_reducible refine Below.drew ?_ | with_reducible refine keepP ?_ _))
          (first
            | (go_at_call 23; (with_reducible refine (HSN.out _ (by repeat (first | with_reducible assumption | with_reducible exact HLW.out | with_reducible refine Below.drew ?_ | with_reducible refine keepP ?_ _))).mono ?_); rintro e1 k1 ⟨rfl, hS1⟩)
            | (go_at_call 24; (with_reducible refine (HSM.out _ (by repeat (first | with_reducible assumption | with_reducible exact HLW.out | with_reducible refine Below.drew ?_ | with_reducible refine keepP ?_ _))).mono ?_); rintro e2 k2 ⟨rfl, hS2⟩)
            | (go_at_call 26; (with_reducible refine (HR1.out _ (by repeat (first | with_reducible assumption | with_reducible exact HLW.out | with_reducible refine Below.drew ?_ | with_reducible refine keepP ?_ _)) _ (by first | with_reducible exact A0.out _ | with_reducible exact A1.out _ | with_reducible exact B0.out _ | with_reducible exact B1.out _ | with_reducible exact B2.out _ | with_reducible exact B3.out _)).mono ?_); rintro e3 k3 ⟨a3, c3, rfl, hi3, hS3, hT3⟩; (first | (have hlA := (B2.out k2).below hT3; have hlB := (B3.out k2).below hT3) | (have hlA := (B0.out k2).below hT3; have hlB := (B1.out k2).below hT3) | skip))
            | (go_at_call 27; (first | (with_reducible refine (HR2.out _ (by repeat (first | with_reducible assumption | with_reducible exact HLW.out | with_reducible refine Below.drew ?_ | with_reducible refine keepP ?_ _)) _ (by first | with_reducible exact hlA | with_reducible exact hlB) _ (by first | with_reducible exact hi3)).mono ?_) | (first | (with_reducible refine (HR2.out _ (by repeat (first | with_reducible assumption | with_reducible exact HLW.out | with_reducible refine Below.drew ?_ | with_reducible refine keepP ?_ _)) _ (A0.out k3) _ (hi3.below (below_box _))).mono ?_) | (with_reducible refine (HR2.out _ (by repeat (first | with_reducible assumption | with_reducible exact HLW.out | with_reducible refine Below.drew ?_ | with_reducible refine keepP ?_ _)) _ (A1.out k3) _ ((hi3.below (below_box _)).below (below_drewN _ 1))).mono ?_))); rintro e4 k4 ⟨a5, c5, rfl, hi5, hS5, hi6⟩)
            | (go_at_call 25; (with_reducible refine (HIN.out _ (by repeat (first | with_reducible assumption | with_reducible exact HLW.out | with_reducible refine Below.drew ?_ | with_reducible refine keepP ?_ _)) _ _ (by first | with_reducible exact hi6 | with_reducible exact hi6.below (below_drewN _ 1)) (by first | with_reducible exact hi5 | with_reducible exact hi5.below (below_drewN _ 1))).mono ?_); rintro e5 k5 ⟨rfl, hS6⟩)
            | fail "no arm")
        all_goals
          have HFIN : Hid (Below w5.heap.size w5 k5) := Lib.hid (HB.out.trans ((HBoE.out.trans (hS6.mono HBoE.out.size)).mono HB.out.size))
          have hzw : IntKind.i64.wrap (z + 1) = z + 1 := IntWalk.i64_in _ (by omega)
          clear hS1 hS2 hS3 hT3 hi3 hS5 hi5 hi6 hS6 p0 p1 p2 p3 p4 q0 q1 q2 q3 q4 t0 t1 tH
          go_wp2
          go_roundw
          case rel => exact ⟨z + 1, by omega, by omega, by go_num, HFIN⟩
          case measure => simp [intOf]; omega
    · have hgt : (P.length : Int) < z := by omega
      obtain ⟨wo, hwo⟩ : ∃ wo, wo = wr := ⟨_, rfl⟩
      subst hwo
      go_wp2_with fail
      clear h00
      go_loopw [20] (fun i wr => ∃ j : Nat, j ≤ R.length ∧ i = .int .i64 j ∧ Hid (Below wo.heap.size wo wr)) (fun i _ => R.length - (intOf i).toNat)
      case atStart => exact ⟨0, Nat.zero_le _, rfl, Lib.hid (Below.refl _ _)⟩
      case round =>
        obtain ⟨j, hj, rfl, HBL⟩ := hrel
        have HBnn := HBn
        have HBn : Hid (Below wn.heap.size wn wr) := Lib.hid (HBnn.out.trans (HBL.out.mono HBnn.out.size))
        have h11 := hh1 _ HBn.out
        by_cases hjl : j < R.length
        · have hjz : (j : Int) < (R.length : Int) := by omega
          obtain ⟨b7, off7, cap7, he, hbl7, hlz7, zj⟩ := at_int (HIR.out.below HBn.out) j hjl
          injection he with he1 he2 he3
          subst he1 he3
          clear he2
          rw [← getD_at' hjl] at zj
          obtain ⟨Qd, hQd⟩ : ∃ Qd, Qd = (rdropP P (R.getD j 0)).1 := ⟨_, rfl⟩
          have hp := roots_perm hjl
          have hu : usedB P (R.getD j 0) = true := HGD.out.fair.all _ (List.mem_append_left _ (hp.mem_iff.2 (by simp)))
          have hdr : DR P [R.getD j 0] Qd := by rw [hQd]; unfold rdropP; rw [if_pos hu]; exact runQ_dr _ _ _ (Nat.le_refl _)
          have hql : Qd.length = P.length := hdr.less.1.symm
          have HQB : Hid (∀ i, Bare (atP Qd i).node) := Lib.hid (good_dr HGD.out hdr hp).bare
          have HD1 : Hid (∀ wx, Below wn.heap.size wn wx → Calls Try.prog 28 #[poolV (.slice a0 P.length c0), .int .i64 (R.getD j 0)] wx fun e w' => ∃ a c, e = .returned (.tuple #[poolV (.slice a P.length c), .int .i64 0]) ∧ IsSlots w' (.slice a P.length c) Qd ∧ Below wx.heap.size wx w') := Lib.hid (fun wx hx => (k_drop HGD.out hjl (by omega) (HSP.out.below hx)).mono fun e w' h => by
            rw [← hQd] at h
            obtain ⟨a, c, h1, h2, h3⟩ := h
            rw [hql] at h1 h2
            exact ⟨a, c, h1, h2, h3⟩)
          have HD2 : Hid (∀ wx, Below wn.heap.size wn wx → Calls Try.prog 29 #[poolV (.slice a0 P.length c0), .int .i64 (R.getD j 0)] wx fun e w' => ∃ a c, e = .returned (.tuple #[poolV (.slice a P.length c), .int .i64 0]) ∧ IsSlots w' (.slice a P.length c) Qd ∧ Below wx.heap.size wx w') := Lib.hid (fun wx hx => (rdrop_w _ P (R.getD j 0) wx wx (HSP.out.below hx).slF (Below.refl _ _) (by omega) (by have := HGD.out.mu [R.getD j 0]; simp only [List.length_cons, List.length_nil] at this; omega) (fun i => by have := HGD.out.refs i; omega)).mono fun e w' h => by
            obtain ⟨v', h1, h2⟩ := h
            have h3 := h2.sl.slots h2.bel
            have e2 : (rdropP P (R.getD j 0)).2 = 0 := by unfold rdropP; rw [if_pos hu]
            obtain ⟨a, c, rfl, -⟩ := h3.slice
            rw [← hQd] at h1 h3
            rw [e2] at h1
            rw [hql] at h1 h3
            exact ⟨a, c, h1, h3, h2.bel⟩)
          clear hQd hp hu hdr hql
          generalize R.getD j 0 = id at *
          go_upto_region 21 with fail
          go_cut [21, 22] (fun s21 s22 wx => Hid (DropE wr P.length Qd s22 s21 wx))
          case first =>
            have HLW : Hid (Below wr.heap.size wr wr) := Lib.hid (Below.refl _ _)
            have HDR := Lib.hid (fun wx (hx : Below wr.heap.size wr wx) => (HD1.out wx (HBn.out.trans (hx.mono HBn.out.size))).mono fun e w' (h : ∃ a c, _ ∧ _ ∧ _) => (by
              obtain ⟨a, c, h1, h2, h3⟩ := h
              exact ⟨a, c, h1, h2, hx.trans (h3.mono hx.size), h3⟩ : ∃ a c, e = .returned (.tuple #[poolV (.slice a P.length c), .int .i64 0]) ∧ IsSlots w' (.slice a P.length c) Qd ∧ Below wr.heap.size wr w' ∧ Below wx.heap.size wx w'))
            have tA := fun wx (hx : Below wr.heap.size wr wx) => hh0 wx (HBn.out.trans (hx.mono HBn.out.size))
            have tB := fun wx (hx : Below wr.heap.size wr wx) => hh1 wx (HBn.out.trans (hx.mono HBn.out.size))
            have zj := cell_all zj
            go_region_held3 (fun wx => Below wr.heap.size wr wx)
              (repeat (first | with_reducible assumption | with_reducible exact HLW.out | with_reducible refine Below.drew ?_ | with_reducible refine keepP ?_ _ | with_reducible refine keepQ ?_ _ (Nat.le_refl _) _))
              (first
                | (go_at_call 28; (with_reducible refine (HDR.out _ (by repeat (first | with_reducible assumption | with_reducible exact HLW.out | with_reducible refine Below.drew ?_ | with_reducible refine keepP ?_ _))).mono ?_); rintro e2 k2 ⟨a3, c3, rfl, hs3, hS3, hT3⟩; (first | (have hz := blk_made hT3; have q0 := hz.c0 0 _ rfl; have f0 := hz.free 0) | (have hz := blk_madeP hT3; have q0 := hz.c0 0 _ rfl; have f0 := hz.free 0) | skip))
                | fail "no arm")
            all_goals (go_wp2_with fail; go_meet)
            all_goals
              first
              | with_reducible exact Lib.hid (DropE.fresh hs3 hS3)
              | with_reducible exact Lib.hid (DropE.stored hz hs3 HQB.out hS3 (Nat.le_refl _))
          case rest =>
            obtain ⟨b21, g1, k1, rfl, rfl, hle21, hX21, hS21, hB21⟩ := hcut.out
            have HX21 := Lib.hid hX21
            have HS21 := Lib.hid hS21
            have HB21 := Lib.hid hB21
            clear hcut hX21 hS21 hB21
            obtain ⟨wp, hwp⟩ : ∃ wp, wp = wc := ⟨_, rfl⟩
            subst hwp
            have HBnp : Hid (Below wn.heap.size wn wp) := Lib.hid (HBn.out.trans (HB21.out.mono HBn.out.size))
            go_upto_region 22 with fail
            go_cut [23, 24] (fun s21 s22 wx => Hid (DropE wp P.length Qd s22 s21 wx))
            case first =>
              have HLW : Hid (Below wp.heap.size wp wp) := Lib.hid (Below.refl _ _)
              have HDR := Lib.hid (fun wx (hx : Below wp.heap.size wp wx) => (HD2.out wx (HBnp.out.trans (hx.mono HBnp.out.size))).mono fun e w' (h : ∃ a c, _ ∧ _ ∧ _) => (by
                obtain ⟨a, c, h1, h2, h3⟩ := h
                exact ⟨a, c, h1, h2, hx.trans (h3.mono hx.size), h3⟩ : ∃ a c, e = .returned (.tuple #[poolV (.slice a P.length c), .int .i64 0]) ∧ IsSlots w' (.slice a P.length c) Qd ∧ Below wp.heap.size wp w' ∧ Below wx.heap.size wx w'))
              have tA := fun wx (hx : Below wp.heap.size wp wx) => hh0 wx (HBnp.out.trans (hx.mono HBnp.out.size))
              have tB := fun wx (hx : Below wp.heap.size wp wx) => hh1 wx (HBnp.out.trans (hx.mono HBnp.out.size))
              have zj := cell_all (HB21.out.cell (p := ⟨b7, off7 + j, none⟩) (by exact hbl7) |>.trans zj)
              go_region_held3 (fun wx => Below wp.heap.size wp wx)
                (repeat (first | with_reducible assumption | with_reducible exact HLW.out | with_reducible refine Below.drew ?_ | with_reducible refine keepP ?_ _ | with_reducible refine keepQ ?_ _ (Nat.le_refl _) _))
                (first
                  | (go_at_call 29; (with_reducible refine (HDR.out _ (by repeat (first | with_reducible assumption | with_reducible exact HLW.out | with_reducible refine Below.drew ?_ | with_reducible refine keepP ?_ _))).mono ?_); rintro e2 k2 ⟨a3, c3, rfl, hs3, hS3, hT3⟩; (first | (have hz := blk_made hT3; have q0 := hz.c0 0 _ rfl; have f0 := hz.free 0) | (have hz := blk_madeP hT3; have q0 := hz.c0 0 _ rfl; have f0 := hz.free 0) | skip))
                  | fail "no arm")
              all_goals (go_wp2_with fail; go_meet)
              all_goals
                first
                | with_reducible exact Lib.hid (DropE.fresh hs3 hS3)
                | with_reducible exact Lib.hid (DropE.stored hz hs3 HQB.out hS3 (Nat.le_refl _))
            case rest =>
              obtain ⟨b23, g3, k3, rfl, rfl, hle23, hX23, hS23, hB23⟩ := hcut.out
              have HB23 := Lib.hid hB23
              have q0 := (HX21.out.below hB23 HX21.out.lt).c0 0 _ rfl
              have q1 := hX23.c0 0 _ rfl
              have hql : Qd.length = P.length := by obtain ⟨_, _, e, -⟩ := HS21.out.slice; injection e with _ e2 _; exact e2.symm
              have HSM := Lib.hid (same_w _ _ Qd _ (HS21.out.below hB23) hS23 HQB.out)
              clear hcut hX23 hS23 hB23 hql zj h11
              go_wp2_with fail
              refine HSM.out.mono ?_
              rintro e w20 ⟨rfl, hb20⟩
              have HB20 : Hid (Below wo.heap.size wo w20) := Lib.hid (HBL.out.trans ((HB21.out.trans ((HB23.out.trans (hb20.mono HB23.out.size)).mono HB21.out.size)).mono HBL.out.size))
              clear hb20 HSM q0 q1
              go_wp2
              go_roundw
              case rel => exact ⟨j + 1, by omega, by go_num, HB20⟩
              case measure => simp [intOf]; omega
        · obtain rfl : j = R.length := by omega
          go_wp2
          go_ret
          exact ⟨rfl, HG.out.trans (HBn.out.mono HG.out.size)⟩

end Go.Proofs.Ytlgangcldlphnaa
