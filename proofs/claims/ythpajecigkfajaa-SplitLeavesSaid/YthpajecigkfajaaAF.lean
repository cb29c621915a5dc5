/-
  Walks: the law's leaf, sameTexts, same; reference 13's Shape.
-/
import Derived.Test.YthpajecigkfajaaAE
namespace Go.Proofs.Ythpajecigkfajaa
open Go.RowKit Go.Sort
set_option linter.unusedVariables false
set_option maxRecDepth 100000

theorem cell_lt13 {w : World} {b o : Nat} {v : Value} (h : w.cell? ⟨b, o, none⟩ = some v) : b < w.heap.size := by
  unfold World.cell? at h
  rcases Nat.lt_or_ge b w.heap.size with h1 | h1
  · exact h1
  · rw [Array.getElem?_eq_none h1] at h; cases h
/-- A node in pieces. -/
def IsSplit (w : World) (v : Value) (L : List Nd) (P : List Bs) (U : List Ms) : Prop := ∃ a b c, v = .agg #[a, b, c] ∧ IsNodes w a L ∧ IsStrs w b P ∧ IsMsgs w c U
theorem IsSplit.below {w w' : World} {v : Value} {L : List Nd} {P : List Bs} {U : List Ms} (h : IsSplit w v L P U) (hb : Below w.heap.size w w') : IsSplit w' v L P U := by
  obtain ⟨a, b, c, rfl, h1, h2, h3⟩ := h
  exact ⟨a, b, c, rfl, h1.below hb, h2.below hb, h3.below hb⟩
theorem three_at {w : World} {b : Nat} {T : TypeId} {x0 x1 x2 : Value} (h : Blk w b T #[x0, x1, x2]) :
    w.cell? ⟨b, 0, none⟩ = some x0 ∧ w.cell? ⟨b, 1, none⟩ = some x1 ∧ w.cell? ⟨b, 2, none⟩ = some x2 ∧ w.frozen? ⟨b, 0, none⟩ = false ∧ w.frozen? ⟨b, 1, none⟩ = false ∧ w.frozen? ⟨b, 2, none⟩ = false :=
  ⟨h.c0 0 _ rfl, h.c0 1 _ rfl, h.c0 2 _ rfl, h.free 0, h.free 1, h.free 2⟩
@[reducible] def set3 (w : World) (b : Nat) (y0 y1 y2 : Value) : World := ((w.setCell ⟨b, 0, none⟩ y0).setCell ⟨b, 1, none⟩ y1).setCell ⟨b, 2, none⟩ y2
theorem blk_set3 {w : World} {b : Nat} {T : TypeId} {x0 x1 x2 : Value} (h : Blk w b T #[x0, x1, x2]) (y0 y1 y2 : Value) : Blk (set3 w b y0 y1 y2) b T #[y0, y1, y2] := ((h.setCell 0 y0).setCell 1 y1).setCell 2 y2
theorem below_set3 {B : Nat} {w wx : World} (h : Below B w wx) (b : Nat) (hb : B ≤ b) (y0 y1 y2 : Value) : Below B w (set3 wx b y0 y1 y2) := ((h.setCell hb y0).setCell hb y1).setCell hb y2

set_option maxHeartbeats 1000000 in
theorem shape_w (a b c : Nat) (w : World) (ha : a < 256) (hb : b < 256) (hc : c < 256) :
    Calls Try.prog 10 #[.agg #[.int .u8 a, .int .u8 b, .int .u8 c]] w fun e w' => e = .returned (.agg #[.int .i64 ((1 + a % 8 : Nat) : Int), .int .i64 ((1 + b % 5 : Nat) : Int), .int .i64 ((1 + c % 6 : Nat) : Int)]) ∧ Below w.heap.size w w' := by
  have hB : Blk ((w.alloc (.cells #[.int .u8 a, .int .u8 b, .int .u8 c] 30)).alloc (.cells #[.int .i64 (1 + (a : Int) % 8), .int .i64 (1 + (b : Int) % 5), .int .i64 (1 + (c : Int) % 6)] 32)) (w.heap.size + 1) 32 #[.int .i64 (1 + (a : Int) % 8), .int .i64 (1 + (b : Int) % 5), .int .i64 (1 + (c : Int) % 6)] := Blk.new' _ _ _ (by simp)
  obtain ⟨d0, d1, d2, -⟩ := three_at hB
  go_enter Try.func10, Try.ntmps10
  go_wp2_with fail
  refine bodyPost_ret (v := .agg #[.int .i64 (1 + (a : Int) % 8), .int .i64 (1 + (b : Int) % 5), .int .i64 (1 + (c : Int) % 6)]) (by simp [results, Try.results10, go_sem, d0, d1, d2]) rfl ⟨?_, (((Grown.refl w).alloc _).alloc _).below (Nat.le_refl _)⟩
  rw [show ((1 + a % 8 : Nat) : Int) = 1 + (a : Int) % 8 by omega, show ((1 + b % 5 : Nat) : Int) = 1 + (b : Int) % 5 by omega, show ((1 + c % 6 : Nat) : Int) = 1 + (c : Int) % 6 by omega]

set_option maxHeartbeats 2000000 in
theorem leaf_w (nv : Value) (n : Nd) (m : Nat) (fa bu : Int) (w : World) (h : IsNode w nv n) (hl : n.pairs.length ≤ 1000000) (hm : m ≤ 1000000) (hm0 : 1 ≤ m) :
    Calls Try.prog 11 #[nv, .agg #[.int .i64 (m : Int), .int .i64 fa, .int .i64 bu]] w fun e w' => ∃ v', e = .returned v' ∧ IsSplit w' v' (leafN n.pairs m) (leafP n.pairs m) [] ∧ Below w.heap.size w w' := by
  have H := Lib.hid h
  obtain ⟨va, vb, vc, vd, ve, rfl, hP, hQ, hR, hS, hT⟩ := h
  obtain ⟨p0, c0, rfl, -⟩ := hP
  obtain ⟨p1, c1, rfl, -⟩ := hQ
  obtain ⟨p2, c2, rfl, -⟩ := hR
  obtain ⟨p3, c3, rfl, -⟩ := hS
  obtain ⟨p4, c4, rfl, -⟩ := hT
  obtain ⟨W0, hW0⟩ : ∃ W0, W0 = ((w.alloc (.cells #[.slice p0 n.pairs.length c0, .slice p1 n.pivots.length c1, .slice p2 n.kids.length c2, .slice p3 n.sums.length c3, .slice p4 n.buf.length c4] 43)).alloc (.cells #[.int .i64 (m : Int), .int .i64 fa, .int .i64 bu] 32)).alloc (.cells #[.slice none 0 0, .slice none 0 0, .slice none 0 0] 38) := ⟨_, rfl⟩
  have HX : Hid (Blk W0 w.heap.size 43 #[.slice p0 n.pairs.length c0, .slice p1 n.pivots.length c1, .slice p2 n.kids.length c2, .slice p3 n.sums.length c3, .slice p4 n.buf.length c4]) := Lib.hid (by rw [hW0]; exact ((Blk.new _ _ _).alloc _).alloc _)
  have HY : Hid (Blk W0 (w.heap.size + 1) 32 #[.int .i64 (m : Int), .int .i64 fa, .int .i64 bu]) := Lib.hid (by rw [hW0]; exact (Blk.new' _ _ _ (by simp)).alloc _)
  have HZ : Hid (Blk W0 (w.heap.size + 2) 38 #[.slice none 0 0, .slice none 0 0, .slice none 0 0]) := Lib.hid (by rw [hW0]; exact Blk.new' _ _ _ (by simp))
  have HG : Hid (Below w.heap.size w W0) := Lib.hid (by rw [hW0]; exact ((((Grown.refl w).alloc _).alloc _).alloc _).below (Nat.le_refl _))
  have HW0 := Lib.hid hW0
  clear hW0
  have HCALL := Lib.hid (leafS_w _ n m fa bu W0 (H.out.below HG.out) hl hm hm0)
  obtain ⟨x0, x1, x2, x3, x4, -⟩ := five_ok HX.out
  obtain ⟨y0, y1, y2, -⟩ := three_at HY.out
  go_enter Try.func11, Try.ntmps11
  go_wp2_with fail
  rw [← HW0.out]
  go_wp2_with fail
  refine HCALL.out.mono ?_
  rintro e w1 ⟨v1, v2, rfl, hn, hs, hb⟩
  have hZ1 := HZ.out.below hb HZ.out.lt
  obtain ⟨z0, z1, z2, f0, f1, f2⟩ := three_at hZ1
  obtain ⟨a5, c5, rfl, -⟩ := hn.nodes.form
  obtain ⟨a6, c6, rfl, -⟩ := id hs
  have HN := Lib.hid hn
  have HS := Lib.hid hs
  have HB : Hid (Below w.heap.size w w1) := Lib.hid (HG.out.trans (hb.mono HG.out.size))
  have HZ1 := Lib.hid hZ1
  clear hn hs hb hZ1
  go_wp2_with fail
  have hsz : w.heap.size + 2 < W0.heap.size := HZ.out.lt
  have hB := blk_set3 HZ1.out (.slice a5 (leafN n.pairs m).length c5) (.slice a6 (leafP n.pairs m).length c6) (.slice none 0 0)
  obtain ⟨d0, d1, d2, -⟩ := three_at hB
  refine bodyPost_ret (v := .agg #[.slice a5 (leafN n.pairs m).length c5, .slice a6 (leafP n.pairs m).length c6, .slice none 0 0]) (by simp [results, Try.results11, go_sem, d0, d1, d2]) rfl ?_
  exact ⟨_, rfl, ⟨_, _, _, rfl, (((HN.out.put hsz).put hsz).put hsz).nodes, (((HS.out.put hsz).put hsz).put hsz).strs, nil_msgs _⟩, below_set3 HB.out (w.heap.size + 2) (by omega) _ _ _⟩

theorem cell_all {w : World} {b o : Nat} {u : Value} (h : w.cell? ⟨b, o, none⟩ = some u) : ∀ wx, Below w.heap.size w wx → wx.cell? ⟨b, o, none⟩ = some u := fun wx hx => (hx.cell (p := ⟨b, o, none⟩) (by exact cell_lt13 h)).trans h
theorem keepP {W wx : World} (h : Below W.heap.size W wx) (o : Obj) : Below W.heap.size W (wx.alloc o) := h.alloc h.size o
theorem bdrew {B : Nat} {w wx : World} (h : Below B w wx) : Below B w wx.drew := h.trans (below_drewN wx 1)
set_option maxHeartbeats 2000000 in
theorem sametexts_w (v0 v1 : Value) (a b : List Bs) (w : World) (h0 : IsStrs w v0 a) (h1 : IsStrs w v1 b) :
    Calls Try.prog 25 #[v0, v1] w fun e w' => e = .returned (.bool (decide (a = b))) ∧ ∃ n, w' = w.drewN n := by
  have mixed := mixedA
  have H0 := Lib.hid h0
  have H1 := Lib.hid h1
  obtain ⟨p0, c0, rfl, hl0, hm0, -⟩ := h0
  obtain ⟨p1, c1, rfl, hl1, hm1, -⟩ := h1
  unfold maxLen at hm0 hm1
  by_cases hlen : a.length = b.length
  · have hlb : ((a.length : Int) != (b.length : Int)) = false := by rw [hlen]; simp
    have Hlen := Lib.hid hlen
    clear hlen
    go_enter Try.func25, Try.ntmps25
    go_wp2
    go_loopw [5] (fun i wr => ∃ k n : Nat, k ≤ a.length ∧ i = .int .i64 k ∧ Hid (a.take k = b.take k) ∧ wr = w.drewN n) (fun i _ => a.length - (intOf i).toNat)
    case atStart => exact ⟨0, 0, Nat.zero_le _, rfl, Lib.hid rfl, rfl⟩
    case round =>
      obtain ⟨k, n, hk, rfl, htake, rfl⟩ := hrel
      by_cases hlt : k < a.length
      · have hltb : k < b.length := by have := Hlen.out; omega
        have hlz : (k : Int) < (b.length : Int) := by omega
        have hlza : (k : Int) < (a.length : Int) := by omega
        obtain ⟨bb, off, cap1, he, hbl, -, u0⟩ := at_str H0.out k hlt
        injection he with he1 he2 he3
        subst he1 he3
        clear he2
        obtain ⟨cc, oft, cap2, he, hcl, -, v0⟩ := at_str H1.out k hltb
        injection he with he1 he2 he3
        subst he1 he3
        clear he2
        have Ha := Lib.hid (take_next a k hlt)
        have Hb := Lib.hid (take_next b k hltb)
        have Hne : Hid (a[k] ≠ b[k] → a ≠ b) := Lib.hid (fun h e => h (by subst e; rfl))
        generalize a[k] = z at *
        generalize b[k] = t at *
        have u0 := fun n => (show (w.drewN n).cell? _ = _ from u0)
        have v0 := fun n => (show (w.drewN n).cell? _ = _ from v0)
        by_cases hzt : z = t
        · have hq : (z == t) = true := by simp [hzt]
          have He := Lib.hid hzt
          clear hzt Hne
          go_wp2_with fail
          go_quiet (fail)
          go_wp2
          go_roundw
          case rel => exact ⟨k + 1, n + nq, by omega, by go_num, Lib.hid (by rw [Ha.out, Hb.out, htake.out, He.out]), by first | rfl | rw [World.drewN_drewN]⟩
          case measure => simp [intOf]; omega
        · have HR : Hid (a ≠ b) := Lib.hid (Hne.out hzt)
          have hq : (z == t) = false := by simp [hzt]
          clear hzt Hne
          go_wp2_with fail
          go_quiet (fail)
          go_wp2
          go_ret
          exact ⟨ret_bool (by have := HR.out; simp [this]), n + nq, World.drewN_drewN _ _ _⟩
      · obtain rfl : k = a.length := by omega
        have He : Hid (a = b) := Lib.hid (by
          have := htake.out
          rw [List.take_length, Hlen.out, List.take_length] at this
          exact this)
        clear htake
        go_wp2
        go_ret
        exact ⟨ret_bool (by simp [He.out]), n, rfl⟩
  · have hlb : ((a.length : Int) != (b.length : Int)) = true := by simp; omega
    have He : Hid (a ≠ b) := Lib.hid (fun e => hlen (by rw [e]))
    clear hlen
    go_enter Try.func25, Try.ntmps25
    go_wp2
    go_ret
    exact ⟨ret_bool (by have := He.out; simp [this]), 0, rfl⟩

def sameSp (L1 : List Nd) (P1 : List Bs) (U1 : List Ms) (L2 : List Nd) (P2 : List Bs) (U2 : List Ms) : Prop := L1 = L2 ∧ P1 = P2 ∧ U1 = U2
set_option maxHeartbeats 4000000 in
/-- The law's same, where both are the same. -/
theorem same_w (v0 v1 : Value) (L : List Nd) (P : List Bs) (U : List Ms) (w : World) (h0 : IsSplit w v0 L P U) (h1 : IsSplit w v1 L P U) (hL : L.length ≤ 1000000) :
    Calls Try.prog 16 #[v0, v1] w fun e w' => e = .returned (.bool true) ∧ Below w.heap.size w w' := by
  have mixed := mixedA
  obtain ⟨x0, x1, x2, rfl, hn0, hp0, hu0⟩ := h0
  obtain ⟨y0, y1, y2, rfl, hn1, hp1, hu1⟩ := h1
  have HN0 := Lib.hid hn0
  have HN1 := Lib.hid hn1
  have HT := Lib.hid (fun wx (hx : Below w.heap.size w wx) => sametexts_w x1 y1 P P wx (hp0.below hx) (hp1.below hx))
  have HM := Lib.hid (fun wx (hx : Below w.heap.size w wx) => samemsgs_w x2 y2 U U wx (hu0.below hx) (hu1.below hx))
  obtain ⟨a0, c0, rfl, hl0, hm0⟩ := hn0.form
  obtain ⟨a1, c1, rfl, hl1, hm1⟩ := hn1.form
  obtain ⟨a2, c2, rfl, -⟩ := hp0
  obtain ⟨a3, c3, rfl, -⟩ := hp1
  obtain ⟨a4, c4, rfl, -⟩ := hu0
  obtain ⟨a5, c5, rfl, -⟩ := hu1
  obtain ⟨W1, hW1⟩ : ∃ W1, W1 = (w.alloc (.cells #[.slice a0 L.length c0, .slice a2 P.length c2, .slice a4 U.length c4] 38)).alloc (.cells #[.slice a1 L.length c1, .slice a3 P.length c3, .slice a5 U.length c5] 38) := ⟨_, rfl⟩
  have HA : Hid (Blk W1 w.heap.size 38 #[.slice a0 L.length c0, .slice a2 P.length c2, .slice a4 U.length c4]) := Lib.hid (by rw [hW1]; exact (Blk.new _ _ _).alloc _)
  have HB : Hid (Blk W1 (w.heap.size + 1) 38 #[.slice a1 L.length c1, .slice a3 P.length c3, .slice a5 U.length c5]) := Lib.hid (by rw [hW1]; exact Blk.new' _ _ _ (by simp))
  have HG : Hid (Below w.heap.size w W1) := Lib.hid (by rw [hW1]; exact (((Grown.refl w).alloc _).alloc _).below (Nat.le_refl _))
  have HW1 := Lib.hid hW1
  clear hW1 hn0 hn1
  obtain ⟨q0, q1, q2, -⟩ := three_at HA.out
  obtain ⟨r0, r1, r2, -⟩ := three_at HB.out
  have hd : decide (P = P) = true := by simp
  have hd2 : decide (U = U) = true := by simp
  have hb1 : ((L.length : Int) != (L.length : Int)) = false := by simp
  go_enter Try.func16, Try.ntmps16
  go_wp2_with fail
  rw [← HW1.out]
  go_wp2_with (first
    | (go_at_call 25; refine (HT.out _ HG.out).mono ?_; rintro e w2 ⟨rfl, n2, rfl⟩; have s0 : (W1.drewN n2).cell? ⟨w.heap.size, 2, none⟩ = some (.slice a4 U.length c4) := q2; have t0 : (W1.drewN n2).cell? ⟨w.heap.size + 1, 2, none⟩ = some (.slice a5 U.length c5) := r2)
    | (go_at_call 14; refine (HM.out _ (HG.out.trans ((below_drewN W1 n2).mono (Nat.le_refl _)))).mono ?_; rintro e w3 ⟨rfl, n3, rfl⟩))
  go_loopw [5] (fun i wr => ∃ k : Nat, k ≤ L.length ∧ i = .int .i64 k ∧ Hid (Below W1.heap.size W1 wr)) (fun i _ => L.length - (intOf i).toNat)
  case atStart => exact ⟨0, Nat.zero_le _, rfl, Lib.hid (below_drewN W1 (n2 + n3))⟩
  case round =>
    obtain ⟨k, hk, rfl, HBr⟩ := hrel
    have Q0 := cell_all q0 _ HBr.out
    have R0 := cell_all r0 _ HBr.out
    by_cases hlt : k < L.length
    · have hlz : (k : Int) < (L.length : Int) := by omega
      have HBw : Hid (Below w.heap.size w wr) := Lib.hid (HG.out.trans (HBr.out.mono HG.out.size))
      obtain ⟨bb, off, cap1, X, he, hbl, hX, u0, u1, u2, u3, u4⟩ := at_node (HN0.out.below HBw.out) k hlt
      injection he with he1 he2 he3
      subst he1 he3
      clear he2
      obtain ⟨cc, oft, cap2, Y, he, hcl, hY, v0, v1, v2, v3, v4⟩ := at_node (HN1.out.below HBw.out) k hlt
      injection he with he1 he2 he3
      subst he1 he3
      clear he2
      have HC := Lib.hid (fun wx (hx : Below wr.heap.size wr wx) => rsame10_w _ _ _ _ wx (hX.below hx) (hY.below hx))
      have hs : sameN L[k] L[k] = true := (sameN_iff _ _).2 rfl
      rw [hs] at HC
      clear hX hY hs
      have Q0 := cell_all Q0
      have R0 := cell_all R0
      have u0 := cell_all u0
      have u1 := cell_all u1
      have u2 := cell_all u2
      have u3 := cell_all u3
      have u4 := cell_all u4
      have v0 := cell_all v0
      have v1 := cell_all v1
      have v2 := cell_all v2
      have v3 := cell_all v3
      have v4 := cell_all v4
      go_wp2_with fail
      go_region_held3 (fun wx => Below wr.heap.size wr wx)
        (repeat (first | with_reducible assumption | with_reducible exact Below.refl _ _ | with_reducible refine bdrew ?_))
        (first
          | (go_at_call 15; (refine (HC.out _ (by first | exact Below.refl _ _ | exact bdrew (Below.refl _ _))).mono ?_); rintro e w4 ⟨rfl, hg4⟩; have hS4 : Below wr.heap.size wr w4 := (bdrew (Below.refl wr.heap.size wr)).trans (hg4.below (Nat.le_refl _)))
          | fail "no arm")
      have HB4 : Hid (Below W1.heap.size W1 w4) := Lib.hid (HBr.out.trans (hS4.mono HBr.out.size))
      clear hS4 hg4
      go_wp2
      go_roundw
      case rel => exact ⟨k + 1, by omega, by go_num, HB4⟩
      case measure => simp [intOf]; omega
    · obtain rfl : k = L.length := by omega
      go_wp2
      go_ret
      exact ⟨rfl, HG.out.trans (HBr.out.mono HG.out.size)⟩

end Go.Proofs.Ythpajecigkfajaa
