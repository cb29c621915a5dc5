/-
  Walks: the law's inner.
-/
import Derived.Test.YthpajecigkfajaaAH
namespace Go.Proofs.Ythpajecigkfajaa
open Go.RowKit Go.Sort
set_option linter.unusedVariables false
set_option maxRecDepth 100000

set_option maxHeartbeats 2000000 in
theorem inner_w (nv : Value) (n : Nd) (lf : Int) (m : Nat) (bu : Int) (w : World) (h : IsNode w nv n) (hl : n.kids.length ≤ 1000000) (hl1 : 1 ≤ n.kids.length) (hs : n.sums.length = n.kids.length) (hp : n.pivots.length + 1 = n.kids.length) (hu : n.buf.length ≤ 1000000) (hm : m ≤ 1000000) (hm0 : 1 ≤ m) :
    Calls Try.prog 13 #[nv, .agg #[.int .i64 lf, .int .i64 (m : Int), .int .i64 bu]] w fun e w' => ∃ v', e = .returned v' ∧ IsSplit w' v' (innerN n m) (innerP n m) n.buf ∧ Below w.heap.size w w' := by
  have H := Lib.hid h
  obtain ⟨va, vb, vc, vd, ve, rfl, hP, hQ, hR, hS, hT⟩ := h
  obtain ⟨p0, c0, rfl, -⟩ := hP
  obtain ⟨p1, c1, rfl, -⟩ := hQ
  obtain ⟨p2, c2, rfl, -⟩ := hR
  obtain ⟨p3, c3, rfl, -⟩ := hS
  obtain ⟨p4, c4, rfl, -⟩ := hT
  obtain ⟨W0, hW0⟩ : ∃ W0, W0 = ((w.alloc (.cells #[.slice p0 n.pairs.length c0, .slice p1 n.pivots.length c1, .slice p2 n.kids.length c2, .slice p3 n.sums.length c3, .slice p4 n.buf.length c4] 43)).alloc (.cells #[.int .i64 lf, .int .i64 (m : Int), .int .i64 bu] 32)).alloc (.cells #[.slice none 0 0, .slice none 0 0, .slice none 0 0] 38) := ⟨_, rfl⟩
  have HX : Hid (Blk W0 w.heap.size 43 #[.slice p0 n.pairs.length c0, .slice p1 n.pivots.length c1, .slice p2 n.kids.length c2, .slice p3 n.sums.length c3, .slice p4 n.buf.length c4]) := Lib.hid (by rw [hW0]; exact ((Blk.new _ _ _).alloc _).alloc _)
  have HY : Hid (Blk W0 (w.heap.size + 1) 32 #[.int .i64 lf, .int .i64 (m : Int), .int .i64 bu]) := Lib.hid (by rw [hW0]; exact (Blk.new' _ _ _ (by simp)).alloc _)
  have HZ : Hid (Blk W0 (w.heap.size + 2) 38 #[.slice none 0 0, .slice none 0 0, .slice none 0 0]) := Lib.hid (by rw [hW0]; exact Blk.new' _ _ _ (by simp))
  have HG : Hid (Below w.heap.size w W0) := Lib.hid (by rw [hW0]; exact ((((Grown.refl w).alloc _).alloc _).alloc _).below (Nat.le_refl _))
  have HW0 := Lib.hid hW0
  clear hW0
  have HCALL := Lib.hid (innerS_w _ n lf m bu W0 (H.out.below HG.out) hl hl1 hs hp hu hm hm0)
  obtain ⟨x0, x1, x2, x3, x4, -⟩ := five_ok HX.out
  obtain ⟨y0, y1, y2, -⟩ := three_at HY.out
  clear hs hp
  generalize innerN n m = N at *
  generalize innerP n m = P at *
  go_enter Try.func13, Try.ntmps13
  go_wp2_with fail
  rw [← HW0.out]
  go_wp2_with fail
  refine HCALL.out.mono ?_
  rintro e w1 ⟨v1, v2, v3, rfl, hn, hs, hm3, hb⟩
  have hZ1 := HZ.out.below hb HZ.out.lt
  obtain ⟨z0, z1, z2, f0, f1, f2⟩ := three_at hZ1
  obtain ⟨a5, c5, rfl, -⟩ := hn.nodes.form
  obtain ⟨a6, c6, rfl, -⟩ := id hs
  obtain ⟨a7, c7, rfl, -⟩ := id hm3
  have HM := Lib.hid hm3
  have HN := Lib.hid hn
  have HS := Lib.hid hs
  have HB : Hid (Below w.heap.size w w1) := Lib.hid (HG.out.trans (hb.mono HG.out.size))
  have HZ1 := Lib.hid hZ1
  clear hn hs hm3 hb hZ1
  go_wp2_with fail
  have hsz : w.heap.size + 2 < W0.heap.size := HZ.out.lt
  have hB := blk_set3 HZ1.out (.slice a5 N.length c5) (.slice a6 P.length c6) (.slice a7 n.buf.length c7)
  obtain ⟨d0, d1, d2, -⟩ := three_at hB
  refine bodyPost_ret (v := .agg #[.slice a5 N.length c5, .slice a6 P.length c6, .slice a7 n.buf.length c7]) (by simp [results, Try.results13, go_sem, d0, d1, d2]) rfl ?_
  exact ⟨_, rfl, ⟨_, _, _, rfl, (((HN.out.put hsz).put hsz).put hsz).nodes, (((HS.out.put hsz).put hsz).put hsz).strs, (((HM.out.put hsz).put hsz).put hsz).msgs⟩, below_set3 HB.out (w.heap.size + 2) (by omega) _ _ _⟩


end Go.Proofs.Ythpajecigkfajaa
