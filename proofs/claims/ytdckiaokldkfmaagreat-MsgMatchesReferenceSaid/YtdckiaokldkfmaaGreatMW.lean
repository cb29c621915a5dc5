/-
  Walks: a message without its fields; Valid.
-/
import Derived.Test.YtdckiaokldkfmaaGreatMV
namespace Go.Proofs.YtdckiaokldkfmaaGreat
open Go.RowKit Go.Sort
set_option linter.unusedVariables false

/-- What stays while the fields are struck. -/
structure BareSt (w : World) (v1 v2 : Value) (ts ns : List Nat) (cs : Array Value) (wx : World) : Prop where
  b : Blk wx w.heap.size 34 cs
  r : Blk wx (w.heap.size + 1) 34 (encM (zeroM 0))
  p1 : IsPtrs wx v1 w.heap.size ts
  p2 : IsPtrs wx v2 w.heap.size ns
  g : Grown w wx
theorem BareSt.set {w wx : World} {v1 v2 : Value} {ts ns : List Nat} {cs : Array Value} (h : BareSt w v1 v2 ts ns cs wx) (o : Nat) (x : Value) :
    BareSt w v1 v2 ts ns (cs.setIfInBounds o x) (wx.setCell ⟨w.heap.size, o, none⟩ x) :=
  ⟨h.b.setCell o x, h.r.setCell_other (by omega) o x, h.p1.setCell o x, h.p2.setCell o x, h.g.setCell _ _ _ (Nat.le_refl _)⟩

set_option maxRecDepth 100000 in
set_option maxHeartbeats 4000000 in
theorem bare_w (m : Ms) (w : World) : Calls Tryz.prog 56 #[msgV m] w fun e w' => e = .returned (msgV (bareM m)) ∧ Grown w w' := by
  obtain ⟨W0, hW0⟩ : ∃ W0, W0 = (w.alloc (.cells (encM m) 34)).alloc (.cells (encM (zeroM 0)) 34) := ⟨_, rfl⟩
  have b0 : Blk W0 w.heap.size 34 (encM m) := by rw [hW0]; exact (Blk.new _ _ _).alloc _
  have b1 : Blk W0 (w.heap.size + 1) 34 (encM (zeroM 0)) := by rw [hW0]; exact Blk.new' _ _ _ (by simp)
  have g0 : Grown w W0 := by rw [hW0]; exact ((Grown.refl w).alloc _).alloc _
  have HO := Lib.hid (of_w m.kind w.heap.size W0 (b0.c0 0 _ rfl))
  have HF := Lib.hid (fieldsF_w m.kind w.heap.size W0 b0.lt)
  have hm := disp_fields.m m.kind w.heap.size
  have hc := disp_fields.c m.kind
  have Hcells := Lib.hid (bare_cells m)
  have hts := tOff_lt m.kind
  have hns := nOff_lt m.kind
  have HSt : Hid (∀ v1 v2 wx, IsPtrs wx v1 w.heap.size (tOff m.kind) → IsPtrs wx v2 w.heap.size (nOff m.kind) → Grown W0 wx → BareSt w v1 v2 (tOff m.kind) (nOff m.kind) (encM m) wx) := Lib.hid (fun v1 v2 wx h1 h2 hg => ⟨Grown.blk hg b0, Grown.blk hg b1, h1, h2, g0.trans hg⟩)
  clear b0 b1 g0
  generalize tOff m.kind = ts at *
  generalize nOff m.kind = ns at *
  have Hts := Lib.hid hts
  have Hns := Lib.hid hns
  clear hts hns
  go_enter Tryz.func56, Tryz.ntmps56
  go_wp2_with fail
  subst hW0
  refine HO.out.mono ?_
  rintro e w1 ⟨rfl, rfl⟩
  go_wp2_with fail
  refine HF.out.mono ?_
  rintro e w2 ⟨v1, v2, rfl, q1, q2, hg⟩
  have HS := Lib.hid (HSt.out v1 v2 w2 q1 q2 hg)
  obtain ⟨a1, cap1, g1, rfl, l1, m1, hc1⟩ := q1.form
  obtain ⟨a2, cap2, g2, rfl, l2, m2, hc2⟩ := q2.form
  clear q1 q2 hg hc1 hc2 hm hc HO HF HSt
  go_wp2
  go_loopw [16] (fun i wr => ∃ k : Nat, k ≤ ts.length ∧ i = .int .i64 k ∧ BareSt w (.slice a1 ts.length cap1) (.slice a2 ns.length cap2) ts ns (setT (encM m) (ts.take k)) wr) (fun i _ => ts.length - (intOf i).toNat)
  case atStart => exact ⟨0, Nat.zero_le _, rfl, HS.out⟩
  case round =>
    clear HS
    obtain ⟨k, hk, rfl, hs⟩ := hrel
    have HS := Lib.hid hs
    by_cases hlt : k < ts.length
    · obtain ⟨p, cap, g, hv, -, -, hcc⟩ := hs.p1.form
      obtain ⟨rfl, hne, hgl, c0⟩ := hcc k hlt
      injection hv with hv1 hv2 hv3
      subst hv1
      clear hv2 hv3 hcc
      have hltz : (k : Int) < (ts.length : Int) := by omega
      have Htk := Lib.hid (setT_take (encM m) ts k hlt)
      have ho := Hts.out ts[k] (List.getElem_mem hlt)
      obtain ⟨u, hu⟩ : ∃ u, (setT (encM m) (ts.take k))[ts[k]]? = some u := ⟨_, Array.getElem?_eq_getElem (show ts[k] < (setT (encM m) (ts.take k)).size from by rw [setT_size]; exact ho)⟩
      have hcell := hs.b.c0 _ _ hu
      have hfr := hs.b.free ts[k]
      have HS2 := Lib.hid (hs.set ts[k] (.string (Str [])))
      clear hs hu ho
      generalize ts[k] = o at *
      go_wp2
      go_roundw
      case rel => exact ⟨k + 1, by omega, by go_num, by rw [Htk.out]; exact HS2.out⟩
      case measure => simp [intOf]; omega
    · obtain rfl : k = ts.length := by omega
      rw [List.take_length] at HS
      clear hs
      go_wp2
      go_loopw [25] (fun i wr => ∃ k : Nat, k ≤ ns.length ∧ i = .int .i64 k ∧ BareSt w (.slice a1 ts.length cap1) (.slice a2 ns.length cap2) ts ns (setN (setT (encM m) ts) (ns.take k)) wr) (fun i _ => ns.length - (intOf i).toNat)
      case atStart => exact ⟨0, Nat.zero_le _, rfl, HS.out⟩
      case round =>
        clear HS
        obtain ⟨k, hk, rfl, hs⟩ := hrel
        have HS := Lib.hid hs
        by_cases hlt : k < ns.length
        · obtain ⟨p, cap, g, hv, -, -, hcc⟩ := hs.p2.form
          obtain ⟨rfl, hne, hgl, c0⟩ := hcc k hlt
          injection hv with hv1 hv2 hv3
          subst hv1
          clear hv2 hv3 hcc
          have hltz : (k : Int) < (ns.length : Int) := by omega
          have Htk := Lib.hid (setN_take (setT (encM m) ts) ns k hlt)
          have ho := Hns.out ns[k] (List.getElem_mem hlt)
          obtain ⟨u, hu⟩ : ∃ u, (setN (setT (encM m) ts) (ns.take k))[ns[k]]? = some u := ⟨_, Array.getElem?_eq_getElem (show ns[k] < (setN (setT (encM m) ts) (ns.take k)).size from by rw [setN_size, setT_size]; exact ho)⟩
          have hcell := hs.b.c0 _ _ hu
          have hfr := hs.b.free ns[k]
          have HS2 := Lib.hid (hs.set ns[k] (.int .i64 0))
          clear hs hu ho
          generalize ns[k] = o at *
          go_wp2
          go_roundw
          case rel => exact ⟨k + 1, by omega, by go_num, by rw [Htk.out]; exact HS2.out⟩
          case measure => simp [intOf]; omega
        · obtain rfl : k = ns.length := by omega
          rw [List.take_length, Hcells.out] at HS
          obtain ⟨c0, c1, c2, c3, c4, c5, c6, c7⟩ := MBlk.plain HS.out.b
          obtain ⟨d0, d1, d2, d3, d4, d5, d6, d7⟩ := MBlk.plain HS.out.r
          have f0 := HS.out.r.free 0
          have f1 := HS.out.r.free 1
          have f2 := HS.out.r.free 2
          have f3 := HS.out.r.free 3
          have f4 := HS.out.r.free 4
          have f5 := HS.out.r.free 5
          have f6 := HS.out.r.free 6
          have f7 := HS.out.r.free 7
          clear hs Hcells
          obtain ⟨q, hq⟩ : ∃ q, q = bareM m := ⟨_, rfl⟩
          rw [← hq] at c0 c1 c2 c3 c4 c5 c6 c7 HS
          have Hq := Lib.hid hq
          clear hq
          go_wp2
          refine bodyPost_ret (v := msgV q) (by simp [results, Tryz.results56, go_sem, d0, d1, d2, d3, d4, d5, d6, d7]) rfl ⟨by rw [Hq.out], ?_⟩
          exact (Grown.setCell (Grown.setCell (Grown.setCell (Grown.setCell (Grown.setCell (Grown.setCell (Grown.setCell (Grown.setCell HS.out.g _ _ _ (Nat.le_succ _)) _ _ _ (Nat.le_succ _)) _ _ _ (Nat.le_succ _)) _ _ _ (Nat.le_succ _)) _ _ _ (Nat.le_succ _)) _ _ _ (Nat.le_succ _)) _ _ _ (Nat.le_succ _)) _ _ _ (Nat.le_succ _))

end Go.Proofs.YtdckiaokldkfmaaGreat
