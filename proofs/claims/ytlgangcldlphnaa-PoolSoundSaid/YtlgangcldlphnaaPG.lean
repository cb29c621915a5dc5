/-
  Walks: Get and Hold.
-/
import Derived.Test.YtlgangcldlphnaaPD
namespace Go.Proofs.Ytlgangcldlphnaa
open Go.RowKit Go.Sort
set_option linter.unusedVariables false
set_option maxRecDepth 100000

theorem p5_ok {w : World} {b : Nat} {T : TypeId} {x0 x1 x2 x3 x4 : Value} (h : Blk w b T #[x0, x1, x2, x3, x4]) :
    w.cell? ⟨b, 0, none⟩ = some x0 ∧ w.cell? ⟨b, 1, none⟩ = some x1 ∧ w.cell? ⟨b, 2, none⟩ = some x2 ∧ w.cell? ⟨b, 3, none⟩ = some x3 ∧ w.cell? ⟨b, 4, none⟩ = some x4 ∧
    w.frozen? ⟨b, 0, none⟩ = false ∧ w.frozen? ⟨b, 1, none⟩ = false ∧ w.frozen? ⟨b, 2, none⟩ = false ∧ w.frozen? ⟨b, 3, none⟩ = false ∧ w.frozen? ⟨b, 4, none⟩ = false :=
  ⟨h.c0 0 _ rfl, h.c0 1 _ rfl, h.c0 2 _ rfl, h.c0 3 _ rfl, h.c0 4 _ rfl, h.free 0, h.free 1, h.free 2, h.free 3, h.free 4⟩
theorem below_set5 {B : Nat} {w wx : World} (h : Below B w wx) (b : Nat) (hb : B ≤ b) (y0 y1 y2 y3 y4 : Value) : Below B w (((((wx.setCell ⟨b, 0, none⟩ y0).setCell ⟨b, 1, none⟩ y1).setCell ⟨b, 2, none⟩ y2).setCell ⟨b, 3, none⟩ y3).setCell ⟨b, 4, none⟩ y4) :=
  ((((h.setCell hb y0).setCell hb y1).setCell hb y2).setCell hb y3).setCell hb y4
theorem blk_set5 {w : World} {b : Nat} {T : TypeId} {x0 x1 x2 x3 x4 : Value} (h : Blk w b T #[x0, x1, x2, x3, x4]) (y0 y1 y2 y3 y4 : Value) : Blk (((((w.setCell ⟨b, 0, none⟩ y0).setCell ⟨b, 1, none⟩ y1).setCell ⟨b, 2, none⟩ y2).setCell ⟨b, 3, none⟩ y3).setCell ⟨b, 4, none⟩ y4) b T #[y0, y1, y2, y3, y4] :=
  ((((h.setCell 0 y0).setCell 1 y1).setCell 2 y2).setCell 3 y3).setCell 4 y4
theorem isNode_zero (w : World) : IsNode w (.agg #[.slice none 0 0, .slice none 0 0, .slice none 0 0, .slice none 0 0, .slice none 0 0]) zNd :=
  ⟨_, _, _, _, _, rfl, IsPairs.nil w, IsStrs.nil w, IsInts.nil w, IsSums.nil w, IsMsgs.nil' w⟩
set_option maxHeartbeats 2000000 in
theorem get_w (v : Value) (P : List Sl) (i : Int) (w : World) (h : IsSlots w v P) :
    Calls Try.prog 19 #[poolV v, .int .i64 i] w fun e w' => ∃ nv, e = .returned (.tuple #[nv, .int .i64 (getP P i).2]) ∧ IsNode w' nv (getP P i).1 ∧ Below w.heap.size w w' := by
  have mixed := mixedA
  have HU := Lib.hid (fun wx (hx : Below w.heap.size w wx) => used_w v P i wx (h.below hx))
  have HB0 : Hid (Below w.heap.size w ((w.alloc (.cells #[v] 29)).alloc (.cells #[.slice none 0 0, .slice none 0 0, .slice none 0 0, .slice none 0 0, .slice none 0 0] 39))) := Lib.hid ((below_box _).trans ((below_box _).mono (by simp)))
  have HN : Hid (Blk ((w.alloc (.cells #[v] 29)).alloc (.cells #[.slice none 0 0, .slice none 0 0, .slice none 0 0, .slice none 0 0, .slice none 0 0] 39)) (w.heap.size + 1) 39 #[.slice none 0 0, .slice none 0 0, .slice none 0 0, .slice none 0 0, .slice none 0 0]) := Lib.hid (Blk.new' _ _ _ (by simp))
  have HP : Hid (Blk ((w.alloc (.cells #[v] 29)).alloc (.cells #[.slice none 0 0, .slice none 0 0, .slice none 0 0, .slice none 0 0, .slice none 0 0] 39)) w.heap.size 29 #[v]) := Lib.hid ((Blk.new _ _ _).alloc _)
  by_cases hu : usedB P i = true
  · obtain ⟨h0, h1⟩ := usedB_lt hu
    obtain ⟨k, rfl⟩ : ∃ k : Nat, i = k := ⟨i.toNat, by omega⟩
    have hk : k < P.length := by omega
    obtain ⟨b, off, cap, s, rfl, hlt, hm, hs, hc⟩ := slot_at h k hk
    have HC := Lib.hid hc
    have HS := Lib.hid hs
    have hkz : (k : Int) < (P.length : Int) := by omega
    rw [hu] at HU
    have HG : Hid (getP P (k : Int) = if s.lost then (zNd, 112) else ((atP P k).node, 0)) := Lib.hid (by unfold getP; rw [if_pos hu, hs.lost]; rfl)
    clear h hc hs hu h0 h1
    cases hl : s.lost
    all_goals
      have Hl := Lib.hid hl
      rw [hl] at HG
      clear hl
      go_enter Try.func19, Try.ntmps19
      go_wp2_with fail
      refine (HU.out _ HB0.out).mono ?_
      rintro e w1 ⟨rfl, hb⟩
      have Hb : Hid (Below w.heap.size w w1) := Lib.hid (Below.next HB0.out (Nat.le_refl _) hb)
      have hN1 := HN.out.below hb HN.out.lt
      have p0 : w1.cell? ⟨w.heap.size, 0, none⟩ = some (.slice (some ⟨b, off, none⟩) P.length cap) := (HP.out.below hb HP.out.lt).c0 0 _ rfl
      obtain ⟨n0, n1, n2, n3, n4, f0, f1, f2, f3, f4⟩ := p5_ok hN1
      obtain ⟨x0, x1, x2, x3, x4, x5, x6, x7⟩ := HC.out.below Hb.out hlt
      rw [Hl.out] at x1
      have HN1 := Lib.hid hN1
      clear hb hN1 x0 x2
      go_wp2
      skip
    · obtain ⟨z0, z1, z2, z3, z4, -⟩ := p5_ok (blk_set5 HN1.out (slv s.a) (slv s.b) (slv s.c) (slv s.d) (slv s.e))
      refine bodyPost_ret (v := .tuple #[nodeV s, .int .i64 0]) (by simp [results, Try.results19, go_sem, z0, z1, z2, z3, z4]) rfl ?_
      rw [HG.out]
      have hb5 := below_set5 Hb.out (w.heap.size + 1) (by omega) (slv s.a) (slv s.b) (slv s.c) (slv s.d) (slv s.e)
      exact ⟨_, rfl, HS.out.node.below hb5, hb5⟩
    · obtain ⟨z0, z1, z2, z3, z4, -⟩ := p5_ok (blk_set5 HN1.out (.slice none 0 0) (.slice none 0 0) (.slice none 0 0) (.slice none 0 0) (.slice none 0 0))
      refine bodyPost_ret (v := .tuple #[.agg #[.slice none 0 0, .slice none 0 0, .slice none 0 0, .slice none 0 0, .slice none 0 0], .int .i64 112]) (by simp [results, Try.results19, go_sem, z0, z1, z2, z3, z4]) rfl ?_
      rw [HG.out]
      exact ⟨_, rfl, isNode_zero _, below_set5 Hb.out (w.heap.size + 1) (by omega) _ _ _ _ _⟩
  · have hu : usedB P i = false := by simpa using hu
    have HG : Hid (getP P i = (zNd, 110)) := Lib.hid (by unfold getP; rw [hu]; rfl)
    rw [hu] at HU
    obtain ⟨a, cap, rfl, -, -, -⟩ := h.slice
    clear hu h
    go_enter Try.func19, Try.ntmps19
    go_wp2_with fail
    refine (HU.out _ HB0.out).mono ?_
    rintro e w1 ⟨rfl, hb⟩
    have Hb : Hid (Below w.heap.size w w1) := Lib.hid (Below.next HB0.out (Nat.le_refl _) hb)
    have hN1 := HN.out.below hb HN.out.lt
    obtain ⟨n0, n1, n2, n3, n4, f0, f1, f2, f3, f4⟩ := p5_ok hN1
    have HN1 := Lib.hid hN1
    clear hb hN1
    go_wp2
    obtain ⟨z0, z1, z2, z3, z4, -⟩ := p5_ok (blk_set5 HN1.out (.slice none 0 0) (.slice none 0 0) (.slice none 0 0) (.slice none 0 0) (.slice none 0 0))
    refine bodyPost_ret (v := .tuple #[.agg #[.slice none 0 0, .slice none 0 0, .slice none 0 0, .slice none 0 0, .slice none 0 0], .int .i64 110]) (by simp [results, Try.results19, go_sem, z0, z1, z2, z3, z4]) rfl ?_
    rw [HG.out]
    exact ⟨_, rfl, isNode_zero _, below_set5 Hb.out (w.heap.size + 1) (by omega) _ _ _ _ _⟩

/-- The refs of a used slot may be raised. -/
theorem incS_eq (s : Sl) : incS s = { s with refs := s.refs + 1 } := rfl
theorem own_other {w : World} {base : Nat} {e : TypeId} {size : Nat} {v : Value} {n : Nat} {xs : List Value} (h : w.ownsRow base e size v n xs) (b i : Nat) (u : Value) (hne : v.ownBlock ≠ some b) : (w.setCell ⟨b, i, none⟩ u).ownsRow base e size v n xs := by
  refine ⟨h.1, ?_⟩
  rcases h.2 with hn | ⟨g, cap, cur, rfl, hg, hgg, rest⟩
  · exact .inl hn
  · refine .inr ⟨g, cap, cur, rfl, hg, ?_, rest⟩
    rw [Below.heap_setCell _ _ _ _ (fun e => hne (congrArg some e))]; exact hgg
theorem OwnF.setOther {w0 w : World} {base : Nat} {v : Value} {P : List Sl} (h : OwnF w0 w base v P) (b i : Nat) (u : Value) (hne : v.ownBlock ≠ some b) : OwnF w0 (w.setCell ⟨b, i, none⟩ u) base v P := by
  obtain ⟨L, h1, h4⟩ := h
  exact ⟨L, h1, own_other h4 b i u hne⟩
set_option maxHeartbeats 2000000 in
theorem hold_w (v : Value) (P : List Sl) (i : Int) (w0 w : World) (h0 : SlF w0 w v P) (hb0 : Below w0.heap.size w0 w) (hl : P.length ≤ 1000000) (hr : usedB P i = true → 0 ≤ (atP P i.toNat).refs ∧ (atP P i.toNat).refs ≤ 1000000000) :
    Calls Try.prog 21 #[poolV v, .int .i64 i] w fun e w' => ∃ v', e = .returned (.tuple #[poolV v', .int .i64 (holdP P i).2]) ∧ SlOut w0 w w' v v' (holdP P i).1 := by
  have mixed := mixedA
  have h := h0.slots hb0
  have H0 := Lib.hid h0
  clear h0
  have HU := Lib.hid (fun wx (hx : Below w.heap.size w wx) => used_w v P i wx (h.below hx))
  have HB0 : Hid (Below w.heap.size w ((w.alloc (.cells #[v] 29)).alloc (.cells #[.slice none 0 0] 29))) := Lib.hid ((below_box _).trans ((below_box _).mono (by simp)))
  have HN : Hid (Blk ((w.alloc (.cells #[v] 29)).alloc (.cells #[.slice none 0 0] 29)) (w.heap.size + 1) 29 #[.slice none 0 0]) := Lib.hid (Blk.new' _ _ _ (by simp))
  have HP : Hid (Blk ((w.alloc (.cells #[v] 29)).alloc (.cells #[.slice none 0 0] 29)) w.heap.size 29 #[v]) := Lib.hid ((Blk.new _ _ _).alloc _)
  have H := Lib.hid h
  obtain ⟨a, cap, rfl, -, -, -⟩ := h.slice
  clear h
  by_cases hu : usedB P i = true
  · obtain ⟨h0, h1⟩ := usedB_lt hu
    obtain ⟨r0, r1⟩ := hr hu
    obtain ⟨k, rfl⟩ : ∃ k : Nat, i = k := ⟨i.toNat, by omega⟩
    have hk : k < P.length := by omega
    have HG : Hid (holdP P (k : Int) = (P.set k { atP P k with refs := (atP P k).refs + 1 }, 0)) := Lib.hid (by unfold holdP; rw [if_pos hu]; rfl)
    rw [hu] at HU
    have HCL := Lib.hid (fun wx (hx : Below w.heap.size w wx) => cloneSl_w (.slice a P.length cap) P w0 wx (H0.out.below hx) (hb0.trans (hx.mono hb0.size)) hl)
    have hkz : (k : Int) < (P.length : Int) := by omega
    have e : ((k : Int)).toNat = k := by omega
    rw [e] at r0 r1
    clear hu h0 h1 e hr
    go_enter Try.func21, Try.ntmps21
    go_wp2_with fail
    refine (HU.out _ HB0.out).mono ?_
    rintro e w1 ⟨rfl, hb⟩
    have Hb : Hid (Below w.heap.size w w1) := Lib.hid (Below.next HB0.out (Nat.le_refl _) hb)
    have hN1 := HN.out.below hb HN.out.lt
    have p0 : w1.cell? ⟨w.heap.size, 0, none⟩ = some (.slice a P.length cap) := (HP.out.below hb HP.out.lt).c0 0 _ rfl
    have HN1 := Lib.hid hN1
    clear hb hN1
    go_wp2_with fail
    refine (HCL.out _ Hb.out).mono ?_
    rintro e w2 ⟨v2, rfl, hown, hb⟩
    have Hb2 : Hid (Below w.heap.size w w2) := Lib.hid (Below.next Hb.out (Nat.le_refl _) hb)
    have Hb12 := Lib.hid hb
    obtain ⟨a2, cap2, rfl, hl2, hm2, hg2⟩ := hown.form
    obtain ⟨g, rfl⟩ := hg2 (by omega)
    obtain ⟨s, hs, c0, c1, c2, c3, c4, c5, c6, c7⟩ := hown.at k hk
    have f2 := hown.free (k * 8 + 2)
    have hgb := hown.blk
    have hN2 := HN1.out.below hb HN1.out.lt
    have n0 := hN2.c0 0 _ rfl
    have g0 := hN2.free 0
    have HO := Lib.hid hown
    rw [hs.refs] at c2
    have hne : w.heap.size + 1 ≠ g := by have := HN1.out.lt; omega
    have HN2 := Lib.hid hN2
    have hlen : (P.length : Int) ≤ 9223372036854775807 := by omega
    clear hown hb hN2 hs c0 c1 c3 c4 c5 c6 c7 p0
    generalize hrr : (atP P k).refs = r at *
    clear hrr
    go_wp2
    have hown := (HO.out.refs k hk (r + 1))
    have hw3 : Below w1.heap.size w1 (w2.setCell ⟨g, k * 8 + 2, none⟩ (.int .i64 (r + 1))) := Hb12.out.setCell hgb.1 _
    have hN3 := (HN2.out.setCell_other hne (k * 8 + 2) (.int .i64 (r + 1)))
    have z0 := (hN3.setCell 0 (.slice (some ⟨g, 0, none⟩) P.length cap2)).c0 0 _ rfl
    refine bodyPost_ret (v := .tuple #[poolV (.slice (some ⟨g, 0, none⟩) P.length cap2), .int .i64 0]) (by simp [results, Try.results21, go_sem, z0]) rfl ?_
    rw [HG.out]
    have hB : Below w.heap.size w ((w2.setCell ⟨g, k * 8 + 2, none⟩ (.int .i64 (r + 1))).setCell ⟨w.heap.size + 1, 0, none⟩ (.slice (some ⟨g, 0, none⟩) P.length cap2)) := (Hb2.out.setCell (by show w.heap.size ≤ g; have := Hb.out.size; omega) _).setCell (by show w.heap.size ≤ w.heap.size + 1; omega) _
    refine ⟨_, rfl, (hown.setOther (w.heap.size + 1) 0 (.slice (some ⟨g, 0, none⟩) P.length cap2) (by exact fun e => hne (Option.some.inj e).symm)).slF, fun b hb => ?_, hB⟩
    injection hb with hb
    subst hb
    exact .inr (by have := Hb.out.size; show w.heap.size ≤ g; omega)
  · have hu : usedB P i = false := by simpa using hu
    have HG : Hid (holdP P i = (P, 110)) := Lib.hid (by unfold holdP; rw [hu]; rfl)
    rw [hu] at HU
    clear hu hr
    go_enter Try.func21, Try.ntmps21
    go_wp2_with fail
    refine (HU.out _ HB0.out).mono ?_
    rintro e w1 ⟨rfl, hb⟩
    have Hb : Hid (Below w.heap.size w w1) := Lib.hid (Below.next HB0.out (Nat.le_refl _) hb)
    have hN1 := HN.out.below hb HN.out.lt
    have p0 : w1.cell? ⟨w.heap.size, 0, none⟩ = some (.slice a P.length cap) := (HP.out.below hb HP.out.lt).c0 0 _ rfl
    have n0 := hN1.c0 0 _ rfl
    have g0 := hN1.free 0
    have HN1 := Lib.hid hN1
    clear hb hN1
    go_wp2
    have z0 := (HN1.out.setCell 0 (.slice a P.length cap)).c0 0 _ rfl
    refine bodyPost_ret (v := .tuple #[poolV (.slice a P.length cap), .int .i64 110]) (by simp [results, Try.results21, go_sem, z0]) rfl ?_
    rw [HG.out]
    have hB := Hb.out.setCell (p := ⟨w.heap.size + 1, 0, none⟩) (by simp) (.slice a P.length cap)
    exact ⟨_, rfl, H0.out.below hB, fun b hb => .inl rfl, hB⟩

end Go.Proofs.Ytlgangcldlphnaa
