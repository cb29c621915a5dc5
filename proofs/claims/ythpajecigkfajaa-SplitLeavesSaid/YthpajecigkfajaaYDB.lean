/-
  Walks: reference 10's Made.
-/
import Derived.Test.YthpajecigkfajaaYJD
namespace Go.Proofs.Ythpajecigkfajaa
open Go.RowKit Go.Sort
set_option linter.unusedVariables false

set_option maxRecDepth 100000 in
set_option maxHeartbeats 4000000 in
theorem nmade_w (v : Value) (x : Rq) (w : World) (h : IsRq w v x) : Calls Try.prog 12 #[v] w fun e w' => ∃ v', e = .returned v' ∧ OwnMade w' w.heap.size v' (madeQ x) ∧ Below w.heap.size w w' := by
  have mixed := mixedA
  obtain ⟨a, b, c, d, e, rfl, h1, h2, h3, h4, h5, h6⟩ := h
  have H1 := Lib.hid h1
  have H2 := Lib.hid h2
  have H3 := Lib.hid h3
  have H4 := Lib.hid h4
  have H5 := Lib.hid h5
  obtain ⟨b1, o1, c1, p1, rfl, -⟩ := h1.form
  obtain ⟨p2, c2, rfl, hl2, hm2, -⟩ := h2
  obtain ⟨p3, c3, rfl, hl3, hm3, -⟩ := h3
  obtain ⟨b4, o4, c4, p4, rfl, hl4, hm4, hpp4, hcc4⟩ := h4.form
  have HPP4 := Lib.hid hpp4
  have HCC4 := Lib.hid hcc4
  have HSMQ : Hid (SmallQ x) := Lib.hid (by obtain ⟨_, _, _, _, _, h, _⟩ := h4; exact h)
  clear hpp4 hcc4
  obtain ⟨b5, o5, c5, p5, rfl, hl5, hm5, -⟩ := h5.form
  unfold maxLen at hm2 hm3 hm4 hm5
  clear h1 h4 h5
  obtain ⟨W1, hW1⟩ : ∃ W1, W1 = (w.alloc (.cells #[.slice p1 x.pairs.length c1, .slice p2 x.kids.length c2, .slice p3 x.pivs.length c3, .slice p4 x.sums.length c4, .slice p5 x.buf.length c5] 51)).alloc (.cells #[.slice none 0 0, .slice none 0 0, .slice none 0 0, .slice none 0 0, .slice none 0 0] 43) := ⟨_, rfl⟩
  have HX : Hid (Blk W1 w.heap.size 51 #[.slice p1 x.pairs.length c1, .slice p2 x.kids.length c2, .slice p3 x.pivs.length c3, .slice p4 x.sums.length c4, .slice p5 x.buf.length c5]) := Lib.hid (by rw [hW1]; exact (Blk.new _ _ _).alloc _)
  have HN : Hid (Blk W1 (w.heap.size + 1) 43 #[.slice none 0 0, .slice none 0 0, .slice none 0 0, .slice none 0 0, .slice none 0 0]) := Lib.hid (by rw [hW1]; exact Blk.new' _ _ _ (by simp))
  have HG : Hid (Below w.heap.size w W1) := Lib.hid (by rw [hW1]; exact (((Grown.refl w).alloc _).alloc _).below (Nat.le_refl _))
  have HW1 := Lib.hid hW1
  clear hW1
  by_cases hk : x.kids = []
  · have hz : x.kids.length = 0 := by rw [hk]; rfl
    rw [hz] at HX HW1 H2 hl2
    rw [hz]
    clear hz
    go_enter Try.func12, Try.ntmps12
    go_wp2_with fail
    rw [← HW1.out]
    refine (T4.made_w _ _ _ (H1.out.below HG.out)).mono ?_
    rintro e1 w1 ⟨v1, rfl, hown, hl, hb⟩
    obtain ⟨a1, q1, rfl⟩ := pairs_form hl
    have hN1 := HN.out.below hb HN.out.lt
    have f0 := hN1.free 0
    have f1 := hN1.free 1
    have f2 := hN1.free 2
    have f3 := hN1.free 3
    have f4 := hN1.free 4
    have n0 := hN1.c0 0 _ rfl
    have n1 := hN1.c0 1 _ rfl
    have n2 := hN1.c0 2 _ rfl
    have n3 := hN1.c0 3 _ rfl
    have n4 := hN1.c0 4 _ rfl
    have Hown := Lib.hid hown
    have Hb := Lib.hid hb
    have Hl := Lib.hid hl
    clear hown hb hl
    go_wp2_with fail
    have hB := ((((hN1.setCell 0 (.slice a1 (T4.madeS x.pairs).length q1)).setCell 1 (.slice none 0 0)).setCell 2 (.slice none 0 0)).setCell 3 (.slice none 0 0)).setCell 4 (.slice none 0 0)
    obtain ⟨z0, z1, z2, z3, z4, -, -, -, -, -⟩ := five_ok hB
    refine bodyPost_ret (v := .agg #[.slice a1 (T4.madeS x.pairs).length q1, .slice none 0 0, .slice none 0 0, .slice none 0 0, .slice none 0 0]) (by simp [results, Try.results12, go_sem, z0, z1, z2, z3, z4]) rfl ?_
    rw [made_leaf hk]
    have hp : OwnL w1 w.heap.size (.slice a1 (T4.madeS x.pairs).length q1) (.slice none 0 0) (.slice none 0 0) (.slice none 0 0) (.slice none 0 0) ⟨T4.madeS x.pairs, [], [], [], []⟩ :=
      ⟨owns_baseG HG.out.size Hown.out, (by obtain ⟨_, _, _, _, _, h, _⟩ := Hl.out; exact h), World.ownsRow_nil _ _ _ _, World.ownsRow_nil _ _ _ _, World.ownsRow_nil _ _ _ _, World.ownsRow_nil _ _ _ _⟩
    exact ⟨_, rfl, made_nil _ _ rfl rfl (hp.st5 hN1).node.is, below_st5 (HG.out.trans (Hb.out.mono HG.out.size)) (Nat.le_succ _)⟩
  · have hz : 0 < x.kids.length := List.length_pos_iff.2 hk
    have hzz : 0 < ((x.kids.length : Nat) : Int) := by omega
    have hd0 : (((x.kids.length : Nat) : Int) == 0) = false := by rw [beq_eq_false_iff_ne]; omega
    go_enter Try.func12, Try.ntmps12
    go_wp2_with fail
    rw [← HW1.out]
    have hsz : w.heap.size + 1 + 1 = W1.heap.size := by rw [HW1.out]; simp
    rw [hsz]
    go_loopw [3, 4] (fun o i wr => ∃ j : Nat, j ≤ x.pivs.length ∧ i = .int .i64 j ∧ Hid (wr.ownsRow W1.heap.size 9 1 o (keysQ (x.pivs.take j)).length (cellsK (keysQ (x.pivs.take j)))) ∧ Hid (Below W1.heap.size W1 wr)) (fun _ i _ => x.pivs.length - (intOf i).toNat)
    case atStart => exact ⟨0, Nat.zero_le _, rfl, Lib.hid (own_emptyK W1 _ (Nat.le_refl _)), Lib.hid (below_box _)⟩
    case round =>
      obtain ⟨j, hj, rfl, Hown, Hbel⟩ := hrel
      have hx2 := ((HX.out.below Hbel.out HX.out.lt)).c0 2 _ rfl
      by_cases hlt : j < x.pivs.length
      · obtain ⟨b, off, cap', he, hbl, hlz, y0⟩ := at_byte H3.out j hlt
        injection he with he1 he2 he3
        subst he1 he3
        clear he2
        have c0 := ((HG.out.trans (Hbel.out.mono HG.out.size)).cell (p := ⟨b, off + j, none⟩) hbl).trans y0
        have hltz : (j : Int) < (x.pivs.length : Int) := by omega
        have Htk : Hid (keysQ (x.pivs.take (j + 1)) = keysQ (x.pivs.take j) ++ [T4.keyS (x.pivs[j]).toNat]) := Lib.hid (by unfold keysQ; rw [List.take_succ_eq_append_getElem hlt, List.map_append]; rfl)
        have hn : (x.pivs[j]).toNat < 256 := (x.pivs[j]).toNat_lt
        have hll : (keysQ (x.pivs.take j)).length = j := by unfold keysQ; rw [List.length_map, List.length_take]; omega
        generalize (x.pivs[j]).toNat = n at *
        have hke := Lib.hid (fun wx => T4.key_w n wx (by omega))
        generalize T4.keyS n = ke at *
        generalize keysQ (x.pivs.take j) = left at *
        clear y0 hn
        go_wp2_with (first
          | (go_at_call 21; (refine (hke.out _).mono ?_); rintro e w2 ⟨rfl, hb2⟩; have HB2 : Hid (Below W1.heap.size W1 w2) := Lib.hid (Hbel.out.trans (hb2.mono Hbel.out.size)); have HO2 := Lib.hid (owns_below Hown.out hb2); clear hb2)
          | (at_builtin; refine append_strs rfl _ _ rfl W1.heap.size u3 left rfl (owns_below HO2.out (below_box _)) _ [ke] rfl (one_strs (by first | rfl | simp) ke) (by simp only [List.length_cons, List.length_nil]; omega) (Nat.le_trans HB2.out.size (by simp)) ?_; intro v3 w3 hown3 hb3; have HB3 : Hid (Below W1.heap.size W1 w3) := Lib.hid ((HB2.out.alloc HB2.out.size _).trans hb3); have HO3 := Lib.hid hown3; clear hown3 hb3))
        rw [← Htk.out] at HO3
        go_wp2
        go_roundw
        case rel => exact ⟨j + 1, by omega, by go_num, HO3, HB3⟩
        case measure => simp [intOf]; omega
      · have hltz : (x.pivs.length : Int) ≤ (j : Int) := by omega
        obtain rfl : j = x.pivs.length := by omega
        rw [List.take_length] at Hown
        have hkl : (keysQ x.pivs).length ≤ 2000000 := by unfold keysQ; rw [List.length_map]; omega
        clear hlt hj
        go_wp2_with fail
        clear hx2 hltz
        refine (pivotsG_w u3 _ wr (IsStrs.owned Hown.out) hkl).mono ?_
        rintro e w5 ⟨v5, rfl, hs5, hb5⟩
        have HS5 := Lib.hid hs5
        have HB5 : Hid (Below W1.heap.size W1 w5) := Lib.hid (Hbel.out.trans (hb5.mono Hbel.out.size))
        obtain ⟨p6, c6, rfl, hl6, hm6, -⟩ := hs5
        unfold maxLen at hm6
        have hx1 := (HX.out.below HB5.out HX.out.lt).c0 1 _ rfl
        have hx4 := (HX.out.below HB5.out HX.out.lt).c0 4 _ rfl
        clear hb5 Hown Hbel hkl
        have HPQ : Hid ((pivF [] (keysQ x.pivs)).take (min x.kids.length 10 - 1) = pivsQ x) := Lib.hid rfl
        generalize pivF [] (keysQ x.pivs) = ps at *
        obtain ⟨K, hK1, hK2, hK3⟩ : ∃ K : Nat, K = min x.kids.length 10 ∧ 0 < K ∧ K ≤ 10 := ⟨_, rfl, by omega, by omega⟩
        rw [← hK1] at HPQ
        obtain ⟨M, hM1⟩ : ∃ M : Nat, M + 1 = K := ⟨K - 1, by omega⟩
        obtain ⟨L, hL1, hL2⟩ : ∃ L : Nat, L = min ps.length M ∧ L ≤ ps.length := ⟨_, rfl, by omega⟩
        have hm1 : min ((x.kids.length : Nat) : Int) 10 = (K : Int) := by omega
        have hm2 : wrap64 ((K : Int) - 1) = (M : Int) := by unfold wrap64; omega
        have hm3 : min ((ps.length : Nat) : Int) (M : Int) = (L : Int) := by omega
        have hm7 : IntKind.i64.wrap ((K : Int) - 1) = (M : Int) := by rw [IntKind.wrap_i64]; omega
        have hm4 : (0 : Int) ≤ (L : Int) := by omega
        have hm5 : (L : Int) ≤ (ps.length : Int) := by omega
        have hm6 : (L : Int) ≤ (c6 : Int) := by omega
        have HLP : Hid (ps.take L = pivsQ x) := Lib.hid (by rw [← HPQ.out, List.take_eq_take_iff]; omega)
        clear hL1 hM1 hK1
        have hy1 : ∀ wx, Below w5.heap.size w5 wx → wx.cell? ⟨w.heap.size, 1, none⟩ = some (.slice p2 x.kids.length c2) := fun wx hb => ((HX.out.below HB5.out HX.out.lt).below hb (Nat.lt_of_lt_of_le HX.out.lt HB5.out.size)).c0 1 _ rfl
        have hy4 : ∀ wx, Below w5.heap.size w5 wx → wx.cell? ⟨w.heap.size, 4, none⟩ = some (.slice p5 x.buf.length c5) := fun wx hb => ((HX.out.below HB5.out HX.out.lt).below hb (Nat.lt_of_lt_of_le HX.out.lt HB5.out.size)).c0 4 _ rfl
        have hR5 := H5.out.below (HG.out.trans (HB5.out.mono HG.out.size))
        have HL : Hid (∀ wx, Below w5.heap.size w5 wx → Calls Try.prog 23 #[.slice p5 x.buf.length c5, .int .i64 12] wx fun e w' => ∃ a c, e = .returned (.slice a (listS x.buf 12).length c) ∧ OwnM w' w5.heap.size (.slice a (listS x.buf 12).length c) (listS x.buf 12) ∧ Below w5.heap.size w5 w' ∧ (∀ b T cs, Blk wx b T cs → Blk w' b T cs)) := Lib.hid (fun wx hx => (list_w _ _ 12 wx (hR5.below hx) (by decide)).mono fun e w' ⟨v', h1, h2, h3⟩ => by
          obtain ⟨gl, ol, capl, al, rfl, -⟩ := h2.msgs.form
          exact ⟨al, capl, h1, owns_lower h2 hx.size, hx.trans (h3.mono hx.size), fun b T cs hb => hb.below h3 hb.lt⟩)
        have HL0 : Hid (Below w5.heap.size w5 w5) := Lib.hid (Below.refl _ _)
        clear hR5 hx1 hx4
        go_wp2_with fail
        refine regM9_w w5 w.heap.size x.kids.length c2 x.buf.length c5 ps.length c6 K M L p2 p5 p6 (listS x.buf 12) hy1 hy4 hm1 hm2 hm7 hm3 hm4 hm5 hm6 HL.out _ _ _ _ _ _ _ _ _ _ _ _ _ _ _ _ _ _ _ _ _ _ _ _ _ _ _ _ _ _ _ _ _ _ _ _ _ _ _ _ _ _ _ _ _ _ _ _ _ _ _ _ _ _ _ _ _ _ _ _ _ _ _ _ _ _ _ _ _ _ _ _ _ _ _ _ _ _ _ _ _ _ _ _ _ _ _ _ _ _ _ _ _ _ _ _ _ _ _ _ _ _ _ _ _ _ _ _ ?_
        intro t36 t37 t38 t39 t40 t41 t42 t43 t44 t45 t46 t47 t48 t49 a2 k2 b wb hbb hB0 hO0 hB60
        have HB := Lib.hid hB0
        have HO := Lib.hid hO0
        have HB6 := Lib.hid hB60
        clear hB0 hO0 hB60
        have hP := pivsQ_len x
        have hLP2 : L = (pivsQ x).length := by rw [← HLP.out, List.length_take]; omega
        have hL9 : L ≤ 9 := by rw [hLP2]; exact hP.1
        have hLk : L + 1 ≤ x.kids.length := by rw [hLP2]; exact hP.2 hk
        have HLp := Lib.hid hLP2
        clear HL HL0 hy1 hy4 hP hLP2 hm1 hm2 hm3 hm7 hm6 HPQ
        go_wp2_with fail
        go_loopw [6] (fun i wr => ∃ (k : Nat) (vk vs : Value), k ≤ L + 1 ∧ i = .int .i64 k ∧ Hid (Blk wr b 43 #[.slice none 0 0, .slice p6 L c6, vk, vs, .slice a2 (listS x.buf 12).length k2]) ∧ Hid (OwnM wr w5.heap.size (.slice a2 (listS x.buf 12).length k2) (listS x.buf 12)) ∧
          Hid (wr.ownsRow w5.heap.size 3 1 vk (kidsQ x k).length ((kidsQ x k).flatMap encI)) ∧ Hid (wr.ownsRow w5.heap.size 72 4 vs (sumsQ x k).length ((sumsQ x k).flatMap encSm)) ∧ Hid (Below w5.heap.size w5 wr)) (fun i _ => L + 1 - (intOf i).toNat)
        case atStart => exact ⟨0, _, _, Nat.zero_le _, rfl, HB, HO, Lib.hid (World.ownsRow_nil _ _ _ _), Lib.hid (World.ownsRow_nil _ _ _ _), HB6⟩
        case round =>
          clear HB HO HB6
          obtain ⟨k, vk, vs, hkk, rfl, HB, HO, HK, HSm, HB6⟩ := hrel
          have hx3 := (HX.out.below (HB5.out.trans (HB6.out.mono HB5.out.size)) HX.out.lt).c0 3 _ rfl
          have hx1 := (HX.out.below (HB5.out.trans (HB6.out.mono HB5.out.size)) HX.out.lt).c0 1 _ rfl
          obtain ⟨q0, q1, q2, q3, q4, f0, f1, f2, f3, f4⟩ := five_ok HB.out
          have hbl := HB.out.lt
          have hxl : w.heap.size < wr.heap.size := (HX.out.below (HB5.out.trans (HB6.out.mono HB5.out.size)) HX.out.lt).lt
          have HN9 := Lib.hid (HN.out.below (HB5.out.trans (HB6.out.mono HB5.out.size)) HN.out.lt)
          have hnl := HN9.out.lt
          obtain ⟨n0, n1, n2, n3, n4, g0, g1, g2, g3, g4⟩ := five_ok HN9.out
          by_cases hlt : k ≤ L
          · have hltz : (k : Int) ≤ (L : Int) := by omega
            have HD4 : Hid (∀ (hs : k < x.sums.length), p4 = some ⟨b4, o4, none⟩ ∧ b4 < wr.heap.size ∧ wr.cell? ⟨b4, o4 + k * 4, none⟩ = some (.int .u8 x.sums[k].1) ∧ wr.cell? ⟨b4, o4 + k * 4 + 1, none⟩ = some (.int .u8 x.sums[k].2.1) ∧ wr.cell? ⟨b4, o4 + k * 4 + 2, none⟩ = some (.int .u8 x.sums[k].2.2.1) ∧ wr.cell? ⟨b4, o4 + k * 4 + 3, none⟩ = some (.int .u8 x.sums[k].2.2.2)) := Lib.hid (fun hs => by
              have hpp4 := HPP4.out
              have hcc4 := HCC4.out
              have hb := hcc4 k hs
              have hw := Below.cell (p := ⟨b4, o4 + k * 4, none⟩) (HG.out.trans ((HB5.out.trans (HB6.out.mono HB5.out.size)).mono HG.out.size)) (hpp4 (by intro e; rw [e] at hs; simp at hs)).2
              have hw1 := Below.cell (p := ⟨b4, o4 + k * 4 + 1, none⟩) (HG.out.trans ((HB5.out.trans (HB6.out.mono HB5.out.size)).mono HG.out.size)) (hpp4 (by intro e; rw [e] at hs; simp at hs)).2
              have hw2 := Below.cell (p := ⟨b4, o4 + k * 4 + 2, none⟩) (HG.out.trans ((HB5.out.trans (HB6.out.mono HB5.out.size)).mono HG.out.size)) (hpp4 (by intro e; rw [e] at hs; simp at hs)).2
              have hw3 := Below.cell (p := ⟨b4, o4 + k * 4 + 3, none⟩) (HG.out.trans ((HB5.out.trans (HB6.out.mono HB5.out.size)).mono HG.out.size)) (hpp4 (by intro e; rw [e] at hs; simp at hs)).2
              exact ⟨hb.1, Nat.lt_of_lt_of_le (hpp4 (by intro e; rw [e] at hs; simp at hs)).2 (HG.out.trans ((HB5.out.trans (HB6.out.mono HB5.out.size)).mono HG.out.size)).size, hw.trans hb.2.1, hw1.trans hb.2.2.1, hw2.trans hb.2.2.2.1, hw3.trans hb.2.2.2.2⟩)
            go_upto_if 62 with fail
            go_cut [7] (fun s7 wx => s7 = .pointer (some ⟨wr.heap.size, 0, none⟩) ∧ Hid (Blk wx wr.heap.size 72 #[.int .i64 (sumAt x.sums k).1.1, .int .i64 (sumAt x.sums k).1.2, .int .i64 (sumAt x.sums k).2.1, .int .i64 (sumAt x.sums k).2.2]) ∧ Hid (Below wr.heap.size wr wx))
            case first =>
              by_cases hs : k < x.sums.length
              · have hsz2 : (k : Int) < (x.sums.length : Int) := by omega
                obtain ⟨rfl, hbl4, y0, y1, y2, y3⟩ := HD4.out hs
                have hA : Hid (sumAt x.sums k = smQ x.sums[k]) := Lib.hid (by unfold sumAt; rw [List.getElem?_eq_getElem hs])
                obtain ⟨e0, e1, e2, e3, e4, e5⟩ := wraps_q _ (HSMQ.out _ (List.getElem_mem hs))
                go_wp2_with fail
                go_meet
                rw [hA.out]
                exact ⟨rfl, Lib.hid ((Blk.new wr 72 _).alloc _), Lib.hid ((below_box _).trans ((below_box _).mono (by simp)))⟩
              · have hsz2 : (x.sums.length : Int) ≤ (k : Int) := by omega
                have hA : Hid (sumAt x.sums k = ((0, 0), (0, 0))) := Lib.hid (by unfold sumAt; rw [List.getElem?_eq_none (by omega)])
                go_wp2_with fail
                go_meet
                rw [hA.out]
                exact ⟨rfl, Lib.hid (Blk.new _ _ _), Lib.hid (below_box _)⟩
            case rest =>
              obtain ⟨rfl, HSB, HBS⟩ := hcut
              have hkl : k < x.kids.length := by omega
              obtain ⟨bk, ok, cap', he, hbk, hlz, y0⟩ := at_byte H2.out k hkl
              injection he with he1 he2 he3
              subst he1 he3
              clear he2
              have hb9 : Below w.heap.size w w5 := HG.out.trans (HB5.out.mono HG.out.size)
              have hbk5 : bk < w5.heap.size := Nat.lt_of_lt_of_le hbk hb9.size
              have hxl5 : w.heap.size < w5.heap.size := Nat.lt_of_lt_of_le HX.out.lt HB5.out.size
              have HMID := Lib.hid (Mid.mk (w5 := w5) (b := b) (sb := wr.heap.size) (sm := sumAt x.sums k) (HB.out.below HBS.out hbl) HSB.out (HB6.out.trans (HBS.out.mono HB6.out.size)))
              have hx1b : ∀ wx, Mid w5 b wr.heap.size #[.slice none 0 0, .slice p6 L c6, vk, vs, .slice a2 (listS x.buf 12).length k2] (sumAt x.sums k) wx → wx.cell? ⟨w.heap.size, 1, none⟩ = some (.slice (some ⟨bk, ok, none⟩) x.kids.length c2) := fun wx h => ((HX.out.below HB5.out HX.out.lt).below h.g hxl5).c0 1 _ rfl
              have hkb : ∀ wx, Mid w5 b wr.heap.size #[.slice none 0 0, .slice p6 L c6, vk, vs, .slice a2 (listS x.buf 12).length k2] (sumAt x.sums k) wx → wx.cell? ⟨bk, ok + k, none⟩ = some (.int .u8 (x.kids[k].toNat)) := fun wx h => (h.g.cell (p := ⟨bk, ok + k, none⟩) hbk5).trans ((hb9.cell (p := ⟨bk, ok + k, none⟩) hbk).trans y0)
              have hklz : (k : Int) < (x.kids.length : Int) := by omega
              obtain ⟨kid, hkid, hk256⟩ : ∃ kid : Nat, kid = x.kids[k].toNat ∧ kid < 256 := ⟨_, rfl, x.kids[k].toNat_lt⟩
              rw [← hkid] at hkb
              have HKk : Hid (kidsQ x (k + 1) = kidsQ x k ++ [(kid : Int)]) := Lib.hid (by unfold kidsQ; rw [List.take_succ_eq_append_getElem hkl, List.map_append, hkid]; rfl)
              have HSk : Hid (sumsQ x (k + 1) = sumsQ x k ++ [sumAt x.sums k]) := Lib.hid (by unfold sumsQ; rw [List.range_succ, List.map_append]; rfl)
              have hI := owns_below HK.out HBS.out
              have hU := owns_below HSm.out HBS.out
              have hO : OwnM _ _ _ _ := owns_below HO.out HBS.out
              have hVS : Hid (∀ j, vs.ownBlock = some j → j < wr.heap.size) := Lib.hid (fun j hj => (HSm.out.lt j hj).2)
              have hkl6 : (kidsQ x k).length ≤ 1000000 := by unfold kidsQ; rw [List.length_map, List.length_take]; omega
              have hsl6 : (sumsQ x k).length ≤ 1000000 := by unfold sumsQ; rw [List.length_map, List.length_range]; omega
              have FIN : Hid (∀ (p9 : Option Addr) (c9 : Nat) (p14 : Option Addr) (c14 : Nat) (wx : World), Mid w5 b wr.heap.size #[.slice none 0 0, .slice p6 L c6, vk, vs, .slice a2 (listS x.buf 12).length k2] (sumAt x.sums k) wx →
                  wx.ownsRow w5.heap.size 3 1 (.slice p9 ((kidsQ x k).length + 1) c9) ((kidsQ x k).length + 1) ((kidsQ x k ++ [(kid : Int)]).flatMap encI) →
                  wx.ownsRow w5.heap.size 72 4 (.slice p14 ((sumsQ x k).length + 1) c14) ((sumsQ x k).length + 1) ((sumsQ x k ++ [sumAt x.sums k]).flatMap encSm) →
                  OwnM wx w5.heap.size (.slice a2 (listS x.buf 12).length k2) (listS x.buf 12) →
                  Hid (Blk ((wx.setCell ⟨b, 2, none⟩ (.slice p9 ((kidsQ x k).length + 1) c9)).setCell ⟨b, 3, none⟩ (.slice p14 ((sumsQ x k).length + 1) c14)) b 43 #[.slice none 0 0, .slice p6 L c6, .slice p9 ((kidsQ x k).length + 1) c9, .slice p14 ((sumsQ x k).length + 1) c14, .slice a2 (listS x.buf 12).length k2]) ∧
                  Hid (OwnM ((wx.setCell ⟨b, 2, none⟩ (.slice p9 ((kidsQ x k).length + 1) c9)).setCell ⟨b, 3, none⟩ (.slice p14 ((sumsQ x k).length + 1) c14)) w5.heap.size (.slice a2 (listS x.buf 12).length k2) (listS x.buf 12)) ∧
                  Hid (((wx.setCell ⟨b, 2, none⟩ (.slice p9 ((kidsQ x k).length + 1) c9)).setCell ⟨b, 3, none⟩ (.slice p14 ((sumsQ x k).length + 1) c14)).ownsRow w5.heap.size 3 1 (.slice p9 ((kidsQ x k).length + 1) c9) (kidsQ x (k + 1)).length ((kidsQ x (k + 1)).flatMap encI)) ∧
                  Hid (((wx.setCell ⟨b, 2, none⟩ (.slice p9 ((kidsQ x k).length + 1) c9)).setCell ⟨b, 3, none⟩ (.slice p14 ((sumsQ x k).length + 1) c14)).ownsRow w5.heap.size 72 4 (.slice p14 ((sumsQ x k).length + 1) c14) (sumsQ x (k + 1)).length ((sumsQ x (k + 1)).flatMap encSm)) ∧
                  Hid (Below w5.heap.size w5 ((wx.setCell ⟨b, 2, none⟩ (.slice p9 ((kidsQ x k).length + 1) c9)).setCell ⟨b, 3, none⟩ (.slice p14 ((sumsQ x k).length + 1) c14)))) := Lib.hid (fun p9 c9 p14 c14 wx h o9 o14 oM => by
                rw [HKk.out, HSk.out, len_one, len_one]
                have b2 := h.n.setCell 2 (.slice p9 ((kidsQ x k).length + 1) c9)
                exact ⟨Lib.hid (b2.setCell 3 _), Lib.hid (own_put (own_put oM h.n (by decide)) b2 (by decide)), Lib.hid (own_put (own_put o9 h.n (by decide)) b2 (by decide)), Lib.hid (own_put (own_put o14 h.n (by decide)) b2 (by decide)), Lib.hid ((h.g.setCell hbb _).setCell hbb _)⟩)
              clear HB HO HK HSm HB6 HSB HBS HKk HSk y0 hkid HX hx3 hx1 q0 q1 q2 q3 q4 f0 f1 f2 f3 f4 HN9 n0 n1 n2 n3 n4 g0 g1 g2 g3 g4 HD4
              go_wp2_with fail
              refine regM17_w w5 _ w.heap.size b wr.heap.size k kid bk ok x.kids.length c2 w5.heap.size (sumAt x.sums k) (.slice none 0 0) (.slice p6 L c6) (.slice a2 (listS x.buf 12).length k2) vk vs (.slice a2 (listS x.buf 12).length k2) (kidsQ x k) (sumsQ x k) (listS x.buf 12) rfl HMID.out hx1b hkb hklz hlz hk256 hI hU hO hVS.out hkl6 hsl6 _ _ _ _ _ _ _ _ _ _ _ _ _ _ _ _ _ _ _ _ _ _ _ _ _ _ _ _ _ _ _ _ _ _ _ _ _ _ _ _ _ _ _ _ _ _ _ _ _ _ _ _ _ _ _ _ _ _ _ _ _ _ _ _ _ _ _ _ _ _ _ _ _ _ _ _ _ _ _ _ _ _ _ _ _ _ _ _ _ _ _ _ _ _ _ _ _ _ _ _ _ _ _ _ _ _ ?_
              intro t91 t92 t93 t94 t95 t96 t97 t98 t99 t100 t101 t102 t103 t104 t105 t106 t107 p9 c9 p14 c14 wx hM ho9 ho14 hO9
              have HF := Lib.hid (FIN.out _ _ _ _ _ hM ho9 ho14 hO9)
              clear hM ho9 ho14 hO9
              go_wp2_with fail
              go_roundw
              case rel => exact ⟨k + 1, _, _, by omega, by go_num, HF.out⟩
              case measure => simp [intOf]; omega
          · have hltz : (L : Int) < (k : Int) := by omega
            obtain rfl : k = L + 1 := by omega
            have HKQ : Hid ((madeQ x).kids = kidsQ x (L + 1)) := Lib.hid (by rw [made_inner hk, HLp.out]; rfl)
            have HSQ : Hid ((madeQ x).sums = sumsQ x (L + 1)) := Lib.hid (by rw [made_inner hk, HLp.out]; rfl)
            obtain ⟨pk, ck, rfl⟩ := own_slice HK.out
            obtain ⟨pz, cz, rfl⟩ := own_slice HSm.out
            have hB := blk_st5 (y0 := .slice none 0 0) (y1 := .slice p6 L c6) (y2 := .slice pk (kidsQ x (L + 1)).length ck) (y3 := .slice pz (sumsQ x (L + 1)).length cz) (y4 := .slice a2 (listS x.buf 12).length k2) HN9.out
            have oK := own_st5 (y0 := .slice none 0 0) (y1 := .slice p6 L c6) (y2 := .slice pk (kidsQ x (L + 1)).length ck) (y3 := .slice pz (sumsQ x (L + 1)).length cz) (y4 := .slice a2 (listS x.buf 12).length k2) HK.out HN9.out (by decide)
            have oS := own_st5 (y0 := .slice none 0 0) (y1 := .slice p6 L c6) (y2 := .slice pk (kidsQ x (L + 1)).length ck) (y3 := .slice pz (sumsQ x (L + 1)).length cz) (y4 := .slice a2 (listS x.buf 12).length k2) HSm.out HN9.out (by decide)
            have oM := own_st5 (y0 := .slice none 0 0) (y1 := .slice p6 L c6) (y2 := .slice pk (kidsQ x (L + 1)).length ck) (y3 := .slice pz (sumsQ x (L + 1)).length cz) (y4 := .slice a2 (listS x.buf 12).length k2) HO.out HN9.out (by decide)
            have hbel := below_st5 (y0 := .slice none 0 0) (y1 := .slice p6 L c6) (y2 := .slice pk (kidsQ x (L + 1)).length ck) (y3 := .slice pz (sumsQ x (L + 1)).length cz) (y4 := .slice a2 (listS x.buf 12).length k2) (HG.out.trans ((HB5.out.trans (HB6.out.mono HB5.out.size)).mono HG.out.size)) (Nat.le_succ w.heap.size)
            have hP5 : IsStrs wr (.slice p6 L c6) (pivsQ x) := by
              have h := strs_take HS5.out L hL2
              rw [HLP.out] at h
              exact h.below (HB6.out)
            have hP6 := strs_st5 (y0 := .slice none 0 0) (y1 := .slice p6 L c6) (y2 := .slice pk (kidsQ x (L + 1)).length ck) (y3 := .slice pz (sumsQ x (L + 1)).length cz) (y4 := .slice a2 (listS x.buf 12).length k2) hP5 HN9.out
            have HH := Lib.hid (And.intro hB (And.intro oK (And.intro oS (And.intro oM (And.intro hbel hP6)))))
            clear hB oK oS oM hbel hP5 hP6
            go_wp2_with fail
            obtain ⟨hB, oK, oS, oM, hbel, hP6⟩ := HH.out
            obtain ⟨z0, z1, z2, z3, z4, -, -, -, -, -⟩ := five_ok hB
            refine bodyPost_ret (v := .agg #[.slice none 0 0, .slice p6 L c6, .slice pk (kidsQ x (L + 1)).length ck, .slice pz (sumsQ x (L + 1)).length cz, .slice a2 (listS x.buf 12).length k2]) (by simp [results, Try.results12, go_sem, z0, z1, z2, z3, z4]) rfl ?_
            refine ⟨_, rfl, ?_, hbel⟩
            have hbs : w.heap.size ≤ w5.heap.size := (HG.out.trans (HB5.out.mono HG.out.size)).size
            have e0 : (madeQ x).pairs = [] := by rw [made_inner hk]
            have e1 : (madeQ x).pivots = pivsQ x := by rw [made_inner hk]
            have e4 : (madeQ x).buf = listS x.buf 12 := by rw [made_inner hk]
            refine ⟨_, _, _, _, _, rfl, ⟨_, _, _, _, _, rfl, ?_, ?_, ?_, ?_, ?_⟩, ?_, ?_⟩
            · rw [e0]; exact nil_pairs _
            · rw [e1]; exact hP6
            · rw [HKQ.out]; exact IsInts.owned oK
            · rw [HSQ.out]; exact IsSums.owned oS
            · rw [e4]; exact OwnM.msgs oM
            · rw [HSQ.out]; exact owns_baseG hbs oS
            · rw [e4]; exact owns_baseG hbs oM

end Go.Proofs.Ythpajecigkfajaa
