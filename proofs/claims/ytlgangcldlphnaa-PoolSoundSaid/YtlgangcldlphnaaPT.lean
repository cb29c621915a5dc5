/-
  Walks: reference 11: Add (gen_pt.py).
-/
import Derived.Test.YtlgangcldlphnaaPS
import Derived.Test.YtlgangcldlphnaaPH
namespace Go.Proofs.Ytlgangcldlphnaa
open Go.RowKit Go.Sort
set_option linter.unusedVariables false
set_option maxRecDepth 100000

/-- A row of slots to which one, zero, is appended: only the row is written. -/
theorem append_zeroG {w0 w : World} {ops : Array Oper} {rest : List Oper} {o : Oper} {a : Act} {Q : Exit → Act → World → Prop} (hgd : o.guard = none) (s x : Operand)
    (ho : o.op = .call { callee := .builtin .append, args := #[s, x], argTypes := #[27, 27] }) (base : Nat) (v : Value) (P : List Sl) (hs : a.eval s = v) (hown : OwnF w0 w base v P)
    (nb : Nat) (hx : a.eval x = .slice (some ⟨nb, 0, none⟩) 1 1) (hnb : nb = w.heap.size) (hl : P.length ≤ 1000000) (hbase : base ≤ w.heap.size)
    (h : ∀ v' w' R, R = P ++ [zSl] → OwnF w0 w' base v' R → (w.alloc (.cells #[.bool false, .bool false, .int .i64 0, .slice none 0 0, .slice none 0 0, .slice none 0 0, .slice none 0 0, .slice none 0 0] 61)).grownBy w' v.ownBlock → wpList Try.prog ops Q rest (a.put o.dst v') w') : wpList Try.prog ops Q (o :: rest) a (w.alloc (.cells #[.bool false, .bool false, .int .i64 0, .slice none 0 0, .slice none 0 0, .slice none 0 0, .slice none 0 0, .slice none 0 0] 61)) := by
  subst hnb
  obtain ⟨L, hL, hrow⟩ := hown
  obtain ⟨i0, hi, hz0, hz1, hz2⟩ := info_parts infoSl
  have hB : Blk (w.alloc (.cells #[.bool false, .bool false, .int .i64 0, .slice none 0 0, .slice none 0 0, .slice none 0 0, .slice none 0 0, .slice none 0 0] 61)) w.heap.size 61 (encV zSv).toArray := Blk.new _ _ _
  refine wpList_append_own _ hgd s x 27 ho base 61 i0 (.agg #[.bool false, .bool false, .int .i64 0, .slice none 0 0, .slice none 0 0, .slice none 0 0, .slice none 0 0, .slice none 0 0]) 8 136 Try.underlying27 hi hz0 hz1 hz2 rfl (by decide) v P.length (L.flatMap encV) hs (hrow.alloc _) ⟨w.heap.size, 0, none⟩ 1 1 (encV zSv) hx rfl ?_ (encV_one zSv) (by unfold maxLen; omega) (by omega) (by simp; omega) ?_
  · refine cells_at fun j u hj => ?_
    rw [hB.cell]
    simpa using hj
  · intro v' w' h1 h2 _
    refine h v' w' _ rfl ⟨L ++ [zSv], hL.push, ?_⟩ h2
    rw [List.length_append, List.flatMap_append]
    simpa using h1
theorem grown_blk {w w' : World} {row : Option Nat} (h : w.grownBy w' row) {b : Nat} {T : TypeId} {cs : Array Value} (hb : Blk w b T cs) (hne : row ≠ some b) : Blk w' b T cs := by
  unfold Blk at *
  rw [h.block b (Blk.lt hb) (fun e => hne e.symm)]; exact hb
theorem three_ok {w : World} {b : Nat} {T : TypeId} {x0 x1 x2 : Value} (h : Blk w b T #[x0, x1, x2]) :
    w.cell? ⟨b, 0, none⟩ = some x0 ∧ w.cell? ⟨b, 1, none⟩ = some x1 ∧ w.cell? ⟨b, 2, none⟩ = some x2 ∧ w.frozen? ⟨b, 0, none⟩ = false ∧ w.frozen? ⟨b, 1, none⟩ = false ∧ w.frozen? ⟨b, 2, none⟩ = false :=
  ⟨h.c0 0 _ rfl, h.c0 1 _ rfl, h.c0 2 _ rfl, h.free 0, h.free 1, h.free 2⟩
theorem blk_set3 {w : World} {b : Nat} {T : TypeId} {x0 x1 x2 : Value} (h : Blk w b T #[x0, x1, x2]) (y0 y1 y2 : Value) : Blk (((w.setCell ⟨b, 0, none⟩ y0).setCell ⟨b, 1, none⟩ y1).setCell ⟨b, 2, none⟩ y2) b T #[y0, y1, y2] :=
  ((h.setCell 0 y0).setCell 1 y1).setCell 2 y2
theorem below_set3 {B : Nat} {w wx : World} (h : Below B w wx) (b : Nat) (hb : B ≤ b) (y0 y1 y2 : Value) : Below B w (((wx.setCell ⟨b, 0, none⟩ y0).setCell ⟨b, 1, none⟩ y1).setCell ⟨b, 2, none⟩ y2) :=
  ((h.setCell hb y0).setCell hb y1).setCell hb y2
theorem all_snoc {P : List Sl} {l : List Int} {k : Nat} (hk : k < l.length) : (l.take (k + 1)).all (usedB P) = ((l.take k).all (usedB P) && usedB P l[k]) := by
  rw [List.take_succ_eq_append_getElem hk, List.all_append]; simp
set_option maxHeartbeats 8000000 in
theorem raddF_w (v nv : Value) (P : List Sl) (n : Nd) (w0 w : World) (h0 : SlF w0 w v P) (h : IsSlots w v P) (hn : IsNode w0 nv n) (hnw : IsNode w nv n) (hl : P.length ≤ 4096) (hk : n.kids.length ≤ 1000000) (hr : ∀ i, (atP P i).used = true → 0 ≤ (atP P i).refs ∧ (atP P i).refs ≤ 1000000000) :
    Calls Try.prog 16 #[poolV v, nv] w fun e w' => ∃ v', e = .returned (.agg #[v', .int .i64 (addP P n).2.1, .int .i64 (addP P n).2.2]) ∧ SlOut w0 w w' v v' (addP P n).1 := by
  have mixed := mixedA
  have H0 := Lib.hid h0
  obtain ⟨s, rfl, hs1, hs2, hs3, hs⟩ := hn.sl true false 1
  have hkl := hs.lens.2.2.1
  obtain ⟨su, sl, sr, sa, sb, ⟨ca, cn, cc⟩, sd, se⟩ := s
  simp only at hs1 hs2 hs3 hkl
  subst hs1 hs2 hs3 hkl
  have HS := Lib.hid hs
  have H := Lib.hid h
  have HKI : Hid (IsInts w (.slice ca n.kids.length cc) n.kids) := Lib.hid (by obtain ⟨_, _, _, _, _, e, _, _, h3, _, _⟩ := hnw; injection e with e; injection e with e; injection e with _ e; injection e with _ e; injection e with e _; rw [← e] at h3; exact h3)
  obtain ⟨a, cap, rfl, hlc, hcm, hpm⟩ := h.slice
  clear h hn hs h0 hnw
  obtain ⟨W1, hW1⟩ : ∃ W1, W1 = (((w.alloc (.cells #[.slice a P.length cap] 29)).alloc (.cells #[slv sa, slv sb, .slice ca n.kids.length cc, slv sd, slv se] 39)).alloc (.cells #[.slice none 0 0, .int .i64 0, .int .i64 0] 44)) := ⟨_, rfl⟩
  have HB0 : Hid (Below w.heap.size w W1) := Lib.hid (by rw [hW1]; exact (((Grown.refl w).alloc _).alloc _ |>.alloc _).below (Nat.le_refl _))
  have HP : Hid (Blk W1 w.heap.size 29 #[.slice a P.length cap]) := Lib.hid (by rw [hW1]; exact ((Blk.new _ _ _).alloc _).alloc _)
  have HN : Hid (Blk W1 (w.heap.size + 1) 39 #[slv sa, slv sb, .slice ca n.kids.length cc, slv sd, slv se]) := Lib.hid (by rw [hW1]; exact (Blk.new' _ _ _ (by simp)).alloc _)
  have HR : Hid (Blk W1 (w.heap.size + 2) 44 #[.slice none 0 0, .int .i64 0, .int .i64 0]) := Lib.hid (by rw [hW1]; exact Blk.new' _ _ _ (by simp))
  have HW1 := Lib.hid hW1
  clear hW1
  have HUS := Lib.hid (fun i wx (hx : Below w.heap.size w wx) => rused_w (.slice a P.length cap) P i wx (H.out.below hx))
  have HCL := Lib.hid (fun wx (hx : Below w.heap.size w wx) => copiedF_w (.slice a P.length cap) P w0 wx (H0.out.below hx) (by omega))
  obtain ⟨f, hf⟩ : ∃ f : Nat, freeI P = f := ⟨_, rfl⟩
  have hfl : f ≤ P.length := by rw [← hf]; exact freeI_le P
  have Hf := Lib.hid hf
  have HFB : Hid (∀ i, i < f → (atP P i).used = true) := Lib.hid (fun i hi => freeI_before (by rw [hf]; exact hi))
  have HFU : Hid ((atP P f).used = false) := Lib.hid (by rw [← hf]; exact freeI_used P)
  have hkm : (n.kids.length : Int) ≤ 1000000 := by omega
  clear hf
  go_enter Try.func16, Try.ntmps16
  go_wp2_with fail
  rw [← HW1.out]
  go_loopw [5] (fun i wr => ∃ k : Nat, k ≤ n.kids.length ∧ i = .int .i64 k ∧ Hid (Below W1.heap.size W1 wr) ∧ Hid ((n.kids.take k).all (usedB P) = true)) (fun i _ => n.kids.length - (intOf i).toNat)
  case atStart => exact ⟨0, Nat.zero_le _, rfl, Lib.hid (Below.refl _ _), Lib.hid rfl⟩
  case round =>
    obtain ⟨k, hkk, rfl, HB, HA⟩ := hrel
    have HBw : Hid (Below w.heap.size w wr) := Lib.hid (HB0.out.trans (HB.out.mono HB0.out.size))
    have HNr := Lib.hid (HN.out.below HB.out HN.out.lt)
    have HPr := Lib.hid (HP.out.below HB.out HP.out.lt)
    have HRr := Lib.hid (HR.out.below HB.out HR.out.lt)
    by_cases hlt : k < n.kids.length
    · obtain ⟨b5, off5, cap5, he, hbl5, hlz5, x0⟩ := at_int (HKI.out.below HBw.out) k hlt
      injection he with he1 he2 he3
      subst he1 he3
      clear he2
      have hltz : (k : Int) < (n.kids.length : Int) := by omega
      have HSN := Lib.hid (all_snoc (P := P) hlt)
      have HNO : Hid (usedB P n.kids[k] = false → n.kids.all (usedB P) = false) := Lib.hid (fun h => List.all_eq_false.2 ⟨_, List.getElem_mem hlt, by rw [h]; simp⟩)
      generalize n.kids[k] = kid at *
      have n2p : wr.cell? ⟨w.heap.size + 1, 2, none⟩ = some (.slice (some ⟨b5, off5, none⟩) n.kids.length cc) := HNr.out.c0 2 _ rfl
      have x0 := cell_all x0
      have n2 := cell_all (show wr.cell? ⟨w.heap.size + 1, 2, none⟩ = some (.slice (some ⟨b5, off5, none⟩) n.kids.length cc) from HNr.out.c0 2 _ rfl)
      have p0 := cell_all (show wr.cell? ⟨w.heap.size, 0, none⟩ = some (.slice a P.length cap) from HPr.out.c0 0 _ rfl)
      have HL0 : Hid (Below wr.heap.size wr wr) := Lib.hid (Below.refl _ _)
      have HU := Lib.hid (HUS.out kid)
      obtain ⟨q, hq⟩ : ∃ q, usedB P kid = q := ⟨_, rfl⟩
      rw [hq] at HU HSN HNO
      clear hq
      cases q
      · have HNO2 := Lib.hid (HNO.out (by first | exact rfl | exact trivial))
        clear HNO
        go_wp2_with fail
        go_region_held3 (fun wx => Below wr.heap.size wr wx)
          (repeat (first | with_reducible assumption | with_reducible exact HL0.out | with_reducible refine Below.drew ?_ | with_reducible refine keepP ?_ _))
          (first | (go_at_call 34; (refine (HU.out _ (HBw.out.trans (Below.mono (by repeat (first | with_reducible assumption | with_reducible exact HL0.out | with_reducible refine Below.drew ?_ | with_reducible refine keepP ?_ _)) HBw.out.size))).mono ?_); rintro e w3 ⟨rfl, hb3⟩; have hS3 : Below wr.heap.size wr w3 := Below.next (by repeat (first | with_reducible assumption | with_reducible exact HL0.out | with_reducible refine Below.drew ?_ | with_reducible refine keepP ?_ _)) (Nat.le_refl _) hb3) | fail "no arm")
        have HS3 := Lib.hid hS3
        have p3 : w3.cell? ⟨w.heap.size, 0, none⟩ = some (.slice a P.length cap) := p0 _ hS3
        have HR3 := Lib.hid (HRr.out.below hS3 HRr.out.lt)
        have hc := three_ok HR3.out
        obtain ⟨r0, r1, r2, g0, g1, g2⟩ := hc
        clear x0 n2 n2p p0 hS3 hb3
        go_wp2
        obtain ⟨z0, z1, z2, -⟩ := three_ok (blk_set3 HR3.out (.slice a P.length cap) (.int .i64 0) (.int .i64 110))
        refine bodyPost_ret (v := .agg #[.slice a P.length cap, .int .i64 0, .int .i64 110]) (by simp [results, Try.results16, go_sem, z0, z1, z2]) rfl ?_
        have HG : Hid (addP P n = (P, 0, 110)) := Lib.hid (by unfold addP; rw [if_neg (by rw [HNO2.out]; simp)])
        rw [HG.out]
        have hB := below_set3 (HBw.out.trans (HS3.out.mono HBw.out.size)) (w.heap.size + 2) (by omega) (.slice a P.length cap) (.int .i64 0) (.int .i64 110)
        exact ⟨_, rfl, H0.out.below hB, fun b hb => .inl rfl, hB⟩
      · have HA2 : Hid ((n.kids.take (k + 1)).all (usedB P) = true) := Lib.hid (by rw [HSN.out, HA.out]; rfl)
        clear HNO HSN
        go_wp2_with fail
        go_region_held3 (fun wx => Below wr.heap.size wr wx)
          (repeat (first | with_reducible assumption | with_reducible exact HL0.out | with_reducible refine Below.drew ?_ | with_reducible refine keepP ?_ _))
          (first | (go_at_call 34; (refine (HU.out _ (HBw.out.trans (Below.mono (by repeat (first | with_reducible assumption | with_reducible exact HL0.out | with_reducible refine Below.drew ?_ | with_reducible refine keepP ?_ _)) HBw.out.size))).mono ?_); rintro e w3 ⟨rfl, hb3⟩; have hS3 : Below wr.heap.size wr w3 := Below.next (by repeat (first | with_reducible assumption | with_reducible exact HL0.out | with_reducible refine Below.drew ?_ | with_reducible refine keepP ?_ _)) (Nat.le_refl _) hb3) | fail "no arm")
        have HS3 := Lib.hid hS3
        clear x0 n2 n2p p0 hS3 hb3
        go_wp2
        go_roundw
        case rel => exact ⟨k + 1, by omega, by go_num, Lib.hid (HB.out.trans (HS3.out.mono HB.out.size)), HA2⟩
        case measure => simp [intOf]; omega
    · obtain rfl : k = n.kids.length := by omega
      rw [List.take_length] at HA
      obtain ⟨wo, rfl⟩ : ∃ wo : World, wo = wr := ⟨_, rfl⟩
      have p0 : wo.cell? ⟨w.heap.size, 0, none⟩ = some (.slice a P.length cap) := HPr.out.c0 0 _ rfl
      obtain ⟨n0, n1, n2, n3, n4, -⟩ := p5_ok HNr.out
      go_wp2_with fail
      go_loop [6] (fun i => ∃ j : Nat, j ≤ f ∧ i = .int .i64 j) (fun i => f - (intOf i).toNat)
      case atStart => exact ⟨0, Nat.zero_le _, rfl⟩
      case round =>
        obtain ⟨j, hj, rfl⟩ := hrel
        by_cases hjf : j < f
        · obtain ⟨bb, off, cap', s, he, hbl, hlz, hs, x0, -⟩ := slot_at (H.out.below HBw.out) j (by omega)
          injection he with he1 he2 he3
          subst he1 he3
          clear he2
          have hjz : (j : Int) < (P.length : Int) := by omega
          rw [hs.used, HFB.out j hjf] at x0
          clear hs
          go_wp2
          go_round
          case rel => exact ⟨j + 1, by omega, by go_num⟩
          case measure => simp [intOf]; omega
        · obtain rfl : j = f := by omega
          clear hjf hj
          by_cases hfe : j = P.length
          · have e1 : ((j : Int) == (P.length : Int)) = true := by rw [hfe]; simp
            have hjz : (P.length : Int) ≤ (j : Int) := by omega
            by_cases hfull : 4096 ≤ j
            · have HG : Hid (addP P n = (P, 0, 111)) := Lib.hid (by unfold addP; rw [if_pos HA.out, if_pos (by rw [Hf.out]; omega)])
              have e2 : (4096 : Int) ≤ (j : Int) := by omega
              have hc := three_ok HRr.out
              obtain ⟨r0, r1, r2, g0, g1, g2⟩ := hc
              clear hfe
              go_wp2
              obtain ⟨z0, z1, z2, -⟩ := three_ok (blk_set3 HRr.out (.slice a P.length cap) (.int .i64 0) (.int .i64 111))
              refine bodyPost_ret (v := .agg #[.slice a P.length cap, .int .i64 0, .int .i64 111]) (by simp [results, Try.results16, go_sem, z0, z1, z2]) rfl ?_
              rw [HG.out]
              have hB := below_set3 HBw.out (w.heap.size + 2) (by omega) (.slice a P.length cap) (.int .i64 0) (.int .i64 111)
              exact ⟨_, rfl, H0.out.below hB, fun b hb => .inl rfl, hB⟩
            · have HG : Hid (addP P n = (heldP ((P ++ [zSl]).set j ⟨true, false, 1, n⟩) n.kids, (j : Int), 0)) := Lib.hid (by unfold addP; rw [if_pos HA.out, if_neg (by rw [Hf.out]; omega)]; unfold placeP; rw [Hf.out, if_pos hfe])
              have e2 : (j : Int) < 4096 := by omega
              have HQA : Hid (∀ i, atP (P ++ [zSl]) i = atP P i) := Lib.hid (fun i => atP_push P i)
              have hfq : j < (P ++ [zSl]).length ∧ P.length ≤ (P ++ [zSl]).length ∧ (P ++ [zSl]).length ≤ 4097 := by rw [List.length_append]; simp; omega
              have HFE := Lib.hid hfe
              clear hfe
              go_wp2_with fail
              refine (HCL.out _ HBw.out).mono ?_
              rintro e w3 ⟨v3, rfl, hown, hb⟩
              obtain ⟨a3, cap3, rfl, -⟩ := hown.form
              have HO := Lib.hid hown
              have HB3 := Lib.hid hb
              have HOA : Hid (OwnF w0 (w3.alloc (.cells #[.slice a3 P.length cap3] 29)) wo.heap.size (.slice a3 P.length cap3) P) := Lib.hid (hown.below (below_box _))
              have HXA : Hid (Blk (w3.alloc (.cells #[.slice a3 P.length cap3] 29)) w3.heap.size 29 #[.slice a3 P.length cap3]) := Lib.hid (Blk.new _ _ _)
              have HXN : Hid ((Value.slice a3 P.length cap3).ownBlock ≠ some w3.heap.size) := Lib.hid (fun e => by obtain ⟨L, _, h4⟩ := hown; have := (h4.lt _ e).2; omega)
              have HSZA : Hid (wo.heap.size ≤ (w3.alloc (.cells #[.slice a3 P.length cap3] 29)).heap.size) := Lib.hid (by have := hb.size; simp; omega)
              have HNB : Hid (w3.heap.size + 1 = (w3.alloc (.cells #[.slice a3 P.length cap3] 29)).heap.size) := Lib.hid (by simp)
              have HPL : Hid (P.length ≤ 1000000) := Lib.hid (by omega)
              clear hown hb p0
              go_upto_region 14 with (at_builtin; refine append_zeroG rfl _ _ rfl wo.heap.size _ P rfl HOA.out (w3.heap.size + 1) rfl HNB.out HPL.out HSZA.out ?_; intro v5 w5 Q hQ hown hgr; have HQE := Lib.hid hQ; clear hQ; have hx5 := grown_blk hgr (HXA.out.alloc _) HXN.out; have HX5 := Lib.hid hx5; have HGR := Lib.hid hgr; obtain ⟨a5, cap5, rfl, hl5, hm5, hg5⟩ := hown.form; have HO5 := Lib.hid hown; have xc5 := hx5.c0 0 _ rfl; have xf5 := hx5.free 0; clear hown hgr hx5)
              have HB5 : Hid (Below wo.heap.size wo w5) := Lib.hid (by
                have h1 : Below wo.heap.size wo ((w3.alloc (.cells #[.slice a3 P.length cap3] 29)).alloc (.cells #[.bool false, .bool false, .int .i64 0, .slice none 0 0, .slice none 0 0, .slice none 0 0, .slice none 0 0, .slice none 0 0] 61)) := keepP (keepP HB3.out _) _
                exact h1.grown HGR.out h1.size (fun q hq => by obtain ⟨L, _, h4⟩ := HO.out; exact (h4.lt q hq).1))
              have HBN : Hid (∀ g, a5 = some ⟨g, 0, none⟩ → g ≠ w3.heap.size) := Lib.hid (by
                rintro g rfl e
                have h1 := HO5.out
                obtain ⟨L, _, h4⟩ := h1
                have h5 := HX5.out
                subst e
                rcases h4.2 with ⟨h', _⟩ | ⟨g', cap', cur, h', _, h6, _⟩
                · cases h'
                · injection h' with e1
                  injection e1 with e1
                  injection e1 with e1
                  subst e1
                  unfold Blk at h5
                  rw [h6] at h5
                  injection h5 with h5
                  injection h5 with _ h5
                  cases h5)
              rw [← HQE.out] at hfq HQA HG
              obtain ⟨hfq1, hfq2, hfq3⟩ := hfq
              obtain ⟨g, rfl⟩ := hg5 (by omega)
              have hgx := HBN.out g rfl
              clear hg5
              obtain ⟨w6, hw6⟩ : ∃ w6, w6 = w5.setCell ⟨w3.heap.size, 0, none⟩ (.slice (some ⟨g, 0, none⟩) Q.length cap5) := ⟨_, rfl⟩
              have HX6 : Hid (Blk w6 w3.heap.size 29 #[.slice (some ⟨g, 0, none⟩) Q.length cap5]) := Lib.hid (by rw [hw6]; exact HX5.out.setCell 0 _)
              have HO6 : Hid (OwnF w0 w6 wo.heap.size (.slice (some ⟨g, 0, none⟩) Q.length cap5) Q) := Lib.hid (by rw [hw6]; exact HO5.out.setOther _ _ _ (fun e => hgx (Option.some.inj e)))
              have HB6 : Hid (Below wo.heap.size wo w6) := Lib.hid (by rw [hw6]; exact HB5.out.setCell HB3.out.size _)
              rw [← hw6]
              clear hw6 xc5 xf5 HO5 HX5 HB5 HO HOA HXA
              have hfz : (j : Int) < (Q.length : Int) := by omega
              obtain ⟨hgb1, hgb2⟩ := HO6.out.blk
              obtain ⟨sv, hsv, hcs⟩ := HO6.out.at j (by omega)
              obtain ⟨c0, c1, c2, c3, c4, c5, c6, c7⟩ := hcs
              have f0 := HO6.out.free (j * 8)
              have f1 := HO6.out.free (j * 8 + 1)
              have f2 := HO6.out.free (j * 8 + 2)
              have f3 := HO6.out.free (j * 8 + 3)
              have f4 := HO6.out.free (j * 8 + 4)
              have f5 := HO6.out.free (j * 8 + 5)
              have f6 := HO6.out.free (j * 8 + 6)
              have f7 := HO6.out.free (j * 8 + 7)
              have HNr6 := Lib.hid (HNr.out.below HB6.out HNr.out.lt)
              clear n0 n1 n2 n3 n4
              obtain ⟨n0, n1, n2, n3, n4, -⟩ := p5_ok HNr6.out
              have x6 : w6.cell? ⟨w3.heap.size, 0, none⟩ = some (.slice (some ⟨g, 0, none⟩) Q.length cap5) := HX6.out.c0 0 _ rfl
              have hqm : (Q.length : Int) ≤ 9223372036854775807 := by omega
              clear hsv
              go_upto_region 15 with fail
              have HO7 := Lib.hid (HO6.out.slot j (by omega) HS.out)
              have HB7 := Lib.hid (below_st8s HB6.out g (j * 8) hgb1 ⟨true, false, 1, sa, sb, (ca, n.kids.length, cc), sd, se⟩)
              have HX7 := Lib.hid (blk_st8s HX6.out g (j * 8) ⟨true, false, 1, sa, sb, (ca, n.kids.length, cc), sd, se⟩ (fun e => hgx e.symm))
              have HQ4 : Hid (∀ (kk : Nat), usedB P (kk : Int) = true → kk < Q.length ∧ 0 ≤ (atP (Q.set j ⟨true, false, 1, n⟩) kk).refs ∧ (atP (Q.set j ⟨true, false, 1, n⟩) kk).refs ≤ 1000000000) := Lib.hid (fun kk hu => by
                rw [usedB_nat] at hu
                have h1 := used_lt hu
                have h2 := hr kk hu
                have h3 : kk ≠ j := by rintro rfl; rw [HFU.out] at hu; cases hu
                rw [atP_set kk (by omega), if_neg h3, HQA.out]
                exact ⟨by omega, h2⟩)
              clear c0 c1 c2 c3 c4 c5 c6 c7 f0 f1 f2 f3 f4 f5 f6 f7 n0 n1 n2 n3 n4 x6
              obtain ⟨w7, hw7⟩ : ∃ w7, w7 = st8s w6 g (j * 8) ⟨true, false, 1, sa, sb, (ca, n.kids.length, cc), sd, se⟩ := ⟨_, rfl⟩
              rw [← hw7] at HO7 HB7 HX7
              dsimp only [st8s] at hw7
              rw [← hw7]
              clear hw7
              obtain ⟨Q4, hQ4⟩ : ∃ Q4, Q4 = Q.set j ⟨true, false, 1, n⟩ := ⟨_, rfl⟩
              have HQ4L : Hid (Q4.length = Q.length) := Lib.hid (by rw [hQ4, List.length_set])
              rw [← hQ4] at HO7 HQ4 HG
              clear hQ4
              go_wp2_with fail
              go_loopw [8] (fun i wr => ∃ k : Nat, k ≤ n.kids.length ∧ i = .int .i64 k ∧ Hid (OwnF w0 wr wo.heap.size (.slice (some ⟨g, 0, none⟩) Q.length cap5) (heldP Q4 (n.kids.take k))) ∧ Hid (Below wo.heap.size wo wr) ∧ Hid (Blk wr w3.heap.size 29 #[.slice (some ⟨g, 0, none⟩) Q.length cap5])) (fun i _ => n.kids.length - (intOf i).toNat)
              case atStart => exact ⟨0, Nat.zero_le _, rfl, HO7, HB7, HX7⟩
              case round =>
                obtain ⟨k, hkk, rfl, HOr, HBr, HXr⟩ := hrel
                have HNy := Lib.hid (HNr.out.below HBr.out HNr.out.lt)
                have n2 : wr.cell? ⟨w.heap.size + 1, 2, none⟩ = some (.slice ca n.kids.length cc) := HNy.out.c0 2 _ rfl
                have x6 : wr.cell? ⟨w3.heap.size, 0, none⟩ = some (.slice (some ⟨g, 0, none⟩) Q.length cap5) := HXr.out.c0 0 _ rfl
                have HBw7 : Hid (Below w.heap.size w wr) := Lib.hid (HBw.out.trans (HBr.out.mono HBw.out.size))
                by_cases hlt : k < n.kids.length
                · obtain ⟨b5, off5, cap6, he, hbl5, hlz5, x0⟩ := at_int (HKI.out.below HBw7.out) k hlt
                  injection he with he1 he2 he3
                  subst he1 he3
                  clear he2
                  have hltz : (k : Int) < (n.kids.length : Int) := by omega
                  have hu' : usedB P n.kids[k] = true := List.all_eq_true.1 HA.out _ (List.getElem_mem hlt)
                  obtain ⟨kk, hkk2⟩ : ∃ kk : Nat, n.kids[k] = (kk : Int) := ⟨_, (Int.toNat_of_nonneg (usedB_lt hu').1).symm⟩
                  have HT : Hid (heldP Q4 (n.kids.take (k + 1)) = incP (heldP Q4 (n.kids.take k)) (kk : Int)) := Lib.hid (by rw [List.take_succ_eq_append_getElem hlt, hkk2, heldP_snoc])
                  rw [hkk2] at x0 hu'
                  obtain ⟨q1, q2, q3⟩ := HQ4.out kk hu'
                  have hqz : (kk : Int) < (Q.length : Int) := by omega
                  have hm := atP_heldP (P := Q4) (ks := n.kids.take k) (fun x hx => by
                    have h1 := usedB_lt (List.all_eq_true.1 HA.out x (List.mem_of_mem_take hx))
                    exact ⟨h1.1, by rw [HQ4L.out]; omega⟩) kk
                  have hcn : (n.kids.take k).count (kk : Int) ≤ k := Nat.le_trans List.count_le_length (by rw [List.length_take]; omega)
                  have hHL : (heldP Q4 (n.kids.take k)).length = Q.length := by rw [heldP_len, HQ4L.out]
                  obtain ⟨sv, hsv, hcs⟩ := HOr.out.at kk (by omega)
                  obtain ⟨-, -, c2, -, -, -, -, -⟩ := hcs
                  have f2 := HOr.out.free (kk * 8 + 2)
                  have hsr := hsv.refs
                  have hmr : (atP (heldP Q4 (n.kids.take k)) kk).refs = (atP Q4 kk).refs + ((n.kids.take k).count (kk : Int) : Nat) := by rw [hm]; rfl
                  obtain ⟨r, hr1⟩ : ∃ r, r = sv.refs := ⟨_, rfl⟩
                  rw [← hr1] at c2
                  have HT2 : Hid (heldP Q4 (n.kids.take (k + 1)) = (heldP Q4 (n.kids.take k)).set kk { atP (heldP Q4 (n.kids.take k)) kk with refs := r + 1 }) := Lib.hid (by rw [HT.out, hr1, hsr]; rfl)
                  have hr2 : 0 ≤ r ∧ r ≤ 2000000000 := by rw [hr1, hsr, hmr]; omega
                  obtain ⟨hr3, hr4⟩ := hr2
                  have hrw : IntKind.i64.wrap (r + 1) = r + 1 := IntWalk.i64_in _ (by omega)
                  clear hm hmr hsr hr1 hsv hcn q1 q2 q3 hu' hkk2
                  have HHL := Lib.hid hHL
                  clear hHL
                  go_wp2_with fail
                  go_region
                  go_wp2
                  go_roundw
                  case rel => exact ⟨k + 1, by omega, by go_num, Lib.hid (by rw [HT2.out]; exact (HOr.out.refs kk (by rw [HHL.out]; omega) (r + 1)).below (below_drewN _ 1)), Lib.hid ((HBr.out.setCell hgb1 _).drew), Lib.hid (HXr.out.setCell_other (fun e => hgx e.symm) _ _)⟩
                  case measure => simp [intOf]; omega
                · obtain rfl : k = n.kids.length := by omega
                  rw [List.take_length] at HOr
                  have hR := HRr.out.below HBr.out HRr.out.lt
                  have hc := three_ok hR
                  obtain ⟨r0, r1, r2, g0, g1, g2⟩ := hc
                  have HR8 := Lib.hid hR
                  have HL2 := Lib.hid HRr.out.lt
                  clear hR
                  go_wp2
                  obtain ⟨z0, z1, z2, -⟩ := three_ok (blk_set3 HR8.out (.slice (some ⟨g, 0, none⟩) Q.length cap5) (.int .i64 j) (.int .i64 0))
                  refine bodyPost_ret (v := .agg #[.slice (some ⟨g, 0, none⟩) Q.length cap5, .int .i64 j, .int .i64 0]) (by simp [results, Try.results16, go_sem, z0, z1, z2]) rfl ?_
                  rw [HG.out]
                  have hB := below_set3 HBw7.out (w.heap.size + 2) (by omega) (.slice (some ⟨g, 0, none⟩) Q.length cap5) (.int .i64 j) (.int .i64 0)
                  have hne : (Value.slice (some ⟨g, 0, none⟩) Q.length cap5).ownBlock ≠ some (w.heap.size + 2) := by have := HL2.out; intro e; have e2 : g = w.heap.size + 2 := Option.some.inj e; omega
                  exact ⟨_, rfl, (((HOr.out.setOther _ 0 _ hne).setOther _ 1 _ hne).setOther _ 2 _ hne).slF, fun b hb => .inr (by injection hb with hb; have := HBw.out.size; rw [← hb]; show w.heap.size ≤ g; omega), hB⟩
          · have e1 : ((j : Int) == (P.length : Int)) = false := by simp; omega
            have HG : Hid (addP P n = (heldP (P.set j ⟨true, false, 1, n⟩) n.kids, (j : Int), 0)) := Lib.hid (by unfold addP; rw [if_pos HA.out, if_neg (by rw [Hf.out]; omega)]; unfold placeP; rw [Hf.out, if_neg hfe])
            · have hjz : (j : Int) < (P.length : Int) := by omega
              have hfq1 : j < P.length := by omega
              have hfq2 : P.length ≤ P.length := Nat.le_refl _
              have hfq3 : P.length ≤ 4097 := by omega
              obtain ⟨bb, off, cap', s, he, hbl, hlz, hs, x0, -⟩ := slot_at (H.out.below HBw.out) j (by omega)
              injection he with he1 he2 he3
              subst he1 he3
              clear he2
              rw [hs.used, HFU.out] at x0
              have e2 : (j : Int) < 4096 := by omega
              clear hs
              go_wp2_with fail
              refine (HCL.out _ HBw.out).mono ?_
              rintro e w3 ⟨v3, rfl, hown, hb⟩
              obtain ⟨a5, cap5, rfl, hl5, hm5, hg5⟩ := hown.form
              obtain ⟨g, rfl⟩ := hg5 (by omega)
              have hgx : g ≠ w3.heap.size := by have := hown.blk.2; omega
              have HO := Lib.hid hown
              have HB3 := Lib.hid hb
              clear hown hb p0 hg5 x0
              go_upto_region 14 with fail
              obtain ⟨w6, hw6⟩ : ∃ w6, w6 = w3.alloc (.cells #[.slice (some ⟨g, 0, none⟩) P.length cap5] 29) := ⟨_, rfl⟩
              have HX6 : Hid (Blk w6 w3.heap.size 29 #[.slice (some ⟨g, 0, none⟩) P.length cap5]) := Lib.hid (by rw [hw6]; exact Blk.new _ _ _)
              have HO6 : Hid (OwnF w0 w6 wo.heap.size (.slice (some ⟨g, 0, none⟩) P.length cap5) P) := Lib.hid (by rw [hw6]; exact HO.out.below (below_box _))
              have HB6 : Hid (Below wo.heap.size wo w6) := Lib.hid (by rw [hw6]; exact keepP HB3.out _)
              rw [← hw6]
              clear hw6 HO
              have hfz : (j : Int) < (P.length : Int) := by omega
              obtain ⟨hgb1, hgb2⟩ := HO6.out.blk
              obtain ⟨sv, hsv, hcs⟩ := HO6.out.at j (by omega)
              obtain ⟨c0, c1, c2, c3, c4, c5, c6, c7⟩ := hcs
              have f0 := HO6.out.free (j * 8)
              have f1 := HO6.out.free (j * 8 + 1)
              have f2 := HO6.out.free (j * 8 + 2)
              have f3 := HO6.out.free (j * 8 + 3)
              have f4 := HO6.out.free (j * 8 + 4)
              have f5 := HO6.out.free (j * 8 + 5)
              have f6 := HO6.out.free (j * 8 + 6)
              have f7 := HO6.out.free (j * 8 + 7)
              have HNr6 := Lib.hid (HNr.out.below HB6.out HNr.out.lt)
              clear n0 n1 n2 n3 n4
              obtain ⟨n0, n1, n2, n3, n4, -⟩ := p5_ok HNr6.out
              have x6 : w6.cell? ⟨w3.heap.size, 0, none⟩ = some (.slice (some ⟨g, 0, none⟩) P.length cap5) := HX6.out.c0 0 _ rfl
              have hqm : (P.length : Int) ≤ 9223372036854775807 := by omega
              clear hsv
              go_upto_region 15 with fail
              have HO7 := Lib.hid (HO6.out.slot j (by omega) HS.out)
              have HB7 := Lib.hid (below_st8s HB6.out g (j * 8) hgb1 ⟨true, false, 1, sa, sb, (ca, n.kids.length, cc), sd, se⟩)
              have HX7 := Lib.hid (blk_st8s HX6.out g (j * 8) ⟨true, false, 1, sa, sb, (ca, n.kids.length, cc), sd, se⟩ (fun e => hgx e.symm))
              have HQ4 : Hid (∀ (kk : Nat), usedB P (kk : Int) = true → kk < P.length ∧ 0 ≤ (atP (P.set j ⟨true, false, 1, n⟩) kk).refs ∧ (atP (P.set j ⟨true, false, 1, n⟩) kk).refs ≤ 1000000000) := Lib.hid (fun kk hu => by
                rw [usedB_nat] at hu
                have h1 := used_lt hu
                have h2 := hr kk hu
                have h3 : kk ≠ j := by rintro rfl; rw [HFU.out] at hu; cases hu
                rw [atP_set kk (by omega), if_neg h3]
                exact ⟨by omega, h2⟩)
              clear c0 c1 c2 c3 c4 c5 c6 c7 f0 f1 f2 f3 f4 f5 f6 f7 n0 n1 n2 n3 n4 x6
              obtain ⟨w7, hw7⟩ : ∃ w7, w7 = st8s w6 g (j * 8) ⟨true, false, 1, sa, sb, (ca, n.kids.length, cc), sd, se⟩ := ⟨_, rfl⟩
              rw [← hw7] at HO7 HB7 HX7
              dsimp only [st8s] at hw7
              rw [← hw7]
              clear hw7
              obtain ⟨Q4, hQ4⟩ : ∃ Q4, Q4 = P.set j ⟨true, false, 1, n⟩ := ⟨_, rfl⟩
              have HQ4L : Hid (Q4.length = P.length) := Lib.hid (by rw [hQ4, List.length_set])
              rw [← hQ4] at HO7 HQ4 HG
              clear hQ4
              go_wp2_with fail
              go_loopw [8] (fun i wr => ∃ k : Nat, k ≤ n.kids.length ∧ i = .int .i64 k ∧ Hid (OwnF w0 wr wo.heap.size (.slice (some ⟨g, 0, none⟩) P.length cap5) (heldP Q4 (n.kids.take k))) ∧ Hid (Below wo.heap.size wo wr) ∧ Hid (Blk wr w3.heap.size 29 #[.slice (some ⟨g, 0, none⟩) P.length cap5])) (fun i _ => n.kids.length - (intOf i).toNat)
              case atStart => exact ⟨0, Nat.zero_le _, rfl, HO7, HB7, HX7⟩
              case round =>
                obtain ⟨k, hkk, rfl, HOr, HBr, HXr⟩ := hrel
                have HNy := Lib.hid (HNr.out.below HBr.out HNr.out.lt)
                have n2 : wr.cell? ⟨w.heap.size + 1, 2, none⟩ = some (.slice ca n.kids.length cc) := HNy.out.c0 2 _ rfl
                have x6 : wr.cell? ⟨w3.heap.size, 0, none⟩ = some (.slice (some ⟨g, 0, none⟩) P.length cap5) := HXr.out.c0 0 _ rfl
                have HBw7 : Hid (Below w.heap.size w wr) := Lib.hid (HBw.out.trans (HBr.out.mono HBw.out.size))
                by_cases hlt : k < n.kids.length
                · obtain ⟨b5, off5, cap6, he, hbl5, hlz5, x0⟩ := at_int (HKI.out.below HBw7.out) k hlt
                  injection he with he1 he2 he3
                  subst he1 he3
                  clear he2
                  have hltz : (k : Int) < (n.kids.length : Int) := by omega
                  have hu' : usedB P n.kids[k] = true := List.all_eq_true.1 HA.out _ (List.getElem_mem hlt)
                  obtain ⟨kk, hkk2⟩ : ∃ kk : Nat, n.kids[k] = (kk : Int) := ⟨_, (Int.toNat_of_nonneg (usedB_lt hu').1).symm⟩
                  have HT : Hid (heldP Q4 (n.kids.take (k + 1)) = incP (heldP Q4 (n.kids.take k)) (kk : Int)) := Lib.hid (by rw [List.take_succ_eq_append_getElem hlt, hkk2, heldP_snoc])
                  rw [hkk2] at x0 hu'
                  obtain ⟨q1, q2, q3⟩ := HQ4.out kk hu'
                  have hqz : (kk : Int) < (P.length : Int) := by omega
                  have hm := atP_heldP (P := Q4) (ks := n.kids.take k) (fun x hx => by
                    have h1 := usedB_lt (List.all_eq_true.1 HA.out x (List.mem_of_mem_take hx))
                    exact ⟨h1.1, by rw [HQ4L.out]; omega⟩) kk
                  have hcn : (n.kids.take k).count (kk : Int) ≤ k := Nat.le_trans List.count_le_length (by rw [List.length_take]; omega)
                  have hHL : (heldP Q4 (n.kids.take k)).length = P.length := by rw [heldP_len, HQ4L.out]
                  obtain ⟨sv, hsv, hcs⟩ := HOr.out.at kk (by omega)
                  obtain ⟨-, -, c2, -, -, -, -, -⟩ := hcs
                  have f2 := HOr.out.free (kk * 8 + 2)
                  have hsr := hsv.refs
                  have hmr : (atP (heldP Q4 (n.kids.take k)) kk).refs = (atP Q4 kk).refs + ((n.kids.take k).count (kk : Int) : Nat) := by rw [hm]; rfl
                  obtain ⟨r, hr1⟩ : ∃ r, r = sv.refs := ⟨_, rfl⟩
                  rw [← hr1] at c2
                  have HT2 : Hid (heldP Q4 (n.kids.take (k + 1)) = (heldP Q4 (n.kids.take k)).set kk { atP (heldP Q4 (n.kids.take k)) kk with refs := r + 1 }) := Lib.hid (by rw [HT.out, hr1, hsr]; rfl)
                  have hr2 : 0 ≤ r ∧ r ≤ 2000000000 := by rw [hr1, hsr, hmr]; omega
                  obtain ⟨hr3, hr4⟩ := hr2
                  have hrw : IntKind.i64.wrap (r + 1) = r + 1 := IntWalk.i64_in _ (by omega)
                  clear hm hmr hsr hr1 hsv hcn q1 q2 q3 hu' hkk2
                  have HHL := Lib.hid hHL
                  clear hHL
                  go_wp2_with fail
                  go_region
                  go_wp2
                  go_roundw
                  case rel => exact ⟨k + 1, by omega, by go_num, Lib.hid (by rw [HT2.out]; exact (HOr.out.refs kk (by rw [HHL.out]; omega) (r + 1)).below (below_drewN _ 1)), Lib.hid ((HBr.out.setCell hgb1 _).drew), Lib.hid (HXr.out.setCell_other (fun e => hgx e.symm) _ _)⟩
                  case measure => simp [intOf]; omega
                · obtain rfl : k = n.kids.length := by omega
                  rw [List.take_length] at HOr
                  have hR := HRr.out.below HBr.out HRr.out.lt
                  have hc := three_ok hR
                  obtain ⟨r0, r1, r2, g0, g1, g2⟩ := hc
                  have HR8 := Lib.hid hR
                  have HL2 := Lib.hid HRr.out.lt
                  clear hR
                  go_wp2
                  obtain ⟨z0, z1, z2, -⟩ := three_ok (blk_set3 HR8.out (.slice (some ⟨g, 0, none⟩) P.length cap5) (.int .i64 j) (.int .i64 0))
                  refine bodyPost_ret (v := .agg #[.slice (some ⟨g, 0, none⟩) P.length cap5, .int .i64 j, .int .i64 0]) (by simp [results, Try.results16, go_sem, z0, z1, z2]) rfl ?_
                  rw [HG.out]
                  have hB := below_set3 HBw7.out (w.heap.size + 2) (by omega) (.slice (some ⟨g, 0, none⟩) P.length cap5) (.int .i64 j) (.int .i64 0)
                  have hne : (Value.slice (some ⟨g, 0, none⟩) P.length cap5).ownBlock ≠ some (w.heap.size + 2) := by have := HL2.out; intro e; have e2 : g = w.heap.size + 2 := Option.some.inj e; omega
                  exact ⟨_, rfl, (((HOr.out.setOther _ 0 _ hne).setOther _ 1 _ hne).setOther _ 2 _ hne).slF, fun b hb => .inr (by injection hb with hb; have := HBw.out.size; rw [← hb]; show w.heap.size ≤ g; omega), hB⟩

end Go.Proofs.Ytlgangcldlphnaa
