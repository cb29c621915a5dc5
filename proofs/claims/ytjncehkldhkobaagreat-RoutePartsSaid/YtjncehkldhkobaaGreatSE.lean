/-
  The walk of the law RouteReady.
-/
import Derived.Test.YtjncehkldhkobaaGreatSD
import Derived.IntWalk
namespace Go.Proofs.YtjncehkldhkobaaGreat
open Go.RowKit Go.Sort
set_option linter.unusedVariables false

theorem blk_made {W w2 : World} {T : TypeId} {cs : Array Value} (hb : Below (W.alloc (.cells cs T)).drew.heap.size (W.alloc (.cells cs T)).drew w2) : Blk w2 W.heap.size T cs :=
  Blk.below (show Blk (W.alloc (.cells cs T)).drew _ _ _ from Blk.new W T cs) hb (by simp)
theorem keepSet {W wx : World} (h : Below W.heap.size W wx) (i : Nat) (v : Value) : Below W.heap.size W (wx.setCell ⟨W.heap.size, i, none⟩ v) := h.setCell (Nat.le_refl _) _
def WayAt (w : World) (s : Value) (G St : List Ms) (wx : World) : Prop :=
  ∃ b p q c d, s = .pointer (some ⟨b, 0, none⟩) ∧ Blk wx b 34 #[.slice p G.length c, .slice q St.length d, .slice none 0 0] ∧ IsMsgs wx (.slice p G.length c) G ∧ IsMsgs wx (.slice q St.length d) St ∧ Below w.heap.size w wx
theorem wayAt_new {w wy : World} {G St : List Ms} {p q : Option Addr} {c d n : Nat} (hn : n = wy.heap.size) (h1 : IsMsgs wy (.slice p G.length c) G) (h2 : IsMsgs wy (.slice q St.length d) St) (hb : Below w.heap.size w wy) :
    WayAt w (.pointer (some ⟨n, 0, none⟩)) G St (wy.alloc (.cells #[.slice p G.length c, .slice q St.length d, .slice none 0 0] 34)) := by
  subst hn
  exact ⟨_, p, q, c, d, rfl, Blk.new _ _ _, h1.below (below_box _), h2.below (below_box _), keepA hb _⟩
theorem wayAt_old {w wy : World} {G St : List Ms} {p q : Option Addr} {c d n : Nat} {x0 x1 x2 : Value} (hn : w.heap.size ≤ n) (hB : Blk wy n 34 #[x0, x1, x2]) (h1 : OwnM wy (n + 1) (.slice p G.length c) G) (h2 : OwnM wy (n + 1) (.slice q St.length d) St) (hb : Below w.heap.size w wy) :
    WayAt w (.pointer (some ⟨n, 0, none⟩)) G St (((wy.setCell ⟨n, 0, none⟩ (.slice p G.length c)).setCell ⟨n, 1, none⟩ (.slice q St.length d)).setCell ⟨n, 2, none⟩ (.slice none 0 0)) := by
  have hk : ∀ b, n + 1 ≤ b → b < wy.heap.size → (((wy.setCell ⟨n, 0, none⟩ (.slice p G.length c)).setCell ⟨n, 1, none⟩ (.slice q St.length d)).setCell ⟨n, 2, none⟩ (.slice none 0 0)).heap[b]? = wy.heap[b]? := fun b hb _ => by
    have hne : b ≠ n := by omega
    rw [Below.heap_setCell _ _ _ _ hne, Below.heap_setCell _ _ _ _ hne, Below.heap_setCell _ _ _ _ hne]
  exact ⟨n, p, q, c, d, rfl, ((hB.setCell 0 _).setCell 1 _).setCell 2 _, OwnM.msgs (owns_keep h1 hk), OwnM.msgs (owns_keep h2 hk), ((hb.setCell hn _).setCell hn _).setCell hn _⟩
theorem slice_tbl {w : World} {v : Value} {l : List Pr} (h : IsPairs w v l) : ∃ a c, v = .slice a l.length c := by obtain ⟨a, c, rfl, -⟩ := h; exact ⟨a, c, rfl⟩
set_option maxRecDepth 100000 in
set_option maxHeartbeats 8000000 in
theorem routeReady_walk (w : World) (v0 : Value) (x0 : List Rw) (r0 : IsRaws w v0 x0) (v1 : Value) (x1 : List R6) (r1 : IsR6s w v1 x1) (v2 : Value) (x2 : Bs) (r2 : IsBytes w v2 x2) :
    Calls Tryz.prog 6 #[v0, v1, v2] w fun e w' => e = .returned (.bool true) ∧ Below w.heap.size w w' := by
  have mixed := mixedA
  have R0 := Lib.hid r0
  have R1 := Lib.hid r1
  have R2 := Lib.hid r2
  obtain ⟨a0, q0, rfl, -⟩ := r0
  obtain ⟨a1, q1, rfl, -⟩ := r1
  obtain ⟨a2, q2, rfl, -⟩ := r2
  have HSAN := Lib.hid (sanity_w w)
  go_enter Tryz.func6, Tryz.ntmps6
  go_wp2_with fail
  refine HSAN.out.mono ?_
  rintro e w1 ⟨rfl, hb1⟩
  have HB1 := Lib.hid hb1
  clear hb1 HSAN
  go_wp2_with fail
  refine (table_w _ x0 12 w1 (R0.out.below HB1.out) (by decide)).mono ?_
  rintro e w2 ⟨vt, rfl, ht1, ht2, hb2⟩
  have HT2 := Lib.hid ht2
  have HB2 := Lib.hid (HB1.out.trans (hb2.mono HB1.out.size))
  clear ht1 ht2 hb2 HB1
  go_wp2_with fail
  refine (list_w _ x1 10 w2 (R1.out.below HB2.out) (by decide)).mono ?_
  rintro e w3 ⟨vb, rfl, ho3, hb3⟩
  have HM3 := Lib.hid ho3.msgs
  have HT3 := Lib.hid (HT2.out.below hb3)
  have HB3 := Lib.hid (HB2.out.trans (hb3.mono HB2.out.size))
  clear ho3 hb3 HT2 HB2
  go_wp2_with fail
  refine (pivots8_w _ x2 w3 (R2.out.below HB3.out)).mono ?_
  rintro e w4 ⟨vp, rfl, hs4, hb4⟩
  have HS4 := Lib.hid hs4
  have HM4 := Lib.hid (HM3.out.below hb4)
  have HT4 := Lib.hid (HT3.out.below hb4)
  have HB4 := Lib.hid (HB3.out.trans (hb4.mono HB3.out.size))
  clear hb4 HM3 HT3 HB3 R0 R1 R2
  -- what is known
  have hst := srt_table x0 12
  have htl := table_len x0 12
  have htk : ∀ x ∈ tableS x0 12, x.1.length ≤ 100 := fun x hx => Nat.le_trans (table_small x hx).1 (by decide)
  have hbo := listS_okR x1 10
  have hbl := listS_len x1 10
  have hps := pivR_srt x2
  have hpl := pivR_len x2
  have hkz := kid_size x2
  generalize tableS x0 12 = T at *
  generalize listS x1 10 = B at *
  generalize pivR x2 = ps at *
  have hokB : ∀ m ∈ B, OkR m := fun m hm => (hbo m hm).1
  have HOK0 := Lib.hid (okAll_mv B hst (by omega) htk (fun m hm => (hokB m hm).2.2) (by omega) (Nat.le_trans (mv_len B) (by omega)))
  have HOK : Hid (∀ k j, OkAll ((readyW (kidSp ps k) B).1 ++ (readyW (kidSp ps k) B).2.1) T ∧ OkAll ((readyW (kidSp ps k) B).1 ++ ((readyW (kidSp ps j) (readyW (kidSp ps k) B).2.1).1 ++ (readyW (kidSp ps j) (readyW (kidSp ps k) B).2.1).2.1)) T) := Lib.hid (fun k j => by
    obtain ⟨g1, g2⟩ := ready_ok (hkz k) hokB
    obtain ⟨j1, j2⟩ := ready_ok (hkz j) g2
    have l1 := ready_len (kidSp ps k) B
    have l2 := ready_len (kidSp ps j) (readyW (kidSp ps k) B).2.1
    have c1 := mv_ready (kidSp ps k) B
    have c2 := mv_ready (kidSp ps j) (readyW (kidSp ps k) B).2.1
    have c3 := mv_len B
    refine ⟨okAll_mv _ hst (by omega) htk (fun m hm => ?_) (by rw [List.length_append]; omega) (by rw [mv_app]; omega), okAll_mv _ hst (by omega) htk (fun m hm => ?_) (by rw [List.length_append, List.length_append]; omega) (by rw [mv_app, mv_app]; omega)⟩
    · rcases List.mem_append.1 hm with hm | hm
      · exact (g1 m hm).2.2
      · exact (g2 m hm).2.2
    · rcases List.mem_append.1 hm with hm | hm
      · exact (g1 m hm).2.2
      rcases List.mem_append.1 hm with hm | hm
      · exact (j1 m hm).2.2
      · exact (j2 m hm).2.2)
  have HST := Lib.hid hst
  have HKZ := Lib.hid hkz
  have HOB := Lib.hid hokB
  have HPS := Lib.hid hps
  have HALL := Lib.hid (fun wx (h1 : IsPairs wx vt T) (h2 : IsMsgs wx vb B) => all_w vt vb T B wx h1 h2 hst (fun m hm => (hokB m hm).1) HOK0.out)
  obtain ⟨at', ct, rfl⟩ := slice_tbl HT4.out
  obtain ⟨ab, cb, rfl, hcb, hcbm, -⟩ := id HM4.out
  obtain ⟨ap, cp, rfl, hcp, hcpm, -⟩ := id HS4.out
  clear hst htl htk hbo hps hkz hokB HOK0 hs4
  go_wp2_with fail
  refine (HALL.out _ HT4.out HM4.out).mono ?_
  rintro e w5 ⟨vw, rfl, hw1, hw2, hb5⟩
  have HW5 := Lib.hid hw2
  have HS5 := Lib.hid (HS4.out.below hb5)
  have HM5 := Lib.hid (HM4.out.below hb5)
  have HT5 := Lib.hid (HT4.out.below hb5)
  have HB5 := Lib.hid (HB4.out.trans (hb5.mono HB4.out.size))
  obtain ⟨aw, cw, rfl⟩ := slice_tbl hw2
  clear hw1 hw2 hb5 HS4 HM4 HT4 HB4 HALL
  have HWT : Hid (∃ n, allS B T = n) := Lib.hid ⟨_, rfl⟩
  go_wp2
  go_loopw [12] (fun i wr => ∃ k : Nat, i = .int .i64 k ∧ k ≤ ps.length + 1 ∧ Below w5.heap.size w5 wr) (fun i _ => ps.length + 1 - (intOf i).toNat)
  case atStart => exact ⟨0, rfl, Nat.zero_le _, Below.refl _ _⟩
  case round =>
    obtain ⟨k, rfl, hk, hbel⟩ := hrel
    have Hbel := Lib.hid hbel
    clear hbel
    by_cases hle : k ≤ ps.length
    · have hlez : (k : Int) ≤ (ps.length : Int) := by omega
      have hokG := Lib.hid (ready_ok (HKZ.out k) HOB.out)
      have hlen := ready_len (kidSp ps k) B
      have HR1 := Lib.hid (fun wx (h1 : IsMsgs wx (.slice ab B.length cb) B) (h2 : IsStrs wx (.slice ap ps.length cp) ps) => lready_w _ _ B ps k wx h1 h2 (fun m hm => (HOB.out m hm).1) (fun m hm => (HOB.out m hm).2.1) hle (HKZ.out k) (by omega) (by omega))
      have hE1 := ready_eff (kidSp ps k) B HST.out
      have HE1 := Lib.hid hE1
      have HOKk := Lib.hid (HOK.out k ((k + 1) % (ps.length + 1)))
      have hmod : (k + 1) % (ps.length + 1) ≤ ps.length := Nat.le_of_lt_succ (Nat.mod_lt _ (Nat.succ_pos _))
      have hmz : ((k : Int) + 1) % ((ps.length : Int) + 1) = (((k + 1) % (ps.length + 1) : Nat) : Int) := by push_cast; rfl
      have HE2 := Lib.hid (ready_eff2 (kidSp ps k) (kidSp ps ((k + 1) % (ps.length + 1))) B HST.out)
      generalize (k + 1) % (ps.length + 1) = j at *
      have hlen2 := ready_len (kidSp ps j) (readyW (kidSp ps k) B).2.1
      have HR2 := Lib.hid (fun v wx (h1 : IsMsgs wx v (readyW (kidSp ps k) B).2.1) (h2 : IsStrs wx (.slice ap ps.length cp) ps) => lready_w _ _ (readyW (kidSp ps k) B).2.1 ps j wx h1 h2 (fun m hm => (hokG.out.2 m hm).1) (fun m hm => (hokG.out.2 m hm).2.1) hmod (HKZ.out j) (by omega) (by omega))
      have hokG2 := Lib.hid (ready_ok (HKZ.out j) hokG.out.2)
      unfold WayOut at HR1 HR2
      generalize readyW (kidSp ps j) (readyW (kidSp ps k) B).2.1 = W2 at *
      generalize readyW (kidSp ps k) B = W1 at *
      obtain ⟨G, St, Bl⟩ := W1
      obtain ⟨G2, St2, Bl2⟩ := W2
      dsimp only at HE1 HE2 HOKk HR1 HR2 hokG hokG2 hlen hlen2
      have HA1 := Lib.hid (fun v wx (h1 : IsPairs wx (.slice at' T.length ct) T) (h2 : IsMsgs wx v G) => all_w _ v T G wx h1 h2 HST.out (fun m hm => (hokG.out.1 m hm).1) (okAll_cut HOKk.out.1).1)
      have HA2 := Lib.hid (fun u v wx (h1 : IsPairs wx u (allS G T)) (h2 : IsMsgs wx v St) => all_w u v _ St wx h1 h2 (srt_allR G HST.out) (fun m hm => (hokG.out.2 m hm).1) (okAll_cut HOKk.out.1).2)
      have HA3 := Lib.hid (fun u v wx (h1 : IsPairs wx u (allS G T)) (h2 : IsMsgs wx v G2) => all_w u v _ G2 wx h1 h2 (srt_allR G HST.out) (fun m hm => (hokG2.out.1 m hm).1) (okAll_cut (okAll_cut HOKk.out.2).2).1)
      have HA4 := Lib.hid (fun u v wx (h1 : IsPairs wx u (allS G2 (allS G T))) (h2 : IsMsgs wx v St2) => all_w u v _ St2 wx h1 h2 (srt_allR G2 (srt_allR G HST.out)) (fun m hm => (hokG2.out.2 m hm).1) (okAll_cut (okAll_cut HOKk.out.2).2).2)
      rw [HE1.out] at HA2
      rw [HE2.out] at HA4
      clear hE1 hokG hokG2 HOKk HE1 HE2
      generalize allS G T = N1 at *
      generalize allS G2 N1 = N2 at *
      generalize allS B T = Wt at *
      go_wp2_with fail
      refine (HR1.out _ (HM5.out.below Hbel.out) (HS5.out.below Hbel.out)).mono ?_
      rintro e w6 ⟨g1, s1, rfl, hg1, hs1, hb6⟩
      have HG6 := Lib.hid hg1.msgs
      have HS6 := Lib.hid hs1.msgs
      have HB6 := Lib.hid (Hbel.out.trans (hb6.mono Hbel.out.size))
      obtain ⟨ag, cg, rfl, -⟩ := hg1.msgs
      obtain ⟨asx, csx, rfl, -⟩ := hs1.msgs
      clear hg1 hs1 hb6
      have hX : Blk (w6.alloc (.cells #[.slice ag G.length cg, .slice asx St.length csx, .slice none 0 0] 34)) w6.heap.size 34 #[.slice ag G.length cg, .slice asx St.length csx, .slice none 0 0] := Blk.new _ _ _
      have hbx6 := below_box (w := w6) (.cells #[.slice ag G.length cg, .slice asx St.length csx, .slice none 0 0] 34)
      have HBX6 := Lib.hid hbx6
      have HX := Lib.hid hX
      have HB7 := Lib.hid (HB6.out.trans (hbx6.mono HB6.out.size))
      have HG7 := Lib.hid (HG6.out.below hbx6)
      have HS7 := Lib.hid (HS6.out.below hbx6)
      clear hX hbx6
      go_wp2_with fail
      generalize w6.alloc (.cells #[.slice ag G.length cg, .slice asx St.length csx, .slice none 0 0] 34) = w7 at *
      generalize w6.heap.size = bx at *
      refine (HA1.out _ _ (HT5.out.below HB7.out) HG7.out).mono ?_
      rintro e w8 ⟨vn, rfl, hn1, hn2, hb8⟩
      have HN8 := Lib.hid hn2
      have HB8 := Lib.hid (HB7.out.trans (hb8.mono HB7.out.size))
      have HX8 := Lib.hid (HX.out.below hb8 HX.out.lt)
      have HS8 := Lib.hid (HS7.out.below hb8)
      obtain ⟨an, cn, rfl⟩ := slice_tbl hn2
      have x80 : w8.cell? ⟨bx, 0, none⟩ = some (.slice ag G.length cg) := HX8.out.c0 0 _ rfl
      have x81 : w8.cell? ⟨bx, 1, none⟩ = some (.slice asx St.length csx) := HX8.out.c0 1 _ rfl
      clear hn1 hn2 hb8
      go_wp2_with fail
      refine (HA2.out _ _ _ HN8.out HS8.out).mono ?_
      rintro e w9 ⟨vq, rfl, hq1, hq2, hb9⟩
      have HQ9 := Lib.hid hq2
      have HN9 := Lib.hid (HN8.out.below hb9)
      have HB9 := Lib.hid (HB8.out.trans (hb9.mono HB8.out.size))
      have HX9 := Lib.hid (HX8.out.below hb9 HX8.out.lt)
      have HS9 := Lib.hid (HS8.out.below hb9)
      obtain ⟨aq, cq, rfl⟩ := slice_tbl hq2
      clear hq1 hq2 hb9 x80 x81
      go_wp2_with fail
      refine (rsame_w _ _ Wt Wt w9 HQ9.out (HW5.out.below HB9.out)).mono ?_
      rintro e w10 ⟨rfl, nd, hw10⟩
      have hb10 : Below w9.heap.size w9 w10 := by rw [hw10]; exact below_drewN _ _
      have HN10 := Lib.hid (HN9.out.below hb10)
      have HB10 := Lib.hid (HB9.out.trans (hb10.mono HB9.out.size))
      have HX10 := Lib.hid (HX9.out.below hb10 HX9.out.lt)
      have HS10 := Lib.hid (HS9.out.below hb10)
      clear hw10 hb10
      rw [decide_eq_true rfl]
      -- the second kid
      have hx1 : ∀ wx, Below w10.heap.size w10 wx → wx.cell? ⟨bx, 1, none⟩ = some (.slice asx St.length csx) := fun wx hx => (HX10.out.below hx HX10.out.lt).c0 1 _ rfl
      have HL0 : Hid (Below w10.heap.size w10 w10) := Lib.hid (Below.refl _ _)
      have hw1 : IntKind.i64.wrap ((k : Int) + 1) = (k : Int) + 1 := IntWalk.i64_in _ (by omega)
      have hw2 : IntKind.i64.wrap ((ps.length : Int) + 1) = (ps.length : Int) + 1 := IntWalk.i64_in _ (by omega)
      have hw3 : IntKind.i64.wrap (j : Int) = (j : Int) := IntWalk.i64_in _ (by omega)
      have hw4 : ((k : Int) + 1).tmod ((ps.length : Int) + 1) = (j : Int) := by rw [Int.tmod_eq_emod_of_nonneg (by omega)]; exact hmz
      have hw5 : ¬ ((ps.length : Int) + 1 = 0) := by omega
      have hw6 : ¬ ((ps.length : Int) = -1) := by omega
      have HRX : Hid (∀ wx, Below w10.heap.size w10 wx → Calls Tryz.prog 18 #[.slice asx St.length csx, .slice ap ps.length cp, .int .i64 j] wx fun e w' => ∃ p q c d, e = .returned (wayV (.slice p G2.length c) (.slice q St2.length d)) ∧ OwnM w' wx.heap.size (.slice p G2.length c) G2 ∧ OwnM w' wx.heap.size (.slice q St2.length d) St2 ∧ Below w10.heap.size w10 w' ∧ Below wx.heap.size wx w') := Lib.hid (fun wx hx => (HR2.out _ wx (HS10.out.below hx) (HS5.out.below (HB10.out.trans (hx.mono HB10.out.size)))).mono fun e w' ⟨u1, u2, h1, h2, h3, h4⟩ => by
        obtain ⟨p, c, rfl, -⟩ := h2.msgs
        obtain ⟨q, d, rfl, -⟩ := h3.msgs
        exact ⟨p, q, c, d, h1, h2, h3, keepB hx h4, h4⟩)
      go_wp2_with fail
      go_cut [15] (fun s15 wx => Hid (WayAt w10 s15 G2 St2 wx))
      case first =>
        go_region_held3 (fun wx => Below w10.heap.size w10 wx)
          (repeat (first | with_reducible assumption | with_reducible exact HL0.out | with_reducible refine Below.drew ?_ | with_reducible refine keepA ?_ _ | with_reducible refine keepSet ?_ _ _))
          (first
            | (go_at_call 18; (refine (HRX.out _ (by repeat (first | with_reducible assumption | with_reducible exact HL0.out | with_reducible refine Below.drew ?_ | with_reducible refine keepA ?_ _))).mono ?_); rintro e2 y2 ⟨p2, q2, c2, d2, rfl, g2, t2, hS2, hT2⟩; (first | (have hz := blk_made hT2; have z0 := hz.c0 0 _ rfl; have z1 := hz.c0 1 _ rfl; have z2 := hz.c0 2 _ rfl; have z3 := hz.free 0; have z4 := hz.free 1; have z5 := hz.free 2) | skip))
            | fail "no arm")
        all_goals (go_wp2_with fail; go_meet)
        all_goals
          first
          | with_reducible exact Lib.hid (wayAt_new rfl g2.msgs t2.msgs hS2)
          | exact Lib.hid (wayAt_old (Nat.le_refl _) hz (owns_lower g2 (by simp)) (owns_lower t2 (by simp)) hS2)
      case rest =>
        clear hx1 hw1 hw2 hw3 hw4 hw5 hw6 HRX
        obtain ⟨bz, pz, qz, cz, dz, rfl, hY, hG, hSz, hBz⟩ := hcut.out
        have HG := Lib.hid hG
        have HSZ := Lib.hid hSz
        have HBZ := Lib.hid (HB10.out.trans (hBz.mono HB10.out.size))
        have HN := Lib.hid (HN10.out.below hBz)
        have hy0 : ∀ wx, Below wc.heap.size wc wx → wx.cell? ⟨bz, 0, none⟩ = some (.slice pz G2.length cz) := fun wx hx => (hY.below hx hY.lt).c0 0 _ rfl
        have hy1 : ∀ wx, Below wc.heap.size wc wx → wx.cell? ⟨bz, 1, none⟩ = some (.slice qz St2.length dz) := fun wx hx => (hY.below hx hY.lt).c0 1 _ rfl
        have HL1 : Hid (Below wc.heap.size wc wc) := Lib.hid (Below.refl _ _)
        have HC3 : Hid (∀ wx, Below wc.heap.size wc wx → Calls Tryz.prog 35 #[.slice an N1.length cn, .slice pz G2.length cz] wx fun e w' => ∃ a c, e = .returned (.slice a N2.length c) ∧ IsPairs w' (.slice a N2.length c) N2 ∧ Below wc.heap.size wc w') := Lib.hid (fun wx hx => (HA3.out _ _ wx (HN.out.below hx) (HG.out.below hx)).mono fun e w' ⟨v', h1, h2, h3, h4⟩ => by
          obtain ⟨a, c, rfl⟩ := slice_tbl h3
          exact ⟨a, c, h1, h3, keepB hx h4⟩)
        have HC4 : Hid (∀ u wx, Below wc.heap.size wc wx → IsPairs wx u N2 → Calls Tryz.prog 35 #[u, .slice qz St2.length dz] wx fun e w' => ∃ a c, e = .returned (.slice a Wt.length c) ∧ IsPairs w' (.slice a Wt.length c) Wt ∧ Below wc.heap.size wc w') := Lib.hid (fun u wx hx hu => (HA4.out _ _ wx hu (HSZ.out.below hx)).mono fun e w' ⟨v', h1, h2, h3, h4⟩ => by
          obtain ⟨a, c, rfl⟩ := slice_tbl h3
          exact ⟨a, c, h1, h3, keepB hx h4⟩)
        have HC5 : Hid (∀ u wx, Below wc.heap.size wc wx → IsPairs wx u Wt → Calls Tryz.prog 34 #[u, .slice aw Wt.length cw] wx fun e w' => e = .returned (.bool true) ∧ Below wc.heap.size wc w') := Lib.hid (fun u wx hx hu => (rsame_w _ _ Wt Wt wx hu (HW5.out.below (HBZ.out.trans (hx.mono HBZ.out.size)))).mono fun e w' ⟨h1, n, h2⟩ => ⟨h1.trans (by rw [decide_eq_true rfl]), hx.trans (by rw [h2]; exact below_drewN _ _)⟩)
        clear hcut hY hG hSz hBz HA1 HA2 HA3 HA4 HX10 HS10 HX9 HX8 HS9 HS8 HS7 HG7 HX HR1 HR2
        go_wp2_with fail
        go_region_held3 (fun wx => Below wc.heap.size wc wx)
          (repeat (first | with_reducible assumption | with_reducible exact HL1.out | with_reducible refine Below.drew ?_ | with_reducible refine keepA ?_ _))
          (first
            | (go_at_call_of 35 (Value.slice an N1.length cn); (with_reducible refine (HC3.out _ (by repeat (first | with_reducible assumption | with_reducible exact HL1.out | with_reducible refine Below.drew ?_))).mono ?_); rintro e2 y2 ⟨p2, c2, rfl, g2, hS2⟩)
            | (go_at_call 35; (with_reducible refine (HC4.out _ _ (by repeat (first | with_reducible assumption | with_reducible exact HL1.out | with_reducible refine Below.drew ?_)) (by first | with_reducible exact g2 | with_reducible exact g2.drew)).mono ?_); rintro e3 y3 ⟨p3, c3, rfl, g3, hS3⟩)
            | (go_at_call 34; (with_reducible refine (HC5.out _ _ (by repeat (first | with_reducible assumption | with_reducible exact HL1.out | with_reducible refine Below.drew ?_)) (by first | with_reducible exact g3 | with_reducible exact g3.drew)).mono ?_); rintro e4 y4 ⟨rfl, hS4⟩)
            | fail "no arm")
        have HF : Hid (Below w5.heap.size w5 y4) := Lib.hid (HBZ.out.trans (hS4.mono HBZ.out.size))
        clear hS2 hS3 hS4 g2 g3 hy0 hy1
        go_wp2
        go_roundw
        case rel => exact ⟨k + 1, by go_num, by omega, HF.out⟩
        case measure => simp [intOf]; omega
    · have hle' : ps.length < k := by omega
      have hlez : (ps.length : Int) < (k : Int) := by omega
      go_wp2
      go_ret
      exact ⟨rfl, HB5.out.trans (Hbel.out.mono HB5.out.size)⟩

end Go.Proofs.YtjncehkldhkobaaGreat
