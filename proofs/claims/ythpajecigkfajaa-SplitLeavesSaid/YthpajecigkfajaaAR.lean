/-
  Walk of the law SplitLeaves.
-/
import Derived.Test.YthpajecigkfajaaAQ
namespace Go.Proofs.Ythpajecigkfajaa
open Go.RowKit Go.Sort
set_option linter.unusedVariables false
set_option maxRecDepth 100000

theorem IsRow.keepI {α : Type} {en : α → List Value} {k qb : Nat} {w : World} {v y0 y1 y2 : Value} {T : TypeId} {l : List α} (h : IsRow 0 en k w v l) (hb : Blk w qb T #[.int .i64 0, .int .i64 0, .int .i64 0])
    (hne : l ≠ [] → ∃ i, ∃ h : i < l.length, ∃ (j : Nat) (u : Value), (en l[i])[j]? = some u ∧ u ≠ .int .i64 0) : IsRow 0 en k (set3 w qb y0 y1 y2) v l := by
  obtain ⟨a, cap, h1, h2, h3, h4⟩ := h
  refine ⟨a, cap, h1, h2, h3, fun hl => ?_⟩
  obtain ⟨b, off, e, h0, hlt, hcs⟩ := h4 hl
  have hbq : b ≠ qb := by
    rintro rfl
    obtain ⟨i, hi, j, u, hu, hn⟩ := hne hl
    have hc := hcs i hi j u hu
    rw [hb.cell] at hc
    generalize off + i * k + j = m at hc
    match m, hc with
    | 0, hc => exact hn (Option.some.inj hc).symm
    | 1, hc => exact hn (Option.some.inj hc).symm
    | 2, hc => exact hn (Option.some.inj hc).symm
    | m + 3, hc => simp at hc
  refine ⟨b, off, e, h0, by simpa using hlt, fun i hi j u hu => ?_⟩
  have := hcs i hi j u hu
  unfold World.cell? at this ⊢
  rw [Below.heap_setCell _ _ _ _ hbq, Below.heap_setCell _ _ _ _ hbq, Below.heap_setCell _ _ _ _ hbq]; exact this
theorem IsPairs.keepI {qb : Nat} {w : World} {v y0 y1 y2 : Value} {T : TypeId} {l : List Pr} (hb : Blk w qb T #[.int .i64 0, .int .i64 0, .int .i64 0]) (h : IsPairs w v l) : IsPairs (set3 w qb y0 y1 y2) v l := (h.row.keepI hb (fun hl => ⟨0, List.length_pos_iff.2 hl, 0, _, rfl, fun e => by cases e⟩)).pairs h.small
/-- A pair of a table and a shape in its box. -/
def TabSh (w : World) (PL : List Pr) (lf fa bu : Int) (s6 s7 : Value) (wx : World) : Prop := ∃ b, s7 = .pointer (some ⟨b, 0, none⟩) ∧ IsPairs wx s6 PL ∧ Blk wx b 32 #[.int .i64 lf, .int .i64 fa, .int .i64 bu] ∧ Below w.heap.size w wx
theorem TabSh.stored {w wx : World} {PL : List Pr} {lf fa bu : Int} {s6 : Value} {b : Nat} (hp : IsPairs wx s6 PL) (hb : Blk wx b 32 #[.int .i64 0, .int .i64 0, .int .i64 0]) (h : Below w.heap.size w wx) (hl : w.heap.size ≤ b) :
    TabSh w PL lf fa bu s6 (.pointer (some ⟨b, 0, none⟩)) (set3 wx b (.int .i64 lf) (.int .i64 fa) (.int .i64 bu)) :=
  ⟨b, rfl, hp.keepI hb, blk_set3 hb _ _ _, below_set3 h b hl _ _ _⟩
theorem TabSh.fresh {w wx : World} {PL : List Pr} {lf fa bu : Int} {s6 : Value} {b : Nat} (hp : IsPairs wx s6 PL) (h : Below w.heap.size w wx) (hb : b = wx.heap.size) :
    TabSh w PL lf fa bu s6 (.pointer (some ⟨b, 0, none⟩)) (wx.alloc (.cells #[.int .i64 lf, .int .i64 fa, .int .i64 bu] 32)) :=
  ⟨b, rfl, hp.below (below_box _), Blk.new' _ _ _ hb, h.alloc h.size _⟩

theorem node_parts {w : World} {x : Nv} {n : Nd} (h : IsNode w (nodV x) n) : IsPairs w (slV x.a) n.pairs ∧ IsStrs w (slV x.b) n.pivots ∧ IsInts w (slV x.c) n.kids ∧ IsSums w (slV x.d) n.sums ∧ IsMsgs w (slV x.e) n.buf := by
  obtain ⟨a, b, c, d, e, he, h1, h2, h3, h4, h5⟩ := h
  injection he with he
  have e0 : slV x.a = a := by injection (congrArg (fun x : Array Value => x[0]?) he : some _ = some _)
  have e1 : slV x.b = b := by injection (congrArg (fun x : Array Value => x[1]?) he : some _ = some _)
  have e2 : slV x.c = c := by injection (congrArg (fun x : Array Value => x[2]?) he : some _ = some _)
  have e3 : slV x.d = d := by injection (congrArg (fun x : Array Value => x[3]?) he : some _ = some _)
  have e4 : slV x.e = e := by injection (congrArg (fun x : Array Value => x[4]?) he : some _ = some _)
  rw [e0, e1, e2, e3, e4]
  exact ⟨h1, h2, h3, h4, h5⟩
set_option maxHeartbeats 16000000 in
theorem splitLeaves_walk (w : World) (v0 : Value) (x0 : List T4.Rw) (r0 : T4.IsRaws w v0 x0) (v1 : Value) (x1 : Nat × Nat × Nat) (r1 : v1 = .agg #[.int .u8 x1.1, .int .u8 x1.2.1, .int .u8 x1.2.2] ∧ x1.1 < 256 ∧ x1.2.1 < 256 ∧ x1.2.2 < 256) :
    Calls Try.prog 4 #[v0, v1] w fun e w' => e = .returned (.bool true) ∧ Below w.heap.size w w' := by
  have mixed := mixedA
  obtain ⟨rfl, hx1, hx2, hx3⟩ := r1
  obtain ⟨y1, y2, y3⟩ := x1
  have HR := Lib.hid r0
  have hln := T4.made_len x0
  have HLV := Lib.hid (fun m hm => leaves_ok (T4.madeS x0) m hm (T4.srt_made x0))
  have HMD := Lib.hid (fun wx (hx : Below w.heap.size w wx) => T4.made_w v0 x0 wx (HR.out.below hx))
  have HSHP := Lib.hid (fun wx => shape_w y1 y2 y3 wx hx1 hx2 hx3)
  generalize T4.madeS x0 = PL at *
  have hm1 : 1 ≤ 1 + y1 % 8 := by omega
  have hm2 : 1 + y1 % 8 ≤ 8 := by omega
  generalize 1 + y1 % 8 = m at *
  generalize 1 + y2 % 5 = fa at *
  generalize 1 + y3 % 6 = bu at *
  have HLV1 := Lib.hid (HLV.out m hm1)
  clear HLV r0 HR
  have HBX : Hid (Blk (w.alloc (.cells #[.int .u8 y1, .int .u8 y2, .int .u8 y3] 30)) w.heap.size 30 #[.int .u8 y1, .int .u8 y2, .int .u8 y3]) := Lib.hid (Blk.new _ _ _)
  go_enter Try.func4, Try.ntmps4
  go_wp2_with fail
  refine (sanity13_w _).mono ?_
  rintro e w1 ⟨rfl, hb1⟩
  have HB1 : Hid (Below w.heap.size w w1) := Lib.hid ((below_box _).trans (hb1.mono (by simp)))
  obtain ⟨c0, c1, c2, -⟩ := three_at (HBX.out.below hb1 HBX.out.lt)
  have c0 := cell_all c0
  have c1 := cell_all c1
  have c2 := cell_all c2
  clear hb1
  go_upto_region 2 with fail
  go_cut [6, 7] (fun s6 s7 wx => Hid (TabSh w1 PL m fa bu s6 s7 wx))
  case first =>
    go_region_held3 (fun wx => Below w1.heap.size w1 wx)
      (repeat (first | with_reducible assumption | with_reducible exact Below.refl _ _ | with_reducible refine bdrew ?_ | with_reducible refine keepP ?_ _ | with_reducible refine below_set3 ?_ _ (by omega) _ _ _))
      (first
        | (go_at_call 7; (refine (HMD.out _ (by first | exact bdrew HB1.out | exact bdrew (HB1.out.alloc HB1.out.size _))).mono ?_); rintro e w2 ⟨v2, rfl, hown2, hp2, hb2⟩; (first | (have hz2 : Blk w2 w1.heap.size 32 #[.int .i64 0, .int .i64 0, .int .i64 0] := Blk.below (show Blk (w1.alloc (.cells #[.int .i64 0, .int .i64 0, .int .i64 0] 32)).drew w1.heap.size 32 #[.int .i64 0, .int .i64 0, .int .i64 0] from Blk.new w1 _ _) hb2 (show w1.heap.size < (w1.alloc (.cells #[.int .i64 0, .int .i64 0, .int .i64 0] 32)).heap.size by simp)) | skip); have hS2 : Below w1.heap.size w1 w2 := (show Below w1.heap.size w1 _ by first | exact bdrew (Below.refl _ _) | exact bdrew (keepP (Below.refl _ _) _)).trans (hb2.mono (by first | exact Nat.le_refl _ | (show w1.heap.size ≤ (w1.alloc (.cells #[.int .i64 0, .int .i64 0, .int .i64 0] 32)).heap.size; simp))); obtain ⟨a2, q2, rfl, -⟩ := id hp2; clear hown2 hb2)
        | (go_at_call 10; (refine (HSHP.out _).mono ?_); rintro e w3 ⟨rfl, hb3⟩; (first | (have hz3 : Blk w3 w1.heap.size 32 #[.int .i64 0, .int .i64 0, .int .i64 0] := hz2.below hb3 hz2.lt) | (have hz3 : Blk w3 w2.heap.size 32 #[.int .i64 0, .int .i64 0, .int .i64 0] := (Blk.new w2 32 #[.int .i64 0, .int .i64 0, .int .i64 0]).below hb3 (show w2.heap.size < (w2.alloc (.cells #[.int .i64 0, .int .i64 0, .int .i64 0] 32)).heap.size by simp)) | skip); have hS3 : Below w1.heap.size w1 w3 := (show Below w1.heap.size w1 _ by first | exact hS2 | exact hS2.alloc hS2.size _).trans (hb3.mono (by first | exact hS2.size | exact Nat.le_trans hS2.size (by simp))); have hp3 : IsPairs w3 (.slice a2 PL.length q2) PL := (by first | exact hp2.below hb3 | exact (hp2.below (below_box _)).below hb3); (first | (have hq3 := three_at hz3; obtain ⟨n0, n1, n2, g0, g1, g2⟩ := hq3) | skip); (first | have hle3 : w1.heap.size ≤ w2.heap.size := hS2.size | skip); (try clear hb3))
        | fail "no arm")
    all_goals
      go_wp2
      go_meet
      first
        | exact Lib.hid (TabSh.stored hp3 hz3 hS3 (Nat.le_refl _))
        | exact Lib.hid (TabSh.stored hp3 hz3 hS3 hle3)
        | exact Lib.hid (TabSh.fresh hp3 hS3 rfl)
  case rest =>
    obtain ⟨sb, rfl, hp2, hsb, hbel2⟩ := hcut.out
    obtain ⟨w2, hw2⟩ : ∃ w2, w2 = wc := ⟨_, rfl⟩
    subst hw2
    clear c0 c1 c2 hcut
    have HB2 : Hid (Below w.heap.size w w2) := Lib.hid (HB1.out.trans (hbel2.mono HB1.out.size))
    have HP2 := Lib.hid hp2
    obtain ⟨pa, pc, rfl, hpa1, hpa2, -⟩ := hp2
    unfold maxLen at hpa2
    have HSB := Lib.hid hsb
    obtain ⟨k0, k1, k2, -⟩ := three_at hsb
    have HLF := Lib.hid (leaf_w (.agg #[.slice pa PL.length pc, .slice none 0 0, .slice none 0 0, .slice none 0 0, .slice none 0 0]) ⟨PL, [], [], [], []⟩ m fa bu w2 ⟨_, _, _, _, _, rfl, HP2.out, nil_strs _, nil_ints _, nil_sums _, nil_msgs _⟩ (by show PL.length ≤ _; omega) (by omega) hm1)
    dsimp only at HLF
    generalize leafN PL (m : Int) = LN at *
    generalize leafP PL (m : Int) = LP at *
    clear hbel2 hsb hx1 hx2 hx3
    go_upto_region 4 with (go_at_call 11; (refine HLF.out.mono ?_); rintro e w3 ⟨v3, rfl, hsp3, hb3⟩; obtain ⟨va, vb, vc, rfl, hn3, hs3, hu3⟩ := hsp3; have HN3 := Lib.hid hn3; have HS3 := Lib.hid hs3; obtain ⟨a5, c5, rfl, hl5, hm5⟩ := hn3.form; obtain ⟨a6, c6, rfl, hl6, hm6, -⟩ := hs3; obtain ⟨a7, c7, rfl, -⟩ := hu3; have HB3 := Lib.hid hb3; clear hn3 hb3)
    obtain ⟨W5, hW5⟩ : ∃ W5, W5 = (w3.alloc (.cells #[] 45)).alloc (.cells #[.slice a5 LN.length c5, .slice a6 LP.length c6, .slice a7 0 c7] 38) := ⟨_, rfl⟩
    have HQ5 : Hid (Blk W5 (w3.heap.size + 1) 38 #[.slice a5 LN.length c5, .slice a6 LP.length c6, .slice a7 0 c7]) := Lib.hid (by rw [hW5]; exact Blk.new' _ _ _ (by simp))
    have HO5 : Hid (W5.ownsRow w3.heap.size 45 3 (.slice (some ⟨w3.heap.size, 0, none⟩) 0 0) ([] : List Pr).length (([] : List Pr).flatMap encP)) := Lib.hid (by rw [hW5]; exact (emptyP w3 _ (Nat.le_refl _)).alloc _)
    have HB5 : Hid (Below w3.heap.size w3 W5) := Lib.hid (by rw [hW5]; exact keepP (keepP (Below.refl _ _) _) _)
    have HSB3 := Lib.hid (HSB.out.below HB3.out HSB.out.lt)
    have HP3 := Lib.hid (HP2.out.below HB3.out)
    have HW3 : Hid (Below w.heap.size w w3) := Lib.hid (HB2.out.trans (HB3.out.mono HB2.out.size))
    rw [← hW5]
    clear hW5 k0 k1 k2 HSB HP2 HB3 HB2 HB1
    unfold maxLen at hm6
    have f1 := HLV1.out.some
    have f2 := HLV1.out.most
    have f3 := HLV1.out.cnt
    have f4 := HLV1.out.one
    go_cut [58] (fun s58 wx => s58 = .bool false ∧ wx = W5)
    case first =>
      obtain ⟨q0, q1, q2, -⟩ := three_at HQ5.out
      obtain ⟨k0, k1, k2, -⟩ := three_at (HSB3.out.below HB5.out HSB3.out.lt)
      have z1 : ((LN.length : Int) == 0) = false := by rw [beq_eq_false_iff_ne]; omega
      have z2 : ¬ (max 1 (PL.length : Int) < (LN.length : Int)) := by omega
      have z3 : ((LP.length : Int) != (LN.length : Int) - 1) = false := by rw [bne_eq_false_iff_eq]; omega
      by_cases hle : PL.length ≤ m
      · have z4 : ((LN.length : Int) == 1) = true := by rw [beq_iff_eq]; have := f4.2 hle; omega
        have z5 : (PL.length : Int) ≤ (m : Int) := by omega
        clear f1 f2 f3 f4
        go_wp2
        go_meet
        exact ⟨rfl, rfl⟩
      · have z4 : ((LN.length : Int) == 1) = false := by rw [beq_eq_false_iff_ne]; intro e; exact hle (f4.1 (by omega))
        have z5 : ¬ ((PL.length : Int) ≤ (m : Int)) := by omega
        clear f1 f2 f3 f4
        go_wp2
        go_meet
        exact ⟨rfl, rfl⟩
    case rest =>
      obtain ⟨rfl, rfl⟩ := hcut
      clear f4
      go_wp2
      go_loopw [9, 10] (fun lv i wr => ∃ k : Nat, k ≤ LN.length ∧ i = .int .i64 k ∧ Hid (wr.ownsRow w3.heap.size 45 3 lv ((LN.take k).map (·.pairs)).flatten.length (((LN.take k).map (·.pairs)).flatten.flatMap encP)) ∧ Hid (Blk wr (w3.heap.size + 1) 38 #[.slice a5 LN.length c5, .slice a6 LP.length c6, .slice a7 0 c7]) ∧ Hid (Below w3.heap.size w3 wr)) (fun _ i _ => LN.length - (intOf i).toNat)
      case atStart => exact ⟨0, Nat.zero_le _, rfl, HO5, HQ5, HB5⟩
      case round =>
        obtain ⟨k, hk, rfl, HO, HQ, HB⟩ := hrel
        obtain ⟨q0, q1, q2, -⟩ := three_at HQ.out
        by_cases hlt : k < LN.length
        · have hltz : (k : Int) < (LN.length : Int) := by omega
          obtain ⟨bb, off, cap1, x, he, hbl, hX, u0, u1, u2, u3, u4⟩ := at_node (HN3.out.below HB.out) k hlt
          injection he with he1 he2 he3
          subst he1 he3
          clear he2
          obtain ⟨np, -, nk, -⟩ := node_parts hX
          obtain ⟨e1, e2⟩ := HLV1.out.each k hlt
          have HLW := Lib.hid (fun (h2 : 0 < k) (h3 : k - 1 < LP.length) => HLV1.out.low k hlt h2 h3)
          have HHI := Lib.hid (fun (h2 : k < LP.length) => HLV1.out.high k hlt h2)
          have HT : Hid (((LN.take (k + 1)).map (·.pairs)).flatten = ((LN.take k).map (·.pairs)).flatten ++ (LN[k]).pairs) := Lib.hid (by rw [List.take_succ_eq_append_getElem hlt, List.map_append, List.flatten_append]; simp)
          have hfl : ((LN.take k).map (·.pairs)).flatten.length ≤ 40 := by
            have h := congrArg List.length HLV1.out.flat
            have h2 : ((LN.take k).map (·.pairs)).flatten.length ≤ (LN.map (·.pairs)).flatten.length := by
              conv => rhs; rw [← List.take_append_drop k LN, List.map_append]
              rw [List.flatten_append, List.length_append]; omega
            omega
          rw [e2] at nk
          generalize ((LN.take k).map (·.pairs)).flatten = Y at *
          generalize (LN[k]).pairs = NP at *
          clear hX e2
          obtain ⟨⟨x1, x2, x3⟩, xb, ⟨z1, z2, z3⟩, xd, xe⟩ := x
          dsimp only [slV] at u0 u1 u2 u3 u4 np nk
          have HNP := Lib.hid np
          obtain ⟨g1, g2, g3, g4, g5, -, g6⟩ := np
          injection g3 with g7 g8 g9
          subst g7 g8 g9
          have HG6 := Lib.hid g6
          obtain ⟨j1, j2, j3, -⟩ := nk
          injection j3 with j7 j8 j9
          subst j7 j8 j9
          unfold maxLen at g5
          obtain ⟨k0, k1, k2, -⟩ := three_at (HSB3.out.below HB.out HSB3.out.lt)
          have y1 : decide (m < NP.length) = false := decide_eq_false (by omega)
          clear g6
          go_wp2_with fail
          go_quiet (fail)
          go_wp2
          obtain ⟨wq, hwq⟩ : ∃ wq, wq = wr.drewN nq := ⟨_, rfl⟩
          rw [← hwq]
          have HDR : Hid (Below wr.heap.size wr wq) := Lib.hid (by rw [hwq]; exact below_drewN _ _)
          have HOq : Hid (wq.ownsRow w3.heap.size 45 3 u9 Y.length (Y.flatMap encP)) := Lib.hid (by rw [hwq]; exact own_drewN HO.out nq)
          have q0 := cell_all q0 _ HDR.out
          have q1 := cell_all q1 _ HDR.out
          have u0 := cell_all u0 _ HDR.out
          have HQq := Lib.hid (HQ.out.below HDR.out HQ.out.lt)
          have HBq : Hid (Below w3.heap.size w3 wq) := Lib.hid (HB.out.trans (HDR.out.mono HB.out.size))
          have HNPq := Lib.hid (HNP.out.below HDR.out)
          clear hwq q2 u1 u2 u3 u4 k0 k1 k2 y1
          go_loopw [11] (fun j wx => ∃ q : Nat, q ≤ NP.length ∧ j = .int .i64 q ∧ wx = wq) (fun j _ => NP.length - (intOf j).toNat)
          case atStart => exact ⟨0, Nat.zero_le _, rfl, rfl⟩
          case round =>
            obtain ⟨q, hq, rfl, rfl⟩ := hrel
            by_cases hqt : q < NP.length
            · have hqz : (q : Int) < (NP.length : Int) := by omega
              obtain ⟨pb, po, hpe, hpl, hpc⟩ := HG6.out (by rintro rfl; simp at hqt)
              obtain rfl := hpe
              have hk0 := (HDR.out.cell (p := ⟨pb, po + q * 3, none⟩) hpl).trans (hpc q hqt).1
              have hmem := List.getElem_mem hqt
              have HL2 := Lib.hid (fun h2 h3 => HLW.out h2 h3 NP[q] hmem)
              have HH2 := Lib.hid (fun h2 => HHI.out h2 NP[q] hmem)
              generalize (NP[q]).1 = key at *
              clear hpc hmem
              by_cases h0 : 0 < k
              · have h0z : 0 < (k : Int) := by omega
                have hk1 : k - 1 < LP.length := by omega
                obtain ⟨lb, lo, lc, hle, hll, -, hlc⟩ := at_str (HS3.out.below HBq.out) (k - 1) hk1
                injection hle with hl1 hl2 hl3
                subst hl1 hl3
                clear hl2
                have hless := HL2.out h0 hk1
                have hs2 : IntKind.i64.wrap ((k : Int) - 1) = ((k - 1 : Nat) : Int) := by rw [IntWalk.i64_in _ (by omega)]; omega
                have hsub : (k : Int) - 1 = ((k - 1 : Nat) : Int) := by omega
                have hsz : ((k - 1 : Nat) : Int) < (LP.length : Int) := by omega
                generalize LP[k - 1] = kp at *
                by_cases h1 : k < LP.length
                · have h1z : (k : Int) < (LP.length : Int) := by omega
                  obtain ⟨lb2, lo2, lc2, hle, hll2, -, hlc2⟩ := at_str (HS3.out.below HBq.out) k h1
                  injection hle with hl1 hl2 hl3
                  injection hl1 with hl1
                  injection hl1 with hl4 hl5
                  subst hl4 hl5 hl3
                  clear hl2
                  have hgt := HH2.out h1
                  generalize LP[k] = kn at *
                  go_wp2
                  go_roundw
                  case rel => exact ⟨q + 1, hqt, by go_num, by first | rfl | trivial⟩
                  case measure => simp [intOf]; omega
                · have h1z : ¬ ((k : Int) < (LP.length : Int)) := by omega
                  go_wp2
                  go_roundw
                  case rel => exact ⟨q + 1, hqt, by go_num, by first | rfl | trivial⟩
                  case measure => simp [intOf]; omega
              · have h0z : (k : Int) ≤ 0 := by omega
                by_cases h1 : k < LP.length
                · have h1z : (k : Int) < (LP.length : Int) := by omega
                  obtain ⟨lb2, lo2, lc2, hle, hll2, -, hlc2⟩ := at_str (HS3.out.below HBq.out) k h1
                  injection hle with hl1 hl2 hl3
                  subst hl1 hl3
                  clear hl2
                  have hgt := HH2.out h1
                  generalize LP[k] = kn at *
                  go_wp2
                  go_roundw
                  case rel => exact ⟨q + 1, hqt, by go_num, by first | rfl | trivial⟩
                  case measure => simp [intOf]; omega
                · have h1z : ¬ ((k : Int) < (LP.length : Int)) := by omega
                  go_wp2
                  go_roundw
                  case rel => exact ⟨q + 1, hqt, by go_num, by first | rfl | trivial⟩
                  case measure => simp [intOf]; omega
            · obtain rfl : q = NP.length := by omega
              go_wp2_with (at_builtin; refine append_anyT (en := encP) rfl _ _ 24 45 _ 3 40 infoP Try.underlying24 rfl (by decide) (by decide) lenP ocP rfl w3.heap.size u9 Y rfl HOq.out (.slice x1 NP.length x3) NP rfl HNPq.out.row.any (by omega) HBq.out.size ?_; intro v5 w5 hown5 ht5; have HO5' := Lib.hid hown5; have HQ5' := Lib.hid (grown_blk HQq.out ht5.1 (own_type HOq.out HQq.out (by decide))); have HB5' : Hid (Below w3.heap.size w3 w5) := Lib.hid (HBq.out.trans (turn_below HOq.out ht5 HBq.out.size)); clear hown5 ht5)
              go_roundw
              case rel => exact ⟨k + 1, hlt, by go_num, by rw [HT.out]; exact HO5', HQ5', HB5'⟩
              case measure => simp [intOf]; omega
        · obtain rfl : k = LN.length := by omega
          rw [List.take_length, HLV1.out.flat] at HO
          have HORD := Lib.hid HLV1.out.order
          go_wp2
          go_loopw [13] (fun i wx => ∃ q n : Nat, 1 ≤ q ∧ i = .int .i64 q ∧ wx = wr.drewN n) (fun i _ => LP.length - (intOf i).toNat)
          case atStart => exact ⟨1, 0, Nat.le_refl _, rfl, rfl⟩
          case round =>
            obtain ⟨q, n, hq, rfl, rfl⟩ := hrel
            have q1 : (wr.drewN n).cell? ⟨w3.heap.size + 1, 1, none⟩ = _ := q1
            by_cases hqt : q < LP.length
            · have hqz : (q : Int) < (LP.length : Int) := by omega
              have hk1 : q - 1 < LP.length := by omega
              obtain ⟨lb, lo, lc, hle, hll, -, hlc⟩ := at_str (HS3.out.below HB.out) (q - 1) hk1
              injection hle with hl1 hl2 hl3
              subst hl1 hl3
              clear hl2
              obtain ⟨lb2, lo2, lc2, hle, hll2, -, hlc2⟩ := at_str (HS3.out.below HB.out) q hqt
              injection hle with hl1 hl2 hl3
              injection hl1 with hl1
              injection hl1 with hl4 hl5
              subst hl4 hl5 hl3
              clear hl2
              have hgt := HORD.out q hqt (by omega)
              have hs2 : IntKind.i64.wrap ((q : Int) - 1) = ((q - 1 : Nat) : Int) := by rw [IntWalk.i64_in _ (by omega)]; omega
              have hsz : ((q - 1 : Nat) : Int) < (LP.length : Int) := by omega
              generalize LP[q - 1] = kp at *
              generalize LP[q] = kn at *
              have hlc := fun n => (show (wr.drewN n).cell? _ = _ from hlc)
              have hlc2 := fun n => (show (wr.drewN n).cell? _ = _ from hlc2)
              go_wp2_with fail
              go_quiet (fail)
              go_wp2
              go_roundw
              case rel => exact ⟨q + 1, n + nq, by omega, by go_num, by first | rfl | rw [World.drewN_drewN]⟩
              case measure => simp [intOf]; omega
            · have HPO := Lib.hid (IsPairs.owned HO.out HP3.out.small)
              have HSM := Lib.hid (T4.same_w u9 (.slice pa PL.length pc) PL PL (wr.drewN n) (HPO.out.below (below_drewN _ _)) ((HP3.out.below HB.out).below (below_drewN _ _)))
              have hdc : decide (PL = PL) = true := by simp
              go_wp2_with fail
              refine HSM.out.mono ?_
              rintro e w6 ⟨rfl, n6, rfl⟩
              go_wp2
              go_ret
              exact ⟨rfl, HW3.out.trans ((HB.out.mono HW3.out.size).trans (below_drewN _ _))⟩

end Go.Proofs.Ythpajecigkfajaa
