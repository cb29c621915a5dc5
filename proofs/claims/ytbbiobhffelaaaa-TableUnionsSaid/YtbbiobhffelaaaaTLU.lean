/-
  The walk of the law TableUnions.
-/
import Derived.Test.YtbbiobhffelaaaaTU
namespace Go.Proofs.Ytbbiobhffelaaaa
open Go.RowKit Go.Sort
set_option linter.unusedVariables false

structure SBx (w : World) (va vb vc : Value) (wr : World) : Prop where
  b : Blk wr w.heap.size 53 #[va, vb, vc]
  g : Below w.heap.size w wr
theorem SBx.below {w wx wy : World} {va vb vc : Value} (h : SBx w va vb vc wx) (hb : Below wx.heap.size wx wy) : SBx w va vb vc wy := ⟨h.b.below hb h.b.lt, h.g.trans (hb.mono h.g.size)⟩
theorem SBx.drew {w wx : World} {va vb vc : Value} (h : SBx w va vb vc wx) : SBx w va vb vc wx.drew := h.below (below_drewN wx 1)

theorem one_pairs' {w : World} {n : Nat} (x : Pr) (hx : x.1.length ≤ maxLen ∧ x.2.1.length ≤ maxLen) (hn : n = w.heap.size) : IsPairs (w.alloc (.cells #[.string (Str x.1), .string (Str x.2.1), .int .i64 x.2.2] 30)) (.slice (some ⟨n, 0, none⟩) 1 1) [x] := by
  subst hn; exact one_pairs x hx

set_option maxRecDepth 100000 in
set_option maxHeartbeats 8000000 in
theorem tableUnions_walk0 (hsan : SanityW) (w : World) (v0 : Value) (x : (Value × List Rw) × (Value × List Rw) × (Value × List Rw)) (h0 : IsRaw3 w v0 x) :
    Calls Try.prog 8 #[v0] w fun e w' => e = .returned (.bool true) ∧ Below w.heap.size w w' := by
  obtain ⟨⟨va, la⟩, ⟨vb, lb⟩, ⟨vc, lc⟩⟩ := x
  obtain ⟨rfl, ha, hb, hc⟩ := h0
  simp only at ha hb hc ⊢
  have HA := Lib.hid ha
  have HB := Lib.hid hb
  have HC := Lib.hid hc
  have Hsan := Lib.hid hsan
  clear ha hb hc hsan
  go_enter Try.func8, Try.ntmps8
  go_wp2_with fail
  refine (Hsan.out _).mono ?_
  rintro e w1 ⟨rfl, hb1⟩
  have hs1 : SBx w va vb vc w1 := ⟨(Blk.new _ _ _).below hb1 (by simp), (below_box _).trans (hb1.mono (by simp))⟩
  have HS1 := Lib.hid hs1
  clear hb1 hs1
  go_upto_region 2 with fail
  go_cut [4, 5, 6] (fun s4 s5 s6 wx => ∃ p4 c4 p5 c5 p6 c6, s4 = .slice p4 (madeS la).length c4 ∧ s5 = .slice p5 (madeS lb).length c5 ∧ s6 = .slice p6 (madeS lc).length c6 ∧
    Hid (St w [(.slice p4 (madeS la).length c4, madeS la), (.slice p5 (madeS lb).length c5, madeS lb), (.slice p6 (madeS lc).length c6, madeS lc)] wx))
  case first =>
    have q0 : ∀ wr, SBx w va vb vc wr → wr.cell? ⟨w.heap.size, 0, none⟩ = some va := fun wr h => h.b.c0 0 _ rfl
    have q1 : ∀ wr, SBx w va vb vc wr → wr.cell? ⟨w.heap.size, 1, none⟩ = some vb := fun wr h => h.b.c0 1 _ rfl
    have q2 : ∀ wr, SBx w va vb vc wr → wr.cell? ⟨w.heap.size, 2, none⟩ = some vc := fun wr h => h.b.c0 2 _ rfl
    have Ha := Lib.hid (fun wr (h : SBx w va vb vc wr) => made_w va la wr (HA.out.below h.g))
    have Hb := Lib.hid (fun wr (h : SBx w va vb vc wr) => made_w vb lb wr (HB.out.below h.g))
    have Hc := Lib.hid (fun wr (h : SBx w va vb vc wr) => made_w vc lc wr (HC.out.below h.g))
    go_region_held3 (fun wr => SBx w va vb vc wr) (first | with_reducible assumption | exact SBx.below (by with_reducible assumption) (by with_reducible assumption) | exact HS1.out.drew)
      (first
        | (go_at_call 11; (with_reducible refine (Ha.out _ (by assumption)).mono ?_); rintro e w2 ⟨v2, rfl, -, hp2, hb2⟩)
        | (go_at_call 11; (with_reducible refine (Hb.out _ (by assumption)).mono ?_); rintro e w3 ⟨v3, rfl, -, hp3, hb3⟩; have hp2' := hp2.below hb3)
        | (go_at_call 11; (with_reducible refine (Hc.out _ (by assumption)).mono ?_); rintro e w4 ⟨v4, rfl, -, hp4, hb4⟩; have hp2'' := hp2'.below hb4; have hp3' := hp3.below hb4))
    all_goals
      have hS : SBx w va vb vc w4 := by with_reducible assumption
      have HS := Lib.hid hS
      go_wp2_with fail
      go_meet
      obtain ⟨-, -, c2, p2, rfl, -⟩ := hp2''.form
      obtain ⟨-, -, c3, p3, rfl, -⟩ := hp3'.form
      obtain ⟨-, -, c4, p4, rfl, -⟩ := hp4.form
      exact ⟨p2, c2, p3, c3, p4, c4, rfl, rfl, rfl, Lib.hid ((((St.start HS.out.g).add hp4).add hp3').add hp2'')⟩
  case rest =>
    obtain ⟨pa, ca, pb, cb, pc, cc, rfl, rfl, rfl, HS⟩ := hcut
    have sa := Lib.hid (srt_made la)
    have sb := Lib.hid (srt_made lb)
    have sc := Lib.hid (srt_made lc)
    have na := made_len la
    have nb := made_len lb
    have nc := made_len lc
    clear HS1 HA HB HC Hsan
    generalize madeS la = A at *
    generalize madeS lb = B at *
    generalize madeS lc = C at *
    have sab := Lib.hid (srt_union sa.out B)
    have sbc := Lib.hid (srt_union sb.out C)
    have nab := union_length A B
    have nbc := union_length B C
    have hass := Lib.hid (union_assoc sa.out sb.out sc.out)
    have hself := Lib.hid (union_self sa.out)
    have hvab := Lib.hid ((validB_iff _).2 sab.out)
    have hlab := Lib.hid (union_len sa.out sb.out)
    have HR := Lib.hid (fun j h => rest_take A B j h)
    have hrc := Lib.hid (rest_comm sa.out sb.out)
    have hrl := Lib.hid (rest_len sa.out sb.out)
    have srr := Lib.hid (srt_rest A sb.out)
    have nrr : (restS A B).length ≤ 40 := Nat.le_trans (List.length_filter_le _ _) nb
    go_wp2_with fail
    refine (st_union HS.out A B (by simp) (by simp) sa.out sb.out (by omega) (by omega)).mono ?_
    rintro e w5 ⟨pab, cab, rfl, hst⟩
    replace HS := Lib.hid hst
    clear hst
    go_wp2_with fail
    refine (st_union HS.out (unionS A B) C (by simp) (by simp) sab.out sc.out (by omega) (by omega)).mono ?_
    rintro e w6 ⟨pl, cl, rfl, hst⟩
    replace HS := Lib.hid hst
    clear hst
    go_wp2_with fail
    refine (st_union HS.out B C (by simp) (by simp) sb.out sc.out (by omega) (by omega)).mono ?_
    rintro e w7 ⟨pbc, cbc, rfl, hst⟩
    replace HS := Lib.hid hst
    clear hst
    go_wp2_with fail
    refine (st_union HS.out A (unionS B C) (by simp) (by simp) sa.out sbc.out (by omega) (by omega)).mono ?_
    rintro e w8 ⟨pr, cr, rfl, hst⟩
    replace HS := Lib.hid hst
    clear hst
    go_wp2_with fail
    refine (st_rvalid HS.out (unionS A B) (by simp) (by omega)).mono ?_
    rw [hvab.out]
    rintro e w9 ⟨rfl, hst⟩
    replace HS := Lib.hid hst
    clear hst
    go_wp2_with fail
    refine (st_same HS.out (unionS (unionS A B) C) (unionS A (unionS B C)) (by simp) (by simp)).mono ?_
    rw [decide_eq_true hass.out]
    rintro e w10 ⟨rfl, hst⟩
    replace HS := Lib.hid hst
    clear hst
    go_wp2_with fail
    refine (st_union HS.out A A (by simp) (by simp) sa.out sa.out (by omega) (by omega)).mono ?_
    rw [hself.out]
    rintro e w11 ⟨p1, c1, rfl, hst⟩
    replace HS := Lib.hid hst
    clear hst
    go_wp2_with fail
    refine (st_same HS.out A A (by simp) (by simp)).mono ?_
    rw [decide_eq_true (rfl : A = A)]
    rintro e w12 ⟨rfl, hst⟩
    replace HS := Lib.hid hst
    clear hst
    go_wp2_with fail
    refine (st_union_nil HS.out (va := .slice pa A.length ca) A (by simp) sa.out (by omega)).mono ?_
    rintro e w13 ⟨p2, c2, rfl, hst⟩
    replace HS := Lib.hid hst
    clear hst
    go_wp2_with fail
    refine (st_same HS.out A A (by simp) (by simp)).mono ?_
    rw [decide_eq_true (rfl : A = A)]
    rintro e w14 ⟨rfl, hst⟩
    replace HS := Lib.hid hst
    clear hst
    go_wp2_with fail
    refine (st_nil_union HS.out (va := .slice pa A.length ca) A (by simp) sa.out (by omega)).mono ?_
    rintro e w15 ⟨p3, c3, rfl, hst⟩
    replace HS := Lib.hid hst
    clear hst
    go_wp2_with fail
    refine (st_same HS.out A A (by simp) (by simp)).mono ?_
    rw [decide_eq_true (rfl : A = A)]
    rintro e w16 ⟨rfl, hst⟩
    replace HS := Lib.hid (hst.sub (M := [(.slice pa A.length ca, A), (.slice pb B.length cb, B), (.slice pab (unionS A B).length cab, unionS A B)]) (by simp))
    clear hst
    go_wp2
    obtain ⟨b0, off, capb, pb', hvb, hlcb, hcmb, hppb, hccb⟩ := (HS.out.at (v := .slice pb B.length cb) (l := B) (by simp)).form
    injection hvb with hv1 hv2 hv3
    subst hv1 hv3
    clear hv2
    unfold maxLen at hcmb
    have HPB := Lib.hid hppb
    have HCB := Lib.hid hccb
    clear hppb hccb
    have Hown0 := Lib.hid (own_empty w16 w16.heap.size (Nat.le_refl _))
    go_loopw [10, 11] (fun o i wr => ∃ j : Nat, j ≤ B.length ∧ i = .int .i64 j ∧ wr.ownsRow w16.heap.size 30 3 o (restS A (B.take j)).length ((restS A (B.take j)).flatMap encP) ∧ Below w16.heap.size w16 wr) (fun _ i _ => B.length - (intOf i).toNat)
    case atStart => exact ⟨0, Nat.zero_le _, rfl, Hown0.out, below_box _⟩
    case round =>
      clear Hown0
      obtain ⟨j, hj, rfl, hown, hbel⟩ := hrel
      have hsz := hbel.size
      have Hown := Lib.hid hown
      have Hbel := Lib.hid hbel
      have HSr := Lib.hid (HS.out.below hbel)
      clear hown
      by_cases hlt : j < B.length
      · obtain ⟨rfl, hc⟩ := HCB.out j hlt
        have hgl := (HPB.out (by rintro rfl; simp at hlt)).2
        have hltz : (j : Int) < (B.length : Int) := by omega
        have hcc := fun (wx : World) (hb : Below w16.heap.size w16 wx) => cells_in hb hgl hc
        obtain ⟨c0, c1, c2⟩ := hcc wr hbel
        have Hcc := Lib.hid hcc
        have hxs := Lib.hid ((HSr.out.at (v := .slice (some ⟨b0, off, none⟩) B.length cb) (l := B) (by simp)).small B[j] (List.getElem_mem hlt))
        have hgw : b0 < wr.heap.size := by omega
        have Htk := Lib.hid (HR.out j hlt)
        have hrl2 : (restS A (B.take j)).length ≤ 40 := Nat.le_trans (List.length_filter_le _ _) (by rw [List.length_take]; omega)
        clear hbel hc hcc
        generalize B[j] = x at *
        obtain ⟨xk, xv, xt⟩ := x
        simp only at c0 c1 c2 Htk
        generalize restS A (B.take j) = left at *
        cases hf : findS xk A with
        | none =>
          have Hn : Hid (restS A (B.take (j + 1)) = left ++ [(xk, xv, xt)]) := Lib.hid (by rw [Htk.out, hf]; rfl)
          have Hv := Lib.hid (findV_none hf)
          clear Htk hf
          go_wp2_with fail
          refine (rfind_w _ A xk wr (HSr.out.at (v := .slice pa A.length ca) (l := A) (by simp)) (by omega)).mono ?_
          rw [Hv.out]
          rintro e w17 ⟨rfl, hb17⟩
          have Hown17 := Lib.hid (owns_below Hown.out hb17)
          have Hb17 : Hid (Below w16.heap.size w16 w17) := Lib.hid (Hbel.out.trans (hb17.mono hsz))
          have hs17 := Hb17.out.size
          have hgw17 : b0 < w17.heap.size := Nat.lt_of_lt_of_le hgl hs17
          obtain ⟨c0, c1, c2⟩ := Hcc.out w17 Hb17.out
          clear hb17
          go_wp2_with (at_builtin; refine append_pairs rfl _ _ rfl w16.heap.size _ left rfl ((Hown17.out.alloc _).alloc _) _ [(xk, xv, xt)] rfl (one_pairs' (xk, xv, xt) hxs.out (by simp)) (by simp only [List.length_cons, List.length_nil]; omega) (by simp; omega) ?_; intro v2 w2 hown2 hbel2)
          have Hown2 := Lib.hid hown2
          have Hbel2 : Hid (Below w16.heap.size w16 w2) := Lib.hid (((Hb17.out.alloc hs17 _).alloc (by simp; omega) _).trans hbel2)
          clear hown2 hbel2
          go_wp2
          go_roundw
          case rel => exact ⟨j + 1, by omega, by go_num, by rw [Hn.out]; exact Hown2.out, Hbel2.out⟩
          case measure => simp [intOf]; omega
        | some y =>
          have Hn : Hid (restS A (B.take (j + 1)) = left) := Lib.hid (by rw [Htk.out, hf]; simp)
          have Hv := Lib.hid (findV_some hf)
          clear Htk hf
          go_wp2_with fail
          refine (rfind_w _ A xk wr (HSr.out.at (v := .slice pa A.length ca) (l := A) (by simp)) (by omega)).mono ?_
          rw [Hv.out]
          rintro e w17 ⟨rfl, hb17⟩
          have Hown17 := Lib.hid (owns_below Hown.out hb17)
          have Hb17 : Hid (Below w16.heap.size w16 w17) := Lib.hid (Hbel.out.trans (hb17.mono hsz))
          have hs17 := Hb17.out.size
          have hgw17 : b0 < w17.heap.size := Nat.lt_of_lt_of_le hgl hs17
          obtain ⟨c0, c1, c2⟩ := Hcc.out w17 Hb17.out
          clear hb17
          go_wp2
          go_roundw
          case rel => exact ⟨j + 1, by omega, by go_num, by rw [Hn.out]; exact owns_below Hown17.out (below_box _), Hb17.out.alloc hs17 _⟩
          case measure => simp [intOf]; omega
      · obtain rfl : j = B.length := by omega
        rw [List.take_length] at Hown
        have hpr := IsPairs.owned Hown.out (fun x hx => (HSr.out.at (v := .slice pb B.length cb) (l := B) (by simp)).small x (List.mem_filter.1 hx).1)
        obtain ⟨-, -, crr, prr, rfl, -⟩ := hpr.form
        have HSf : Hid (St w [(.slice prr (restS A B).length crr, restS A B), (.slice pa A.length ca, A), (.slice pab (unionS A B).length cab, unionS A B)] wr) := Lib.hid ((HSr.out.add hpr).sub (by simp))
        have hlr : (unionS A B).length = A.length + (restS A B).length := hlab.out
        have Hlr := Lib.hid hlr
        clear hbel hpr Hown HSr HS hlr
        go_wp2_with fail
        refine (st_union HSf.out A (restS A B) (by simp) (by simp) sa.out srr.out (by omega) (by omega)).mono ?_
        rintro e w20 ⟨p20, c20, rfl, hst⟩
        have HS20 := Lib.hid hst
        clear hst HSf
        go_wp2_with fail
        refine (st_union HS20.out (restS A B) A (by simp) (by simp) srr.out sa.out (by omega) (by omega)).mono ?_
        rintro e w21 ⟨p21, c21, rfl, hst⟩
        have HS21 := Lib.hid hst
        clear hst HS20
        go_wp2_with fail
        refine (st_same HS21.out (unionS A (restS A B)) (unionS (restS A B) A) (by simp) (by simp)).mono ?_
        rw [decide_eq_true hrc.out]
        rintro e w22 ⟨rfl, hst⟩
        have HS22 := Lib.hid hst
        clear hst HS21
        go_wp2_with fail
        refine (st_union HS22.out A (restS A B) (by simp) (by simp) sa.out srr.out (by omega) (by omega)).mono ?_
        rw [show StOut w _ (unionS A (restS A B)) = StOut w _ (unionS A (restS A B)) from rfl]
        rintro e w23 ⟨p23, c23, rfl, hst⟩
        rw [hrl.out, Hlr.out]
        have Hg := Lib.hid hst.g
        clear hst HS22
        go_wp2
        go_ret
        exact ⟨rfl, Hg.out⟩

end Go.Proofs.Ytbbiobhffelaaaa
