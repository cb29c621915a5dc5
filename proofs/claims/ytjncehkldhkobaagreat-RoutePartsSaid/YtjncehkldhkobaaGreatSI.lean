/-
  The walk of the law RouteStays.
-/
import Derived.Test.YtjncehkldhkobaaGreatSH
import Derived.Test.YtjncehkldhkobaaGreatSE
namespace Go.Proofs.YtjncehkldhkobaaGreat
open Go.RowKit Go.Sort
set_option linter.unusedVariables false

theorem pl_kind (m : Ms) : plB m = (!decide (m.kind = 3) && !decide (m.kind = 6)) := by unfold plB hasSpB; rw [Bool.not_or]
theorem msg_cells {w : World} {v : Value} {l : List Ms} (h : IsMsgs w v l) (i : Nat) (hi : i < l.length) : ∃ b off cap, v = .slice (some ⟨b, off, none⟩) l.length cap ∧ b < w.heap.size ∧ (l.length : Int) ≤ 9223372036854775807 ∧ MAt w b (off + i * 8) l[i] := by
  obtain ⟨a, cap, rfl, h1, h2, h3⟩ := h
  obtain ⟨b, off, rfl, h4, h5⟩ := h3 (by rintro rfl; simp at hi)
  unfold maxLen at h2
  exact ⟨b, off, cap, rfl, h4, by omega, h5 i hi⟩
theorem rowB {W wx wy : World} {v' : Value} {l : List Ms} (ho : OwnM wy W.heap.size v' l) (ht : Turn (.slice (some ⟨W.heap.size, 0, none⟩) 0 0) v' wx wy) (h : Below W.heap.size W wx) : Below W.heap.size W wy :=
  h.trans (Below.grown (Below.refl _ _) ht.1 h.size (fun k hk => Nat.le_of_eq (Option.some.inj hk)))
theorem rowB5 {W wx wy : World} {v v' : Value} {l : List Ms} (ho : OwnM wx W.heap.size v l) (ht : Turn v v' wx wy) (h : Below W.heap.size W wx) : Below W.heap.size W wy :=
  h.trans (Below.grown (Below.refl _ _) ht.1 h.size (fun k hk => (ho.lt k hk).1))
def BothAt (w : World) (v : Value) (l : List Ms) (wx : World) : Prop := ∃ a c, v = .slice a l.length c ∧ IsMsgs wx (.slice a l.length c) l ∧ Below w.heap.size w wx

set_option maxRecDepth 100000 in
set_option maxHeartbeats 8000000 in
theorem routeStays_walk (w : World) (v1 : Value) (x1 : List R6) (r1 : IsR6s w v1 x1) (v2 : Value) (x2 : Bs) (r2 : IsBytes w v2 x2) :
    Calls Tryz.prog 10 #[v1, v2] w fun e w' => e = .returned (.bool true) ∧ Below w.heap.size w w' := by
  have mixed := mixedA
  have R1 := Lib.hid r1
  have R2 := Lib.hid r2
  obtain ⟨a1, q1, rfl, -⟩ := r1
  obtain ⟨a2, q2, rfl, -⟩ := r2
  have HSAN := Lib.hid (sanity_w w)
  go_enter Tryz.func10, Tryz.ntmps10
  go_wp2_with fail
  refine HSAN.out.mono ?_
  rintro e w1 ⟨rfl, hb1⟩
  have HB2 := Lib.hid hb1
  clear hb1 HSAN
  go_wp2_with fail
  refine (list_w _ x1 10 w1 (R1.out.below HB2.out) (by decide)).mono ?_
  rintro e w3 ⟨vb, rfl, ho3, hb3⟩
  have HM3 := Lib.hid ho3.msgs
  have HB3 := Lib.hid (HB2.out.trans (hb3.mono HB2.out.size))
  clear ho3 hb3 HB2
  go_wp2_with fail
  refine (pivots8_w _ x2 w3 (R2.out.below HB3.out)).mono ?_
  rintro e w5 ⟨vp, rfl, hs4, hb4⟩
  have HS5 := Lib.hid hs4
  have HM5 := Lib.hid (HM3.out.below hb4)
  have HB5 := Lib.hid (HB3.out.trans (hb4.mono HB3.out.size))
  clear hb4 HM3 HB3 R1 R2
  have hbo := listS_okR x1 10
  have hbl := listS_len x1 10
  have hpl := pivR_len x2
  have hkz := kid_size x2
  generalize listS x1 10 = B at *
  generalize pivR x2 = ps at *
  have HKZ := Lib.hid hkz
  have HOB : Hid (∀ m ∈ B, OkR m) := Lib.hid (fun m hm => (hbo m hm).1)
  have HFR := Lib.hid (ready_free B (fun m hm => ⟨(hbo m hm).1.2.1, writes_valid (hbo m hm).2⟩))
  obtain ⟨ab, cb, rfl, hcb, hcbm, -⟩ := id HM5.out
  obtain ⟨ap, cp, rfl, hcp, hcpm, -⟩ := id HS5.out
  have hplB := pl_len B
  have HPT := Lib.hid (fun k (h : k < B.length) => pl_take B k h)
  clear hbo hkz hs4
  go_wp2
  go_loopw [8] (fun i wr => ∃ k : Nat, i = .int .i64 k ∧ k ≤ ps.length + 1 ∧ Below w5.heap.size w5 wr) (fun i _ => ps.length + 1 - (intOf i).toNat)
  case atStart => exact ⟨0, rfl, Nat.zero_le _, Below.refl _ _⟩
  case round =>
    obtain ⟨k, rfl, hk, hbel⟩ := hrel
    have Hbel := Lib.hid hbel
    clear hbel
    by_cases hle : k ≤ ps.length
    · have hlez : (k : Int) ≤ (ps.length : Int) := by omega
      have hlen := ready_len (kidSp ps k) B
      have HR1 := Lib.hid (fun wx (h1 : IsMsgs wx (.slice ab B.length cb) B) (h2 : IsStrs wx (.slice ap ps.length cp) ps) => lready_w _ _ B ps k wx h1 h2 (fun m hm => (HOB.out m hm).1) (fun m hm => (HOB.out m hm).2.1) hle (HKZ.out k) (by omega) (by omega))
      have hpr := pl_ready (kidSp ps k) B
      unfold WayOut at HR1
      generalize readyW (kidSp ps k) B = W1 at *
      obtain ⟨G, St, Bl⟩ := W1
      dsimp only at HR1 hlen hpr
      rw [← pl_app] at hpr
      have HPR := Lib.hid hpr
      clear hpr
      go_wp2_with fail
      refine (HR1.out _ (HM5.out.below Hbel.out) (HS5.out.below Hbel.out)).mono ?_
      rintro e w6 ⟨g1, s1, rfl, hg1, hs1, hb6⟩
      have HG6 := Lib.hid hg1.msgs
      have HS6 := Lib.hid hs1.msgs
      have HB6 := Lib.hid (Hbel.out.trans (hb6.mono Hbel.out.size))
      obtain ⟨ag, cg, rfl, -⟩ := hg1.msgs
      obtain ⟨asx, csx, rfl, -⟩ := hs1.msgs
      clear hg1 hs1 hb6
      have hX : Blk (w6.alloc (.cells #[.slice ag G.length cg, .slice asx St.length csx, .slice none 0 0] 34)) w6.heap.size 34 #[.slice ag G.length cg, .slice asx St.length csx, .slice none 0 0] := Blk.new _ _ _
      have hbx6 := below_box (w := w6) (.cells #[.slice ag G.length cg, .slice asx St.length csx, .slice none 0 0] 34)
      have HX := Lib.hid hX
      have HB7 := Lib.hid (HB6.out.trans (hbx6.mono HB6.out.size))
      have HG7 := Lib.hid (HG6.out.below hbx6)
      have HS7 := Lib.hid (HS6.out.below hbx6)
      clear hX hbx6
      go_wp2_with fail
      generalize w6.alloc (.cells #[.slice ag G.length cg, .slice asx St.length csx, .slice none 0 0] 34) = w7 at *
      generalize w6.heap.size = bx at *
      have hx0 : ∀ wx, Below w7.heap.size w7 wx → wx.cell? ⟨bx, 0, none⟩ = some (.slice ag G.length cg) := fun wx hx => (HX.out.below hx HX.out.lt).c0 0 _ rfl
      have hx1 : ∀ wx, Below w7.heap.size w7 wx → wx.cell? ⟨bx, 1, none⟩ = some (.slice asx St.length csx) := fun wx hx => (HX.out.below hx HX.out.lt).c0 1 _ rfl
      have HL0 : Hid (Below w7.heap.size w7 w7) := Lib.hid (Below.refl _ _)
      go_cut [10, 11] (fun s10 s11 wx => s11 = .int .i64 0 ∧ Hid (BothAt w7 s10 (G ++ St) wx))
      case first =>
        go_region_held3 (fun wx => Below w7.heap.size w7 wx)
          (repeat (first | with_reducible assumption | with_reducible exact HL0.out | with_reducible refine Below.drew ?_ | with_reducible refine keepA ?_ _))
          (first
            | (refine step_msgs rfl _ _ rfl w7.heap.size (.slice (some ⟨w7.heap.size, 0, none⟩) 0 0) [] rfl (by first | exact own_emptyM w7 _ (Nat.le_refl _) | exact OwnM.below (own_emptyM w7 _ (Nat.le_refl _)) (below_drewN _ 1) | exact own_emptyM w7.drew _ (Nat.le_refl _)) ag G.length cg G rfl (HG7.out.below (by repeat (first | with_reducible exact HL0.out | with_reducible refine Below.drew ?_ | with_reducible refine keepA ?_ _))) (by simp only [List.length_nil]; omega) (by simp) ?_; intro v3 y3 ho3 ht3; have hS3 : Below w7.heap.size w7 y3 := rowB ho3 ht3 (by repeat (first | with_reducible exact HL0.out | with_reducible refine Below.drew ?_ | with_reducible refine keepA ?_ _)))
            | (refine step_msgs rfl _ _ rfl w7.heap.size v3 ([] ++ G) rfl (by first | with_reducible exact ho3 | with_reducible exact ho3.below (below_drewN _ 1)) asx St.length csx St rfl (HS7.out.below (by repeat (first | with_reducible assumption | with_reducible refine Below.drew ?_))) (by simp only [List.nil_append]; omega) (hS3.size) ?_; intro v5 y5 ho5 ht5; have hS5 : Below w7.heap.size w7 y5 := rowB5 ho3 ht5 hS3)
            | fail "no arm")
        all_goals (go_wp2_with fail; go_meet)
        all_goals
          rw [List.nil_append] at ho5
          refine ⟨rfl, Lib.hid ?_⟩
          obtain ⟨a5, c5, rfl, -⟩ := ho5.msgs
          exact ⟨a5, c5, rfl, ho5.msgs, hS5⟩
      case rest =>
        obtain ⟨rfl, hcut⟩ := hcut
        clear hx0 hx1
        obtain ⟨a5, c5, rfl, h5, hb5⟩ := hcut.out
        have HC5 := Lib.hid h5
        have HBC := Lib.hid (HB7.out.trans (hb5.mono HB7.out.size))
        have HMC := Lib.hid (HM5.out.below HBC.out)
        have HQ := Lib.hid (fun j (h : j < (G ++ St).length) => pl_take (G ++ St) j h)
        have hboth : (G ++ St).length ≤ 3 * B.length := by rw [List.length_append]; omega
        have hqn := Lib.hid (fun j => (show plN ((G ++ St).take j) + plN ((G ++ St).drop j) = plN B by rw [← pl_app, List.take_append_drop]; exact HPR.out))
        have HEND := HPR.out
        have HQE : Hid (plN ((G ++ St).take (G ++ St).length) = plN B) := Lib.hid (by rw [List.take_length]; exact HEND)
        clear h5 hb5 hcut HEND HX HG7 HS7 HG6 HS6 HL0
        generalize G ++ St = C at *
        have hc0 : (C.length : Int) ≤ 9223372036854775807 := by omega
        have hb0 : (B.length : Int) ≤ 9223372036854775807 := by omega
        go_wp2
        go_loop [11, 12] (fun n i => ∃ j : Nat, j ≤ B.length ∧ i = .int .i64 j ∧ n = .int .i64 (plN (B.take j) : Nat)) (fun _ i => B.length - (intOf i).toNat)
        case atStart => exact ⟨0, Nat.zero_le _, rfl, by rw [List.take_zero]; rfl⟩
        case round =>
          obtain ⟨j, hj, rfl, rfl⟩ := hrel
          by_cases hlt : j < B.length
          · obtain ⟨b, off, cap, he, hbl', hlz, hm⟩ := msg_cells HMC.out j hlt
            injection he with he1 he2 he3
            subst he1 he3
            clear he2
            have hltz : (j : Int) < (B.length : Int) := by omega
            have htk := HPT.out j hlt
            have hpn := pl_len (B.take j)
            have hpn2 : (B.take j).length ≤ 10 := by rw [List.length_take]; omega
            rw [pl_kind] at htk
            obtain ⟨c0, -⟩ := hm
            generalize (B[j]).kind = kd at *
            have HTK := Lib.hid htk
            clear htk
            generalize plN (B.take j) = pn at *
            by_cases h3 : kd = 3
            · subst h3
              go_wp2
              go_round
              case rel => exact ⟨j + 1, by omega, by go_num, by rw [HTK.out]; simp⟩
              case measure => simp [intOf]; omega
            · have h3b : (kd == 3) = false := by simpa using h3
              have h3c : (kd != 3) = true := by simpa using h3
              by_cases h6 : kd = 6
              · subst h6
                go_wp2
                go_round
                case rel => exact ⟨j + 1, by omega, by go_num, by rw [HTK.out]; simp⟩
                case measure => simp [intOf]; omega
              · have h6b : (kd == 6) = false := by simpa using h6
                have h6c : (kd != 6) = true := by simpa using h6
                have HD : Hid ((if (!decide (kd = 3) && !decide (kd = 6)) = true then 1 else 0) = 1) := Lib.hid (by rw [decide_eq_false h3, decide_eq_false h6]; rfl)
                clear h3 h6
                go_wp2
                go_round
                case rel => exact ⟨j + 1, by omega, by go_num, by rw [HTK.out, HD.out]; go_num⟩
                case measure => simp [intOf]; omega
          · obtain rfl : j = B.length := by omega
            rw [List.take_length]
            clear hlt hj
            have hpbl : plN B ≤ 10 := by omega
            generalize hpb : plN B = pb at *
            go_wp2
            go_loop [11, 13] (fun n i => ∃ j : Nat, j ≤ C.length ∧ i = .int .i64 j ∧ n = .int .i64 (plN (C.drop j) : Nat)) (fun _ i => C.length - (intOf i).toNat)
            case atStart => exact ⟨0, Nat.zero_le _, rfl, by have h := hqn.out 0; rw [List.take_zero] at h; rw [← h]; simp [plN]⟩
            case round =>
              obtain ⟨j, hj, rfl, rfl⟩ := hrel
              by_cases hlt : j < C.length
              · obtain ⟨b, off, cap, he, hbl', hlz, hm⟩ := msg_cells HC5.out j hlt
                injection he with he1 he2 he3
                subst he1 he3
                clear he2
                have hltz : (j : Int) < (C.length : Int) := by omega
                have htk := HQ.out j hlt
                have hd1 := hqn.out j
                have hd2 := hqn.out (j + 1)
                rw [pl_kind] at htk
                obtain ⟨c0, -⟩ := hm
                generalize (C[j]).kind = kd at *
                generalize plN (C.take (j + 1)) = pt1 at *
                generalize plN (C.take j) = pt at *
                generalize hpd1 : plN (C.drop (j + 1)) = pd1 at *
                have HPD1 := Lib.hid hpd1
                clear hpd1
                generalize plN (C.drop j) = pd at *
                have hdb : pd ≤ 10 := by omega
                have HTK := Lib.hid htk
                have HD1 := Lib.hid hd1
                have HD2 := Lib.hid hd2
                clear htk hd1 hd2
                by_cases h3 : kd = 3
                · subst h3
                  have HE : Hid (pd1 = pd) := Lib.hid (by have h1 := HTK.out; have h2 := HD1.out; have h3 := HD2.out; simp at h1; omega)
                  go_wp2
                  go_round
                  case rel => exact ⟨j + 1, by omega, by go_num, by rw [HPD1.out, HE.out]⟩
                  case measure => simp [intOf]; omega
                · have h3b : (kd == 3) = false := by simpa using h3
                  have h3c : (kd != 3) = true := by simpa using h3
                  by_cases h6 : kd = 6
                  · subst h6
                    have HE : Hid (pd1 = pd) := Lib.hid (by have h1 := HTK.out; have h2 := HD1.out; have h3 := HD2.out; simp at h1; omega)
                    go_wp2
                    go_round
                    case rel => exact ⟨j + 1, by omega, by go_num, by rw [HPD1.out, HE.out]⟩
                    case measure => simp [intOf]; omega
                  · have h6b : (kd == 6) = false := by simpa using h6
                    have h6c : (kd != 6) = true := by simpa using h6
                    have HE : Hid (pd = pd1 + 1) := Lib.hid (by
                      have h1 := HTK.out
                      rw [decide_eq_false h3, decide_eq_false h6] at h1
                      have h2 := HD1.out; have h3 := HD2.out; simp at h1; omega)
                    clear h3 h6
                    go_wp2
                    go_round
                    case rel => exact ⟨j + 1, by omega, by go_num, by rw [HPD1.out]; have h9 := HE.out; congr 1; omega⟩
                    case measure => simp [intOf]; omega
              · obtain rfl : j = C.length := by omega
                have h0 : plN (C.drop C.length) = 0 := by rw [List.drop_length]; rfl
                rw [h0]
                have h3z : (C.length : Int) ≤ 3 * (B.length : Int) := by omega
                have HF := Lib.hid (HBC.out)
                clear hlt hj h0
                go_wp2
                go_roundw
                case rel => exact ⟨k + 1, by go_num, by omega, HF.out⟩
                case measure => simp [intOf]; omega
    · have hle' : ps.length < k := by omega
      have hlez : (ps.length : Int) < (k : Int) := by omega
      have HR0 := Lib.hid (fun wx (h1 : IsMsgs wx (.slice ab B.length cb) B) => lready_w _ (.slice none 0 0) B [] 0 wx h1 ⟨none, 0, rfl, Nat.le_refl _, Nat.zero_le _, fun h => absurd rfl h⟩ (fun m hm => (HOB.out m hm).1) (fun m hm => (HOB.out m hm).2.1) (Nat.le_refl _) (by rw [kid_none]; unfold SizeP; decide) (by omega) (by decide))
      unfold WayOut at HR0
      rw [kid_none, HFR.out] at HR0
      dsimp only at HR0
      go_wp2_with fail
      refine (HR0.out _ (HM5.out.below Hbel.out)).mono ?_
      rintro e w6 ⟨g1, s1, rfl, hg1, hs1, hb6⟩
      have HG6 := Lib.hid hg1.msgs
      have HB6 := Lib.hid (Hbel.out.trans (hb6.mono Hbel.out.size))
      have hg2 := hg1.msgs
      have hs2 := hs1.msgs
      obtain ⟨ag, cg, rfl, -⟩ := hg2
      obtain ⟨asx, csx, rfl, -⟩ := hs2
      clear hg1 hs1 hb6
      have hX : Blk (w6.alloc (.cells #[.slice ag B.length cg, .slice asx 0 csx, .slice none 0 0] 34)) w6.heap.size 34 #[.slice ag B.length cg, .slice asx 0 csx, .slice none 0 0] := Blk.new _ _ _
      have hbx6 := below_box (w := w6) (.cells #[.slice ag B.length cg, .slice asx 0 csx, .slice none 0 0] 34)
      have HX := Lib.hid hX
      have HB7 := Lib.hid (HB6.out.trans (hbx6.mono HB6.out.size))
      have HG7 := Lib.hid (HG6.out.below hbx6)
      have HM7 := Lib.hid (HM5.out.below HB7.out)
      clear hX hbx6
      simp only [List.length_nil] at *
      go_wp2_with fail
      generalize w6.alloc (.cells #[.slice ag B.length cg, .slice asx 0 csx, .slice none 0 0] 34) = w7 at *
      generalize w6.heap.size = bx at *
      refine (samemsgs_w _ _ B B w7 HG7.out HM7.out).mono ?_
      rintro e w8 ⟨rfl, nd, hw8⟩
      have hb8 : Below w7.heap.size w7 w8 := by rw [hw8]; exact below_drewN _ _
      have HX8 := Lib.hid (HX.out.below hb8 HX.out.lt)
      have HB8 := Lib.hid (HB5.out.trans ((HB7.out.trans (hb8.mono HB7.out.size)).mono HB5.out.size))
      have y1 : w8.cell? ⟨bx, 1, none⟩ = some (.slice asx 0 csx) := HX8.out.c0 1 _ rfl
      clear hw8 hb8
      rw [decide_eq_true rfl]
      go_wp2_with fail
      go_ret
      exact ⟨by first | rfl | simp, HB8.out⟩

end Go.Proofs.YtjncehkldhkobaaGreat
