/-
  Walks: reference 11's Reach.
-/
import Derived.Test.YtlgangcldlphnaaPS
import Derived.Test.YtlgangcldlphnaaPL2
namespace Go.Proofs.Ytlgangcldlphnaa
open Go.RowKit Go.Sort
set_option linter.unusedVariables false
set_option maxRecDepth 100000

theorem markQ_nil (P : List Sl) (f : Nat) (m : List Bool) : markQ P f [] m = m := by cases f <;> rfl
theorem markQ_cons (P : List Sl) (f : Nat) (k : Int) (V : List Int) (m : List Bool) : markQ P (f + 1) (k :: V) m = if usedB P k && !mkd m k.toNat then markQ P f (V ++ (atP P k.toNat).node.kids) (m.set k.toNat true) else markQ P f V m := by rw [markQ]
set_option maxHeartbeats 8000000 in
theorem rreach_w (v u : Value) (P : List Sl) (W : List Int) (w : World) (h : IsSlots w v P) (hu : IsInts w u W) (hl : P.length ≤ 1000000) (hf : fuelR P W ≤ 1000000) :
    Calls Try.prog 27 #[poolV v, u] w fun e w' => ∃ v', e = .returned v' ∧ w'.ownsRow w.heap.size 3 1 v' (reachP P W).length ((reachP P W).flatMap encI) ∧ Below w.heap.size w w' := by
  have mixed := mixedA
  obtain ⟨i0, hi, hz0, hz1, hz2⟩ := info_parts infoB
  have H := Lib.hid h
  have HI := Lib.hid hu
  have HUS := Lib.hid (fun i wx (hx : Below w.heap.size w wx) => rused_w v P i wx (h.below hx))
  have HF0 := Lib.hid hf
  have HWL : Hid (W.length ≤ 1000000) := Lib.hid (by unfold fuelR at hf; omega)
  obtain ⟨a, cap, rfl, hle, hcm, hpm⟩ := h.slice
  clear h hu hf
  have HBX : Hid (Blk (w.alloc (.cells #[.slice a P.length cap] 29)) w.heap.size 29 #[.slice a P.length cap]) := Lib.hid (Blk.new _ _ _)
  go_enter Try.func27, Try.ntmps27
  go_upto_region 2 with (at_make; refine wpList_make_full _ rfl _ _ 69 rfl (w.heap.size + 1) 4 i0 (.bool false) 1 Try.underlying69 hi hz0 hz1 .i64 .i64 _ _ P.length rfl rfl rfl rfl (by rw [hz2]; omega) (by unfold maxLen; omega) (by simp) ?_; intro w1 hown1 hgrow1)
  simp only [World.size_alloc] at hown1
  have HG1 : Hid (Below (w.heap.size + 1) (w.alloc (.cells #[.slice a P.length cap] 29)) w1) := Lib.hid (Below.grown (Below.refl _ _) hgrow1 (by simp) (fun k hk => by cases hk))
  have hmk := (own_blk hown1)
  rw [made_marks] at hmk
  have HM1 := Lib.hid hmk.1
  clear hown1 hgrow1 hmk
  have HL1 : Hid (w.heap.size + 1 < w1.heap.size) := Lib.hid HM1.out.lt
  have HBX1 : Hid (Blk w1 w.heap.size 29 #[.slice a P.length cap]) := Lib.hid (HBX.out.below HG1.out (by omega))
  have HBw1 : Hid (Below w.heap.size w w1) := Lib.hid ((below_box _).trans (HG1.out.mono (by omega)))
  have HI1 : Hid (IsInts (w1.alloc (.cells #[] 3)) u W) := Lib.hid (HI.out.below (keepP HBw1.out _))
  go_wp2_with (at_builtin; refine append_ints rfl _ _ rfl w1.heap.size _ [] rfl (own_emptyI w1 _ (Nat.le_refl _)) u W rfl HI1.out (by have := HWL.out; simp; omega) (by simp) ?_; intro v2 w2 hown hb; rw [List.nil_append] at hown; have HO2 := Lib.hid hown; have HB2 := Lib.hid hb; clear hown hb)
  have HIN2 : Hid (IsInts w2 v2 W) := Lib.hid (IsInts.owned HO2.out)
  have HBK2 : Hid (∀ b, blkOf v2 = some b → w1.heap.size ≤ b) := Lib.hid (own_blkOf HO2.out)
  have HB12 : Hid (Below w1.heap.size w1 w2) := Lib.hid ((below_box _).trans HB2.out)
  clear HO2 HB2 HI1
  go_loopg [6] (fuelR P W) (fun f s6 wr => ∃ (W' : List Int) (m : List Bool), Hid (IsInts wr s6 W') ∧ Hid (∀ b, blkOf s6 = some b → w1.heap.size ≤ b) ∧ Hid (Below (w.heap.size + 1) w1 wr) ∧ Hid (w1.heap.size ≤ wr.heap.size) ∧ Hid (Blk wr (w.heap.size + 1) 4 (marksA m)) ∧ Hid (m.length = P.length) ∧
    Hid (markQ P f W' m = marksP P W) ∧ Hid (W'.length + unm m * (kidsA P).length ≤ f) ∧ Hid (f ≤ 1000000))
  case atStart =>
    exact ⟨W, List.replicate P.length false, HIN2, HBK2, Lib.hid (HB12.out.mono (by have := HL1.out; omega)), Lib.hid HB12.out.size, Lib.hid (HM1.out.below HB12.out HM1.out.lt), Lib.hid (by simp), Lib.hid rfl, Lib.hid (by unfold fuelR unm; simp), HF0⟩
  case round =>
    clear HIN2 HBK2 HB12
    obtain ⟨W', m, HW, HWB, HB, HSZ, HM, HML, HE, HMU, HF⟩ := hrel
    have HBw : Hid (Below w.heap.size w wr) := Lib.hid ((below_box _).trans ((HG1.out.trans HB.out).mono (by omega)))
    have HBXr : Hid (Blk wr w.heap.size 29 #[.slice a P.length cap]) := Lib.hid (HBX1.out.below HB.out (by omega))
    rcases W' with _ | ⟨kid, V⟩
    · obtain ⟨at0, ct, rfl, hct, -⟩ := HW.out.slice
      have HRES : Hid (m = marksP P W) := Lib.hid (by rw [← HE.out, markQ_nil])
      have HX : Hid (idxM m P.length = reachP P W) := Lib.hid (by rw [HRES.out]; rfl)
      simp only [List.length_nil]
      go_wp2_with fail
      clear hct
      obtain ⟨wo, hwo⟩ : ∃ wo, wo = wr := ⟨_, rfl⟩
      subst hwo
      go_loopw [8, 9] (fun v i wx => ∃ k : Nat, k ≤ P.length ∧ i = .int .i64 k ∧ Hid (wx.ownsRow wo.heap.size 3 1 v (idxM m k).length ((idxM m k).flatMap encI)) ∧ Hid (Below wo.heap.size wo wx)) (fun _ i _ => P.length - (intOf i).toNat)
      case atStart => exact ⟨0, Nat.zero_le _, rfl, Lib.hid (own_emptyI wo _ (Nat.le_refl _)), Lib.hid (below_box _)⟩
      case round =>
        obtain ⟨k, hk, rfl, HO, HBx⟩ := hrel
        by_cases hlt : k < P.length
        · have hltz : (k : Int) < (P.length : Int) := by omega
          have m0 : wr.cell? ⟨w.heap.size + 1, k, none⟩ = some (.bool (mkd m k)) := (HM.out.below HBx.out HM.out.lt).c0 k _ (marks_get (by rw [HML.out]; exact hlt))
          have HSN := Lib.hid (idxM_snoc m k)
          have HLE : Hid ((idxM m k).length ≤ 1000000) := Lib.hid (Nat.le_trans (idxM_len m k) (by omega))
          cases hmk : mkd m k
          · rw [hmk] at m0 HSN
            have HSN2 : Hid (idxM m (k + 1) = idxM m k) := Lib.hid (by rw [HSN.out]; simp)
            clear hmk
            go_wp2
            go_roundw
            case rel => exact ⟨k + 1, by omega, by go_num, by rw [HSN2.out]; exact HO, HBx⟩
            case measure => simp [intOf]; omega
          · rw [hmk] at m0 HSN
            have HSN2 : Hid (idxM m (k + 1) = idxM m k ++ [(k : Int)]) := Lib.hid (by rw [HSN.out]; simp)
            clear hmk
            go_wp2_with (at_builtin; refine append_ints rfl _ _ rfl wo.heap.size _ (idxM m k) rfl (HO.out.alloc _) _ [(k : Int)] rfl (isInts_lit [(k : Int)] rfl (by simp) (by simp)) (Nat.le_trans (Nat.add_le_add_right HLE.out _) (by simp)) (by have := HBx.out.size; simp; omega) ?_; intro v4 w4 hown hb)
            have HO4 := Lib.hid hown
            have HB4 := Lib.hid hb
            clear hown hb
            go_roundw
            case rel =>
              refine ⟨k + 1, by omega, by go_num, ?_, Lib.hid (HBx.out.trans (((below_box _).mono HBx.out.size).trans HB4.out))⟩
              rw [HSN2.out]
              exact HO4
            case measure => simp [intOf]; omega
        · obtain rfl : k = P.length := by omega
          rw [HX.out] at HO
          go_wp2
          go_ret
          exact ⟨_, rfl, owns_lower HO.out HBw.out.size, HBw.out.trans (HBx.out.mono HBw.out.size)⟩
    · obtain ⟨b7, off7, cap7, a8, c8, rfl, hc7, hc7m, hb7l, q0, hsl, hI8, hB8⟩ := tail_ints HW.out
      have HI8 := Lib.hid hI8
      have HB8 := Lib.hid hB8
      have hb1 := HMU.out
      rw [List.length_cons] at hb1
      obtain ⟨f, rfl⟩ : ∃ f, gk = f + 1 := ⟨gk - 1, by omega⟩
      have HRL := Lib.hid (markQ_cons P f kid V m)
      have x0 : wr.cell? ⟨w.heap.size, 0, none⟩ = some (.slice a P.length cap) := HBXr.out.c0 0 _ rfl
      have hvn : (V.length : Int) + 1 ≤ 9223372036854775807 := by omega
      have hvn0 : (0 : Int) < (V.length : Int) + 1 := by omega
      have HMU2 : Hid (V.length + unm m * (kidsA P).length ≤ f) := Lib.hid (by omega)
      have HF1 : Hid (f ≤ 1000000) := Lib.hid (by have := HF.out; omega)
      have HWB7 : Hid (w1.heap.size ≤ b7) := Lib.hid (HWB.out b7 rfl)
      clear hI8 hB8 hb1
      by_cases hu : usedB P kid = true
      · obtain ⟨u0, u1⟩ := usedB_lt hu
        obtain ⟨k, rfl⟩ : ∃ k : Nat, kid = k := ⟨kid.toNat, by omega⟩
        have hk : k < P.length := by omega
        have hkz : (k : Int) < (P.length : Int) := by omega
        have HU := Lib.hid (HUS.out (k : Int) wr HBw.out)
        rw [hu] at HU HRL
        have HKL := Lib.hid (kids_len (i := k) (by have := (usedB_iff.1 hu).2; rwa [show ((k : Int)).toNat = k by omega] at this))
        clear hu u0 u1
        go_wp2_with fail
        refine HU.out.mono ?_
        rintro e w5 ⟨rfl, hb5⟩
        have HB5 := Lib.hid hb5
        have HM5 := Lib.hid (HM.out.below hb5 HM.out.lt)
        have m0 : w5.cell? ⟨w.heap.size + 1, k, none⟩ = some (.bool (mkd m k)) := HM5.out.c0 k _ (marks_get (by rw [HML.out]; exact hk))
        have f0 := HM5.out.free k
        have HS5 : Hid (w1.heap.size ≤ w5.heap.size) := Lib.hid (Nat.le_trans HSZ.out hb5.size)
        have HB15 : Hid (Below (w.heap.size + 1) w1 w5) := Lib.hid (HB.out.trans (hb5.mono (by have := HSZ.out; have := HL1.out; omega)))
        have HI5 := Lib.hid (HI8.out.below hb5)
        clear hb5 x0
        obtain ⟨q, hq⟩ : ∃ q, mkd m k = q := ⟨_, rfl⟩
        have Hq := Lib.hid hq
        rw [hq] at m0
        clear hq
        cases q
        · have HRL2 : Hid (markQ P (f + 1) ((k : Int) :: V) m = markQ P f (V ++ (atP P k).node.kids) (m.set k true)) := Lib.hid (by rw [HRL.out, show ((k : Int)).toNat = k by omega, Hq.out]; rfl)
          have HUN := Lib.hid (unm_set (by rw [HML.out]; exact hk) Hq.out)
          have HKN : Hid (V.length + (atP P k).node.kids.length + unm (m.set k true) * (kidsA P).length ≤ f) := Lib.hid (by
            have h1 := HMU2.out
            have h2 := HKL.out
            rw [← HUN.out, Nat.add_mul, Nat.one_mul] at h1
            omega)
          have HKL2 : Hid (V.length + (atP P k).node.kids.length ≤ 1000000) := Lib.hid (by have := HKN.out; have := HF1.out; omega)
          go_upto_region 8 with fail
          obtain ⟨w6, hw6⟩ : ∃ w6, w6 = w5.setCell ⟨w.heap.size + 1, k, none⟩ (.bool true) := ⟨_, rfl⟩
          have HM6 : Hid (Blk w6 (w.heap.size + 1) 4 (marksA (m.set k true))) := Lib.hid (by have := HM5.out.setCell k (.bool true); rw [marks_set] at this; rw [hw6]; exact this)
          have HB16 : Hid (Below (w.heap.size + 1) w1 w6) := Lib.hid (by rw [hw6]; exact HB15.out.setCell (by simp) _)
          have HI6 : Hid (IsInts w6 (.slice a8 V.length c8) V) := Lib.hid (by rw [hw6]; exact HI5.out.set _ _ _ (fun e => by have := HB8.out _ e; have := HWB7.out; have := HL1.out; omega))
          have HS6 : Hid (w1.heap.size ≤ w6.heap.size) := Lib.hid (by rw [hw6]; simp; exact HS5.out)
          rw [← hw6]
          clear hw6 m0 f0
          have HBw6 : Hid (Below w.heap.size w w6) := Lib.hid ((below_box _).trans ((HG1.out.trans HB16.out).mono (by omega)))
          have x6 := cell_all (show w6.cell? ⟨w.heap.size, 0, none⟩ = some (.slice a P.length cap) from (HBX1.out.below HB16.out (by omega)).c0 0 _ rfl)
          obtain ⟨bb, off, cap', s, he, hbl, hlz, hs, y0, y1, y2, y3, y4, y5, y6, y7⟩ := slot_at (H.out.below HBw6.out) k hk
          injection he with he1 he2 he3
          subst he1 he3
          clear he2
          have y5 := cell_all y5
          have HK6 : Hid (∀ wx, Below w6.heap.size w6 wx → IsInts wx (slv s.c) (atP P k).node.kids) := Lib.hid (fun wx hx => hs.kids.below hx)
          have HL0 : Hid (Below w6.heap.size w6 w6) := Lib.hid (Below.refl _ _)
          clear hs y0 y1 y2 y3 y4 y6 y7
          go_region_held3 (fun wx => Below w6.heap.size w6 wx)
            (repeat (first | with_reducible assumption | with_reducible exact HL0.out | with_reducible refine Below.drew ?_ | with_reducible refine keepP ?_ _))
            (first
              | (refine step_ints rfl _ _ rfl w6.heap.size (.slice (some ⟨w6.heap.size, 0, none⟩) 0 0) [] rfl (by first | exact own_emptyI w6 _ (Nat.le_refl _) | exact owns_below (own_emptyI w6 _ (Nat.le_refl _)) (below_drewN _ 1) | exact own_emptyI w6.drew _ (Nat.le_refl _)) (.slice a8 V.length c8) V rfl (HI6.out.below (by repeat (first | with_reducible exact HL0.out | with_reducible refine Below.drew ?_ | with_reducible refine keepP ?_ _))) (by simp only [List.length_nil]; have := HKL2.out; omega) (by simp) ?_; intro v3 y3 ho3 ht3; have hS3 : Below w6.heap.size w6 y3 := Below.trans (by repeat (first | with_reducible exact HL0.out | with_reducible refine Below.drew ?_ | with_reducible refine keepP ?_ _)) ht3)
              | (refine step_ints rfl _ _ rfl w6.heap.size v3 ([] ++ V) rfl (by first | with_reducible exact ho3 | with_reducible exact owns_below ho3 (below_drewN _ 1)) (slv s.c) (atP P k).node.kids rfl (HK6.out _ (by repeat (first | with_reducible assumption | with_reducible refine Below.drew ?_))) (by simp only [List.nil_append]; have := HKL2.out; omega) (hS3.size) ?_; intro v5 y9 ho5 ht5; have hS5 : Below w6.heap.size w6 y9 := hS3.trans ht5)
              | fail "no arm")
          rw [List.nil_append] at ho5
          have HI9 := Lib.hid (IsInts.owned ho5)
          have HV9 : Hid (∀ b, blkOf v5 = some b → w6.heap.size ≤ b) := Lib.hid (own_blkOf ho5)
          have HB9 := Lib.hid hS5
          clear ho3 ht3 hS3 ho5 ht5 hS5 x6 y5
          go_wp2
          go_roundg f
          case measure => omega
          case rel =>
            refine ⟨V ++ (atP P k).node.kids, m.set k true, HI9, Lib.hid (fun b hb => Nat.le_trans HS6.out (HV9.out b hb)), Lib.hid (HB16.out.trans (HB9.out.mono (by have := HS6.out; have := HL1.out; omega))), Lib.hid (Nat.le_trans HS6.out HB9.out.size), Lib.hid (HM6.out.below HB9.out HM6.out.lt), Lib.hid (by rw [List.length_set]; exact HML.out), Lib.hid (by rw [← HE.out, HRL2.out]), Lib.hid (by rw [List.length_append]; exact HKN.out), HF1⟩
        · have HRL2 : Hid (markQ P (f + 1) ((k : Int) :: V) m = markQ P f V m) := Lib.hid (by rw [HRL.out, show ((k : Int)).toNat = k by omega, Hq.out]; rfl)
          go_wp2
          go_roundg f
          case measure => omega
          case rel =>
            refine ⟨V, m, HI5, Lib.hid (fun b hb => by rw [HB8.out b hb]; exact HWB7.out), HB15, HS5, HM5, HML, Lib.hid (HRL2.out.symm.trans HE.out), HMU2, HF1⟩
      · have hu : usedB P kid = false := by simpa using hu
        have HU := Lib.hid (HUS.out kid wr HBw.out)
        rw [hu] at HU HRL
        have HRL2 : Hid (markQ P (f + 1) (kid :: V) m = markQ P f V m) := Lib.hid (by rw [HRL.out]; rfl)
        clear hu HRL
        go_wp2_with fail
        refine HU.out.mono ?_
        rintro e w5 ⟨rfl, hb5⟩
        have HB5 := Lib.hid hb5
        clear hb5 x0
        go_wp2
        go_roundg f
        case measure => omega
        case rel =>
          refine ⟨V, m, Lib.hid (HI8.out.below HB5.out), Lib.hid (fun b hb => by rw [HB8.out b hb]; exact HWB7.out), Lib.hid (HB.out.trans (HB5.out.mono (by have := HSZ.out; have := HL1.out; omega))), Lib.hid (Nat.le_trans HSZ.out HB5.out.size), Lib.hid (HM.out.below HB5.out HM.out.lt), HML, Lib.hid (HRL2.out.symm.trans HE.out), HMU2, HF1⟩

end Go.Proofs.Ytlgangcldlphnaa
