/-
  The walk of the law RouteKids.
-/
import Derived.Test.YtjncehkldhkobaaGreatSD
import Derived.Test.YtjncehkldhkobaaGreatSO
namespace Go.Proofs.YtjncehkldhkobaaGreat
open Go.RowKit Go.Sort
set_option linter.unusedVariables false

set_option maxRecDepth 100000 in
set_option maxHeartbeats 8000000 in
theorem routeKids_walk (w : World) (v0 : Value) (x0 : List Bs) (r0 : IsStrs w v0 x0) (v1 : Value) (x1 : Bs × Bs) (r1 : IsTwo w v1 x1) :
    Calls Tryz.prog 4 #[v0, v1] w fun e w' => e = .returned (.bool true) ∧ Below w.heap.size w w' := by
  have mixed := mixedA
  obtain ⟨k0, k1⟩ := x1
  obtain ⟨rfl, hl0, hl1⟩ := r1
  unfold maxLen at hl0 hl1
  have R0 := Lib.hid r0
  obtain ⟨a0, q0, rfl, hlc, hcm, -⟩ := r0
  unfold maxLen at hcm
  dsimp only at hl0 hl1
  have hbx := below_box (w := w) (.cells #[.string (Str k0), .string (Str k1)] 44)
  have hBk : Blk (w.alloc (.cells #[.string (Str k0), .string (Str k1)] 44)) w.heap.size 44 #[.string (Str k0), .string (Str k1)] := Blk.new _ _ _
  have HBX := Lib.hid hbx
  have HBK := Lib.hid hBk
  have HSAN := Lib.hid (sanity_w (w.alloc (.cells #[.string (Str k0), .string (Str k1)] 44)))
  clear hbx hBk
  by_cases hbig : 8 < x0.length ∨ 30 < k0.length ∨ 30 < k1.length
  · by_cases h8 : 8 < x0.length
    · have h8z : (8 : Int) < (x0.length : Int) := by omega
      clear hbig
      go_enter Tryz.func4, Tryz.ntmps4
      go_wp2_with (go_at_call 11; (refine HSAN.out.mono ?_); rintro e w1 ⟨rfl, hb1⟩; have HB1 : Hid (Below w.heap.size w w1) := Lib.hid (HBX.out.trans (hb1.mono HBX.out.size)); have HK1 := Lib.hid (HBK.out.below hb1 HBK.out.lt); have c0 := HK1.out.c0 0 _ rfl; have c1 := HK1.out.c0 1 _ rfl; clear hb1)
      go_ret
      exact ⟨rfl, HB1.out⟩
    · have h8z : (x0.length : Int) ≤ (8 : Int) := by omega
      by_cases h30 : 30 < k0.length
      · have h30z : (30 : Int) < (k0.length : Int) := by omega
        clear hbig h8
        go_enter Tryz.func4, Tryz.ntmps4
        go_wp2_with (go_at_call 11; (refine HSAN.out.mono ?_); rintro e w1 ⟨rfl, hb1⟩; have HB1 : Hid (Below w.heap.size w w1) := Lib.hid (HBX.out.trans (hb1.mono HBX.out.size)); have HK1 := Lib.hid (HBK.out.below hb1 HBK.out.lt); have c0 : w1.cell? ⟨w.heap.size, 0, none⟩ = some (.string (Str k0)) := HK1.out.c0 0 _ rfl; have c1 : w1.cell? ⟨w.heap.size, 1, none⟩ = some (.string (Str k1)) := HK1.out.c0 1 _ rfl; clear hb1)
        go_ret
        exact ⟨rfl, HB1.out⟩
      · have h30z : (k0.length : Int) ≤ (30 : Int) := by omega
        have h31z : (30 : Int) < (k1.length : Int) := by omega
        clear hbig h8 h30
        go_enter Tryz.func4, Tryz.ntmps4
        go_wp2_with (go_at_call 11; (refine HSAN.out.mono ?_); rintro e w1 ⟨rfl, hb1⟩; have HB1 : Hid (Below w.heap.size w w1) := Lib.hid (HBX.out.trans (hb1.mono HBX.out.size)); have HK1 := Lib.hid (HBK.out.below hb1 HBK.out.lt); have c0 : w1.cell? ⟨w.heap.size, 0, none⟩ = some (.string (Str k0)) := HK1.out.c0 0 _ rfl; have c1 : w1.cell? ⟨w.heap.size, 1, none⟩ = some (.string (Str k1)) := HK1.out.c0 1 _ rfl; clear hb1)
        go_ret
        exact ⟨rfl, HB1.out⟩
  · have h8 : x0.length ≤ 8 := by omega
    have h8z : (x0.length : Int) ≤ (8 : Int) := by omega
    have h30z : (k0.length : Int) ≤ (30 : Int) := by omega
    have h31z : (k1.length : Int) ≤ (30 : Int) := by omega
    clear hbig
    go_enter Tryz.func4, Tryz.ntmps4
    go_wp2_with (go_at_call 11; (refine HSAN.out.mono ?_); rintro e w1 ⟨rfl, hb1⟩; have HB1 : Hid (Below w.heap.size w w1) := Lib.hid (HBX.out.trans (hb1.mono HBX.out.size)); have HK1 := Lib.hid (HBK.out.below hb1 HBK.out.lt); have c0 : w1.cell? ⟨w.heap.size, 0, none⟩ = some (.string (Str k0)) := HK1.out.c0 0 _ rfl; have c1 : w1.cell? ⟨w.heap.size, 1, none⟩ = some (.string (Str k1)) := HK1.out.c0 1 _ rfl; clear hb1)
    have HS1 := Lib.hid (R0.out.below HB1.out)
    clear c0 c1
    go_wp2
    go_loop [6] (fun i => ∃ k : Nat, k ≤ x0.length ∧ i = .int .i64 k) (fun i => x0.length - (intOf i).toNat)
    case atStart => exact ⟨0, Nat.zero_le _, rfl⟩
    case round =>
      obtain ⟨k, hk, rfl⟩ := hrel
      by_cases hlt : k < x0.length
      · obtain ⟨b, off, cap', he, hbl, hlz, y0⟩ := str_cells HS1.out k hlt
        injection he with he1 he2 he3
        subst he1 he3
        clear he2
        have hltz : (k : Int) < (x0.length : Int) := by omega
        generalize x0[k] = x at *
        by_cases hx : 30 < x.length
        · have hxz : (30 : Int) < (x.length : Int) := by omega
          go_wp2
          go_ret
          exact ⟨rfl, HB1.out⟩
        · have hxz : (x.length : Int) ≤ (30 : Int) := by omega
          clear hx
          go_wp2
          go_round
          case rel => exact ⟨k + 1, by omega, by go_num⟩
          case measure => simp [intOf]; omega
      · obtain rfl : k = x0.length := by omega
        clear hk hlt
        go_wp2_with fail
        refine (pivots_w _ x0 w1 HS1.out (by omega)).mono ?_
        rintro e w2 ⟨vp, rfl, hs2, hb2⟩
        have HS2 := Lib.hid hs2
        have HB2 := Lib.hid (HB1.out.trans (hb2.mono HB1.out.size))
        have HK2 := Lib.hid (HK1.out.below hb2 HK1.out.lt)
        have hsr := pivF_srt x0 [] trivial
        have hpl := pivF_len x0 []
        simp only [List.length_nil] at hpl
        generalize pivF [] x0 = ps at *
        obtain ⟨ap, cp, rfl, hlp, hcp, -⟩ := hs2
        unfold maxLen at hcp
        have hRP := rparts_w [] [] _ ps w2 HS2.out (by omega)
        change Calls _ _ #[.agg #[.string ⟨#[]⟩, .string ⟨#[]⟩], _] _ fun e w' => ∃ v', e = .returned v' ∧ w'.ownsRow _ _ 2 v' (kidsS ps).length ((kidsS ps).flatMap encS) ∧ _ at hRP
        have HRP := Lib.hid hRP
        have HSR := Lib.hid hsr
        have HKL := Lib.hid (kids_len ps)
        clear hb2 hRP hsr
        go_wp2_with fail
        refine HRP.out.mono ?_
        rintro e w3 ⟨vk, rfl, ho3, hb3⟩
        have HI3 := Lib.hid (IsSpans.owned ho3)
        have HB3 := Lib.hid (HB2.out.trans (hb3.mono HB2.out.size))
        have HK3 := Lib.hid (HK2.out.below hb3 HK2.out.lt)
        have HS3 := Lib.hid (HS2.out.below hb3)
        obtain ⟨ak, ck, rfl, hlk, hck, -⟩ := IsSpans.owned ho3
        unfold maxLen at hck
        clear ho3 hb3 HRP
        have hx0 : ∀ wx, Below w3.heap.size w3 wx → wx.cell? ⟨w.heap.size, 0, none⟩ = some (.string (Str k0)) := fun wx hx => (HK3.out.below hx HK3.out.lt).c0 0 _ rfl
        have hx1 : ∀ wx, Below w3.heap.size w3 wx → wx.cell? ⟨w.heap.size, 1, none⟩ = some (.string (Str k1)) := fun wx hx => (HK3.out.below hx HK3.out.lt).c0 1 _ rfl
        have HL0 : Hid (Below w3.heap.size w3 w3) := Lib.hid (Below.refl _ _)
        have HKA := Lib.hid (fun wx (hx : Below w3.heap.size w3 wx) => kid_w _ ps k0 wx (HS3.out.below hx) HSR.out (by omega))
        have HKB := Lib.hid (fun wx (hx : Below w3.heap.size w3 wx) => kid_w _ ps k1 wx (HS3.out.below hx) HSR.out (by omega))
        have HKH := Lib.hid (fun k i (hi : i < (kidsS ps).length) => (by
          have h1 := kid_has HSR.out k (i := i) (by rw [HKL.out] at hi; exact hi)
          rw [kidSp_at (by rw [HKL.out] at hi; exact hi)] at h1
          exact h1 : hasB ((kidsS ps)[i]) k = decide (i = kidN k ps)))
        have HMN := Lib.hid (fun (h : Op.bytesLess k1 k0 = false) => kidN_mono h ps)
        have hka := kidN_le k0 ps
        have hkb := kidN_le k1 ps
        generalize kidsS ps = K at *
        generalize hna : kidN k0 ps = na at *
        generalize hnb : kidN k1 ps = nb at *
        go_wp2_with fail
        go_cut [9, 10] (fun s9 s10 wx => s9 = .int .i64 na ∧ s10 = .int .i64 nb ∧ Hid (Below w3.heap.size w3 wx))
        case first =>
          go_region_held3 (fun wx => Below w3.heap.size w3 wx)
            (repeat (first | with_reducible assumption | with_reducible exact HL0.out | with_reducible refine Below.drew ?_ | with_reducible refine keepA ?_ _))
            (first
              | (go_at_call_of 15 (Value.string (Str k0)); (refine (HKA.out _ (by repeat (first | with_reducible assumption | with_reducible exact HL0.out | with_reducible refine Below.drew ?_))).mono ?_); rintro e2 y2 ⟨rfl, hG2⟩; have hS2 : Below w3.heap.size w3 y2 := keepG (by repeat (first | with_reducible assumption | with_reducible exact HL0.out | with_reducible refine Below.drew ?_)) hG2)
              | (go_at_call 15; (refine (HKB.out _ (by repeat (first | with_reducible assumption | with_reducible exact HL0.out | with_reducible refine Below.drew ?_))).mono ?_); rintro e3 y3 ⟨rfl, hG3⟩; have hS3 : Below w3.heap.size w3 y3 := keepG (by repeat (first | with_reducible assumption | with_reducible exact HL0.out | with_reducible refine Below.drew ?_)) hG3)
              | fail "no arm")
          all_goals (go_wp2_with fail; go_meet)
          all_goals exact ⟨rfl, rfl, Lib.hid hS3⟩
        case rest =>
          obtain ⟨rfl, rfl, HBC⟩ := hcut
          clear hx0 hx1 HKA HKB
          have HKC := Lib.hid (HK3.out.below HBC.out HK3.out.lt)
          have HIC := Lib.hid (HI3.out.below HBC.out)
          have HBW := Lib.hid (HB3.out.trans (HBC.out.mono HB3.out.size))
          have hlkz : (K.length : Int) ≤ 9223372036854775807 := by omega
          go_wp2
          go_loopw [11] (fun i wr => ∃ k : Nat, k ≤ K.length ∧ i = .int .i64 k ∧ Below wc.heap.size wc wr) (fun i _ => K.length - (intOf i).toNat)
          case atStart => exact ⟨0, Nat.zero_le _, rfl, Below.refl _ _⟩
          case round =>
            obtain ⟨k, hk, rfl, hbel⟩ := hrel
            have Hbel := Lib.hid hbel
            have hsz := hbel.size
            clear hbel
            by_cases hlt : k < K.length
            · have hltz : (k : Int) < (K.length : Int) := by omega
              obtain ⟨b, off, cap', he, hbl, hlz, y0, y1⟩ := span_cells (HIC.out.below Hbel.out) k hlt
              injection he with he1 he2 he3
              subst he1 he3
              clear he2
              have h0 := HKH.out k0 k hlt
              have h1 := HKH.out k1 k hlt
              rw [hna] at h0
              rw [hnb] at h1
              have e0 : ((na : Int) == (k : Int)) = decide (k = na) := by
                rw [Bool.eq_iff_iff, beq_iff_eq, decide_eq_true_iff]; omega
              have e1 : ((nb : Int) == (k : Int)) = decide (k = nb) := by
                rw [Bool.eq_iff_iff, beq_iff_eq, decide_eq_true_iff]; omega
              generalize K[k] = x at *
              obtain ⟨xa, xb⟩ := x
              dsimp only at y0 y1
              have hr0 := fun wx => rhas_w xa xb k0 wx
              have hr1 := fun wx => rhas_w xa xb k1 wx
              simp only [h0] at hr0
              simp only [h1] at hr1
              generalize decide (k = na) = g0 at *
              generalize decide (k = nb) = g1 at *
              have HR0 := Lib.hid hr0
              have HR1 := Lib.hid hr1
              have hx0 : ∀ wx, Below wr.heap.size wr wx → wx.cell? ⟨w.heap.size, 0, none⟩ = some (.string (Str k0)) := fun wx hx => ((HKC.out.below Hbel.out HKC.out.lt).below hx (Nat.lt_of_lt_of_le HKC.out.lt hsz)).c0 0 _ rfl
              have hx1 : ∀ wx, Below wr.heap.size wr wx → wx.cell? ⟨w.heap.size, 1, none⟩ = some (.string (Str k1)) := fun wx hx => ((HKC.out.below Hbel.out HKC.out.lt).below hx (Nat.lt_of_lt_of_le HKC.out.lt hsz)).c0 1 _ rfl
              have hy0 : ∀ wx, Below wr.heap.size wr wx → wx.cell? ⟨b, off + k * 2, none⟩ = some (.string (Str xa)) := fun wx hx => (hx.cell (p := ⟨b, off + k * 2, none⟩) hbl).trans y0
              have hy1 : ∀ wx, Below wr.heap.size wr wx → wx.cell? ⟨b, off + k * 2 + 1, none⟩ = some (.string (Str xb)) := fun wx hx => (hx.cell (p := ⟨b, off + k * 2 + 1, none⟩) hbl).trans y1
              have HL1 : Hid (Below wr.heap.size wr wr) := Lib.hid (Below.refl _ _)
              clear h0 h1 hr0 hr1 y0 y1 hna hnb
              cases g0 <;> cases g1
              all_goals
                go_wp2_with fail
                go_region_held3 (fun wx => Below wr.heap.size wr wx)
                  (repeat (first | with_reducible assumption | with_reducible exact HL1.out | with_reducible refine Below.drew ?_ | with_reducible refine keepA ?_ _))
                  (first
                    | (go_at_call_of 27 (Value.string (Str k0)); (refine (HR0.out _).mono ?_); rintro e2 y2 ⟨rfl, hG2⟩; have hS2 : Below wr.heap.size wr y2 := keepG (by repeat (first | with_reducible assumption | with_reducible exact HL1.out | with_reducible refine Below.drew ?_)) hG2)
                    | (go_at_call 27; (refine (HR1.out _).mono ?_); rintro e3 y3 ⟨rfl, hG3⟩; have hS3 : Below wr.heap.size wr y3 := keepG (by repeat (first | with_reducible assumption | with_reducible exact HL1.out | with_reducible refine Below.drew ?_)) hG3)
                    | fail "no arm")
                all_goals
                  have HF : Hid (Below wc.heap.size wc y3) := Lib.hid (Hbel.out.trans (hS3.mono Hbel.out.size))
                  clear hS2 hS3 hG2 hG3 hx0 hx1 hy0 hy1
                  go_wp2
                  go_roundw
                  case rel => exact ⟨k + 1, by omega, by go_num, HF.out⟩
                  case measure => simp [intOf]; omega
            · obtain rfl : k = K.length := by omega
              have HKR := Lib.hid (HKC.out.below Hbel.out HKC.out.lt)
              have c0 : wr.cell? ⟨w.heap.size, 0, none⟩ = some (.string (Str k0)) := HKR.out.c0 0 _ rfl
              have c1 : wr.cell? ⟨w.heap.size, 1, none⟩ = some (.string (Str k1)) := HKR.out.c0 1 _ rfl
              have HF : Hid (Below w.heap.size w wr) := Lib.hid (HBW.out.trans (Hbel.out.mono HBW.out.size))
              have hgt : (!Op.bytesLess k0 k1 && !(k0 == k1)) = Op.bytesLess k1 k0 := by rw [← Bool.not_or, leq_eq, Bool.not_not]
              clear hlt hk
              cases hl : Op.bytesLess k1 k0 with
              | true =>
                rw [hl] at hgt
                clear hl
                go_wp2
                go_ret
                exact ⟨rfl, HF.out⟩
              | false =>
                have hab := HMN.out hl
                have habz : (na : Int) ≤ (nb : Int) := by omega
                rw [hl] at hgt
                clear hl
                go_wp2
                go_ret
                exact ⟨rfl, HF.out⟩

end Go.Proofs.YtjncehkldhkobaaGreat
